
import PyProof.Rows.All
import Wide.All
import OpenK.AllK
import Wide.FinOn
import Lean
import PyProof.EqAt
import PyProof.EqKinds
import PyProof.TupleCall
import PySem.Challenge.RW_tellroads_k40_fans
set_option Elab.async false
set_option linter.all false
set_option maxRecDepth 100000
namespace L2
open PySem PySem.Spec PyProof.Rows
abbrev Key := Sum Int Str
def keyIs : Key → Value → Bool
 | .inl k, v => Value.isInt k v
 | .inr x, v => Value.isStrOf x v
def keyH (w : World) : Key → Int
 | .inl k => hashInt k
 | .inr x => hashStr w x
theorem zy : ∀ {k : Key} {v : Value}, keyIs k v = true → (∃ i t, k = Sum.inl i ∧ v = Value.int i t) ∨ (∃ x t, k = Sum.inr x ∧ v = Value.str x t)
 | .inl i, v, h => by
   obtain ⟨t, e⟩ := Value.isInt_shape (k := i) (v := v) h
   exact .inl ⟨i, t, rfl, e⟩
 | .inr x, v, h => by
   obtain ⟨t, e⟩ := Value.isStrOf_shape (x := x) (v := v) h
   exact .inr ⟨x, t, rfl, e⟩
theorem keyIs_int (i : Int) (t : Tok) : keyIs (.inl i) (.int i t) = true := by simp [keyIs, Value.isInt]
theorem keyIs_str (x : Str) (t : Tok) : keyIs (.inr x) (.str x t) = true := by simp [keyIs, Value.isStrOf]
theorem key_ll (a b : Int) : decide ((Sum.inl a : Key) = Sum.inl b) = (a == b) := by
 by_cases e : a = b
 · subst e; simp
 · have h : ¬ (Sum.inl a : Key) = Sum.inl b := fun q => e (Sum.inl.inj q)
   rw [decide_eq_false h]
   exact (beq_eq_false_iff_ne.mpr e).symm
theorem key_rr (a b : Str) : decide ((Sum.inr a : Key) = Sum.inr b) = decide (a = b) := by
 by_cases e : a = b
 · subst e; simp
 · have h : ¬ (Sum.inr a : Key) = Sum.inr b := fun q => e (Sum.inr.inj q)
   rw [decide_eq_false h, decide_eq_false e]
theorem key_lr (a : Int) (b : Str) : decide ((Sum.inl a : Key) = Sum.inr b) = false := decide_eq_false (fun q => nomatch q)
theorem key_rl (a : Str) (b : Int) : decide ((Sum.inr a : Key) = Sum.inl b) = false := decide_eq_false (fun q => nomatch q)
def vB (prog : Program) (w : World) : PySem.KeyKind prog w Key where
 is := keyIs
 hash := keyH w
 inj := fun v a b ha hb => by
   rcases zy ha with ⟨i, t, rfl, rfl⟩ | ⟨x, t, rfl, rfl⟩
   · rcases zy hb with ⟨j, u, rfl, e⟩ | ⟨y, u, rfl, e⟩
     · injection e with e1 _; rw [e1]
     · exact nomatch e
   · rcases zy hb with ⟨j, u, rfl, e⟩ | ⟨y, u, rfl, e⟩
     · exact nomatch e
     · injection e with e1 _; rw [e1]
 byValue := fun k v h => by
   rcases zy h with ⟨i, t, rfl, rfl⟩ | ⟨x, t, rfl, rfl⟩ <;> rfl
 pyHash := fun hv h => by
   rcases zy hv with ⟨i, t, rfl, rfl⟩ | ⟨x, t, rfl, rfl⟩
   · exact wpAny_pyHash_int h
   · exact wpAny_pyHash_str h
 eqBool := fun hu hv h => by
   rcases zy hu with ⟨i, t, rfl, rfl⟩ | ⟨x, t, rfl, rfl⟩
   · rcases zy hv with ⟨j, u, rfl, rfl⟩ | ⟨y, u, rfl, rfl⟩
     · rw [key_ll] at h; exact wpAny_eqBool_int h
     · rw [key_lr] at h; exact SeqAt.EqAt.int_str i t y u _ _ _ _ h
   · rcases zy hv with ⟨j, u, rfl, rfl⟩ | ⟨y, u, rfl, rfl⟩
     · rw [key_rl] at h; exact SeqAt.EqAt.str_int x t j u _ _ _ _ h
     · rw [key_rr] at h; exact wpAny_eqBool_str h
 «strs» := fun k x t v h => by
   rcases zy h with ⟨i, u, rfl, e⟩ | ⟨y, u, rfl, e⟩
   · exact nomatch e
   · injection e with e1 _
     subst e1
     cases v <;> rfl
theorem mixKind_int (prog : Program) (w : World) (i : Int) (t : Tok) : (vB prog w).is (.inl i) (.int i t) = true := keyIs_int i t
theorem mixKind_str (prog : Program) (w : World) (x : Str) (t : Tok) : (vB prog w).is (.inr x) (.str x t) = true := keyIs_str x t
end L2
namespace L2
open PySem PySem.Spec PyProof.Rows
inductive V where
 | non | bl (b : Bool) | int (i : Int) | str (x : Str) | byt (b : Array UInt8) | flt (b : UInt64) | ref (a : Addr) | ty (n : String)
 deriving DecidableEq
def RelV : V → Value → Prop
 | .non, u => u = Value.none
 | .bl b, u => u = Value.bool b
 | .int i, u => ∃ t, u = Value.int i t
 | .str x, u => ∃ t, u = Value.str x t
 | .byt b, u => ∃ t, u = Value.bytes b t
 | .flt b, u => ∃ t, u = Value.float b t
 | .ref a, u => u = Value.ref a
 | .ty n, u => u = Value.type n
abbrev Vals : List V → List Value → Prop := Paired RelV
theorem Vals.length {xs : List V} {us : List Value} (r : Vals xs us) : xs.length = us.length := Paired.length r
theorem Vals.get : ∀ {xs : List V} {us : List Value} {i : Nat} {x : V}, Vals xs us → xs[i]? = some x → ∃ u, us[i]? = some u ∧ RelV x u
 | _, _, _, _, .nil, e => by simp at e
 | _, _, 0, _, .cons r _, e => by simp at e; subst e; exact ⟨_, rfl, r⟩
 | _, _, i + 1, x, .cons _ t, e => by
   obtain ⟨u, h1, h2⟩ := Vals.get (i := i) (x := x) t (by simpa using e)
   exact ⟨u, by simpa using h1, h2⟩
theorem Vals.set {x : V} {u : Value} (r : RelV x u) : ∀ {xs : List V} {us : List Value} (i : Nat), Vals xs us → Vals (xs.set i x) (us.set i u)
 | _, _, _, .nil => .nil
 | _, _, 0, .cons _ t => .cons r t
 | _, _, i + 1, .cons q t => .cons q (Vals.set r i t)
theorem Vals.append : ∀ {xs ys : List V} {us ws : List Value}, Vals xs us → Vals ys ws → Vals (xs ++ ys) (us ++ ws)
 | _, _, _, _, .nil, s => s
 | _, _, _, _, .cons r t, s => .cons r (Vals.append t s)
theorem Vals.take : ∀ {xs : List V} {us : List Value} (n : Nat), Vals xs us → Vals (xs.take n) (us.take n)
 | _, _, 0, _ => .nil
 | _, _, _ + 1, .nil => .nil
 | _, _, n + 1, .cons r t => .cons r (Vals.take n t)
theorem Vals.drop : ∀ {xs : List V} {us : List Value} (n : Nat), Vals xs us → Vals (xs.drop n) (us.drop n)
 | _, _, 0, r => r
 | _, _, _ + 1, .nil => .nil
 | _, _, n + 1, .cons _ t => Vals.drop n t
theorem Vals.none_of : ∀ {xs : List V} {us : List Value} {i : Nat}, Vals xs us → xs[i]? = none → us[i]? = none := fun {xs us i} r e => by
 have h1 := r.length
 have h2 : xs.length ≤ i := List.getElem?_eq_none_iff.mp e
 exact List.getElem?_eq_none_iff.mpr (by omega)
def RelO : Option V → Option Value → Prop
 | some v, some u => RelV v u
 | none, none => True
 | _, _ => False
def KV {κ : Type} : List (κ × V) → List (κ × Value) → Prop := Paired fun (p : κ × V) (q : κ × Value) => p.1 = q.1 ∧ RelV p.2 q.2
def kV : Key → V
 | .inl i => .int i
 | .inr x => .str x
inductive HO where
 /-- a list -/
 | lst (xs : List V)
 /-- a tuple (never changes) -/
 | tup (xs : List V)
 /-- a dict whose keys are ints and texts; one whose keys are tuples of ints and texts (the empty one is both) -/
 | dK (kvs : List (Key × V)) | dT (kvs : List (List Key × V))
 /-- a set of ints: its members, its size -/
 | set (S : Int → Bool) (n : Nat)
 /-- an instance of the class at C, its dict at dx, its attributes -/
 | ins (C dx : Addr) (fs : List (Str × V))
 /-- the dict of the instance at x -/
 | own (x : Addr)
 /-- the dict of an exception -/
 | xd (fs : List (Str × V))
 /-- a bound method, f of x -/
 | met (f x : Addr)
 /-- a range object lo, lo + 1, .. below hi -/
 | rng (lo hi : Int)
 /-- a thing that is known to the object (the script; a dict while a loop walks it): read, never written while it is so -/
 | frz (o : Obj) (u : HO)
 /-- a code object's table -/
 | tbl (ps : Array Value)
 /-- any other thing, by what is true of its one object (a def of one's own: SetO a S n := HO.ext fun h => ..) -/
 | ext (φ : Heap → Prop)
abbrev Hp := Addr → Option HO
def upd (H : Hp) (a : Addr) (o : HO) : Hp := fun b => if b = a then some o else H b
theorem qQ {H : Hp} {a : Addr} {o : HO} : upd H a o a = some o := by unfold upd; rw [if_pos rfl]
theorem qY {H : Hp} {a b : Addr} {o : HO} (h : b ≠ a) : upd H a o b = H b := by unfold upd; rw [if_neg h]
theorem upd_upd {H : Hp} {a : Addr} {o u : HO} : upd (upd H a o) a u = upd H a u := by
 funext b; unfold upd; split <;> rfl
theorem zJ {H : Hp} {a b : Addr} {o u : HO} (h : H a = some o) (h' : H b = some u) (d : o ≠ u) : a ≠ b := by
 intro e; subst e; rw [h] at h'; exact d (Option.some.inj h')
theorem qB {H : Hp} {a b : Addr} {o : HO} (h : H a = some o) (h' : H b = none) : a ≠ b := by
 intro e; subst e; rw [h] at h'; cases h'
section
variable (P : Program) (w : World)
def ObjOk (H : Hp) (h : Heap) (a : Addr) : HO → Prop
 | .lst xs => xs.length ≤ sizeLine ∧ ∃ (its : List Value) (n : Nat), Vals xs its ∧ h.get? a = some { cls := .type "list", data := .seq its.toArray n }
 | .tup xs => xs.length ≤ sizeLine ∧ ∃ its : List Value, Vals xs its ∧ IsTup h a its.toArray
 | .dK kvs => kvs.length ≤ sizeLine ∧ (a == sysModules) = false ∧ ∃ vs, KV kvs vs ∧ h.DictOf (vB P w) a vs
 | .dT kvs => kvs.length ≤ sizeLine ∧ (a == sysModules) = false ∧ ∃ xs : List (List Key × Addr × Value),
     Paired (fun (p : List Key × V) (q : List Key × Addr × Value) => p.1 = q.1 ∧ H q.2.1 = some (.tup (p.1.map kV)) ∧ RelV p.2 q.2.2) kvs xs ∧
     ∃ o es ep, h.get? a = some o ∧ o.ExactDict ∧ o.data = .dict es ep ∧ es.toList = xs.map (entryOfKey (tupleKind (vB P w))) ∧ (xs.map (·.1)).Nodup
 | .set S n => h.SetOf (intKind P w) a S n
 | .ins C dx fs => H dx = some (.own a) ∧ fs.length ≤ 1000 ∧ dx ≠ a ∧ h.get? a = some (W.instObj C dx) ∧
     ∃ mA, h.Ns1 dx mA ∧ (∀ f, RelO (fs.lookup f) (mA f)) ∧ PySem.Within mA (fs.map (·.1))
 | .own _ => ∃ o, h.get? a = some o
 | .xd fs => ∃ mA, h.Ns1 a mA ∧ ∀ f, RelO (fs.lookup f) (mA f)
 | .rng lo hi => ∃ t u v, h.get? a = some { cls := .type "range", data := .fields #[.int lo t, .int hi u, .int 1 v] }
 | .frz o u => h.get? a = some o ∧ ObjOk H h a u
 | .tbl ps => h.get? a = some { cls := .none, data := .fields ps }
 | .met f x => h.get? a = some (W.methodObj (.ref f) (.ref x))
 | .ext φ => φ h ∧ (∃ o, h.get? a = some o) ∧ ∀ h1 h2 : Heap, φ h1 → (∀ o, h1.get? a = some o → h2.get? a = some o) → φ h2
def HOk (H : Hp) (h : Heap) : Prop := ∀ a o, H a = some o → ObjOk P w H h a o
end
section
variable {P : Program} {w : World} {H H' : Hp} {h h' : Heap} {a : Addr} {o : HO}
theorem ObjOk.lt (x : ObjOk P w H h a o) : a < h.objs.size := by
 cases o with
 | lst xs => obtain ⟨_, _, _, _, e⟩ := x; exact Heap.lt_size e
 | tup xs => obtain ⟨_, _, _, p⟩ := x; exact p.lt
 | dK kvs => obtain ⟨_, _, _, _, o, _, _, e, _⟩ := x; exact Heap.lt_size e
 | dT kvs => obtain ⟨_, _, _, _, o, _, _, e, _⟩ := x; exact Heap.lt_size e
 | set S n => obtain ⟨o, _, _, _, e, _⟩ := x; exact Heap.lt_size e
 | ins C dx fs => obtain ⟨_, _, _, e, _⟩ := x; exact Heap.lt_size e
 | own y => obtain ⟨_, e⟩ := x; exact Heap.lt_size e
 | xd fs => obtain ⟨_, ⟨_, _, _, e, _⟩, _⟩ := x; exact Heap.lt_size e
 | rng lo hi => obtain ⟨_, _, _, e⟩ := x; exact Heap.lt_size e
 | frz ob u => obtain ⟨e, _⟩ := x; exact Heap.lt_size e
 | tbl ps => exact Heap.lt_size (show h.get? a = some _ from x)
 | met f y => exact Heap.lt_size (show h.get? a = some _ from x)
 | ext φ => obtain ⟨_, ⟨_, e⟩, _⟩ := x; exact Heap.lt_size e
theorem Paired.mapP {α β : Type} {F G : α → β → Prop} : ∀ {l₁ : List α} {l₂ : List β}, Paired F l₁ l₂ → (∀ a b, F a b → G a b) → Paired G l₁ l₂
 | _, _, .nil, _ => .nil
 | _, _, .cons r t, f => .cons (f _ _ r) (Paired.mapP t f)
theorem ObjOk.stay (x : ObjOk P w H h a o) (k : ∀ b u, (b = a ∨ H b = some (.own a)) → h.get? b = some u → h'.get? b = some u)
   (ho : ∀ b, H b = some (.own a) → H' b = some (.own a)) (ht : ∀ b xs, H b = some (.tup xs) → H' b = some (.tup xs)) : ObjOk P w H' h' a o := by
 induction o with
 | lst xs => obtain ⟨z, its, n, r, e⟩ := x; exact ⟨z, its, n, r, k _ _ (.inl rfl) e⟩
 | tup xs => obtain ⟨z, its, r, ob, e, c⟩ := x; exact ⟨z, its, r, ob, k _ _ (.inl rfl) e, c⟩
 | dK kvs => obtain ⟨z, y, vs, r, ob, es, ep, e, c⟩ := x; exact ⟨z, y, vs, r, ob, es, ep, k _ _ (.inl rfl) e, c⟩
 | dT kvs =>
   obtain ⟨z, y, xs, r, ob, es, ep, e, c⟩ := x
   exact ⟨z, y, xs, Paired.mapP r fun p q z => ⟨z.1, ht _ _ z.2.1, z.2.2⟩, ob, es, ep, k _ _ (.inl rfl) e, c⟩
 | set S n => obtain ⟨ob, es, ep, t, e, c⟩ := x; exact ⟨ob, es, ep, t, k _ _ (.inl rfl) e, c⟩
 | ins C dx fs =>
   obtain ⟨d, z, ne, e, mA, ⟨od, es, ep, e2, c⟩, r⟩ := x
   exact ⟨ho _ d, z, ne, k _ _ (.inl rfl) e, mA, ⟨od, es, ep, k _ _ (.inr d) e2, c⟩, r⟩
 | own y => obtain ⟨ob, e⟩ := x; exact ⟨ob, k _ _ (.inl rfl) e⟩
 | xd fs => obtain ⟨mA, ⟨od, es, ep, e, c⟩, r⟩ := x; exact ⟨mA, ⟨od, es, ep, k _ _ (.inl rfl) e, c⟩, r⟩
 | rng lo hi => obtain ⟨t, u, v, e⟩ := x; exact ⟨t, u, v, k _ _ (.inl rfl) e⟩
 | frz ob u ih => obtain ⟨e, q⟩ := x; exact ⟨k _ _ (.inl rfl) e, ih q⟩
 | tbl ps =>
   have e : h.get? a = some { cls := .none, data := .fields ps } := x
   show h'.get? a = some { cls := .none, data := .fields ps }
   exact k a _ (.inl rfl) e
 | met f y =>
   have e : h.get? a = some (W.methodObj (.ref f) (.ref y)) := x
   show h'.get? a = some (W.methodObj (.ref f) (.ref y))
   exact k a _ (.inl rfl) e
 | ext φ => obtain ⟨p, ⟨o, e⟩, st⟩ := x; exact ⟨st _ _ p fun o q => k _ _ (.inl rfl) q, ⟨o, k _ _ (.inl rfl) e⟩, st⟩
theorem HOk.lt (x : HOk P w H h) (e : H a = some o) : a < h.objs.size := (x a o e).lt
theorem HOk.fresh (x : HOk P w H h) (e : h.objs.size ≤ a) : H a = none := by
 cases q : H a with
 | none => rfl
 | some u => exact absurd (Nat.lt_of_lt_of_le (x.lt q) e) (Nat.lt_irrefl _)
theorem HOk.kept (x : HOk P w H h) (k : ∀ b u, h.get? b = some u → h'.get? b = some u) : HOk P w H h' := fun a o e =>
 (x a o e).stay (fun b u _ q => k b u q) (fun _ q => q) fun _ _ q => q
theorem HOk.laid (x : HOk P w H h) (k : ∀ b u, h.get? b = some u → h'.get? b = some u) (hp : h.objs.size ≤ a) (new : ObjOk P w (upd H a o) h' a o) : HOk P w (upd H a o) h' := fun b u e => by
 have hn := x.fresh hp
 by_cases hb : b = a
 · subst hb; rw [qQ] at e; cases e; exact new
 · rw [qY hb] at e
   exact (x b u e).stay (fun c v _ q => k c v q) (fun c q => by rw [qY (qB q hn)]; exact q) fun c xs q => by rw [qY (qB q hn)]; exact q
end
def Rd (H : Hp) (a : Addr) (u : HO) : Prop := H a = some u ∨ ∃ o, H a = some (.frz o u)
theorem Rd.of {H : Hp} {a : Addr} {u : HO} (h : H a = some u) : Rd H a u := .inl h
theorem Rd.ok {P : Program} {w : World} {H : Hp} {h : Heap} {a : Addr} {u : HO} (r : Rd H a u) (x : HOk P w H h) : ObjOk P w H h a u := by
 rcases r with r | ⟨o, r⟩
 · exact x a u r
 · obtain ⟨_, q⟩ := x a _ r
   exact q
def Mut : Option HO → Prop
 | some (.lst _) => True
 | some (.dK _) => True
 | some (.dT _) => True
 | some (.set _ _) => True
 | some (.ins _ _ _) => True
 | some (.ext _) => True
 | _ => False
section
variable {P : Program} {w : World} {H : Hp} {h h' : Heap} {x e : Addr} {o' : HO}
theorem HOk.write (ok : HOk P w H h) (mu : Mut (H x)) (he : e = x ∨ H e = some (.own x)) (k : ∀ b u, b ≠ e → h.get? b = some u → h'.get? b = some u) (heo : ∃ u, h'.get? e = some u)
   (new : ObjOk P w (upd H x o') h' x o') : HOk P w (upd H x o') h' := fun b u q => by
 have nown : ∀ c y, H c = some (.own y) → c ≠ x := fun c y r z => by subst z; rw [r] at mu; exact mu
 have ntup : ∀ c xs, H c = some (.tup xs) → c ≠ x := fun c xs r z => by subst z; rw [r] at mu; exact mu
 by_cases hb : b = x
 · subst hb; rw [qQ] at q; cases q; exact new
 · rw [qY hb] at q
   by_cases hbe : b = e
   · have q' : H b = some (.own x) := by
       rcases he with z | z
       · exact absurd (hbe.trans z) hb
       · rw [hbe]; exact z
     rw [q] at q'; cases q'
     obtain ⟨v, hv⟩ := heo
     exact ⟨v, by rw [hbe]; exact hv⟩
   · refine (ok b u q).stay (fun c v hc r => k c v ?_ r) (fun c r => by rw [qY (nown c b r)]; exact r) fun c xs r => by rw [qY (ntup c xs r)]; exact r
     rcases hc with rfl | hc
     · exact hbe
     · rintro rfl
       rcases he with z | z
       · exact nown c b hc z
       · rw [hc] at z; cases z; exact hb rfl
end
structure Un (fs ex : List Addr) (H H' : Hp) (h h' : Heap) : Prop where
 keep : ∀ b o, h.get? b = some o → H b = none → b ∉ fs → b ∉ ex → h'.get? b = some o
 slot : ∀ b o, h.get? b = some o → H b = none → b ∈ fs → b ∉ ex → ∃ sl, h'.get? b = some { o with slots := sl }
 free : ∀ b o, h.get? b = some o → H b = none → b ∉ ex → H' b = none
 there : ∀ b o, h.get? b = some o → b ∉ ex → ∃ o', h'.get? b = some o'
 tups : ∀ b xs, H b = some (.tup xs) → H' b = some (.tup xs)
 frzs : ∀ b o u, H b = some (.frz o u) → H' b = some (.frz o u)
 tbls : ∀ b ps, H b = some (.tbl ps) → ∃ more, H' b = some (.tbl (ps ++ more))
section
variable {fs fs' ex ex' : List Addr} {H H1 H2 : Hp} {h h1 h2 h' : Heap} {a x e : Addr} {o : HO}
theorem Un.any (u : Un fs ex H H1 h h1) {b : Addr} {ob : Obj} (q : h.get? b = some ob) (n : H b = none) (hx : b ∉ ex) : ∃ sl, h1.get? b = some { ob with slots := sl } := by
 by_cases hb : b ∈ fs
 · exact u.slot b ob q n hb hx
 · exact ⟨ob.slots, u.keep b ob q n hb hx⟩
theorem Un.trans (a : Un fs ex H H1 h h1) (b : Un fs ex H1 H2 h1 h2) : Un fs ex H H2 h h2 where
 keep := fun c ob q n hc hx => b.keep c ob (a.keep c ob q n hc hx) (a.free c ob q n hx) hc hx
 slot := fun c ob q n hc hx => by
   obtain ⟨sl, e1⟩ := a.slot c ob q n hc hx
   obtain ⟨sl', e2⟩ := b.slot c _ e1 (a.free c ob q n hx) hc hx
   exact ⟨sl', e2⟩
 free := fun c ob q n hx => by
   obtain ⟨o', e1⟩ := a.there c ob q hx
   exact b.free c o' e1 (a.free c ob q n hx) hx
 there := fun c ob q hx => by
   obtain ⟨o', e1⟩ := a.there c ob q hx
   exact b.there c o' e1 hx
 tups := fun c xs q => b.tups c xs (a.tups c xs q)
 frzs := fun c ob xs q => b.frzs c ob xs (a.frzs c ob xs q)
 tbls := fun c ps q => by
   obtain ⟨m1, e1⟩ := a.tbls c ps q
   obtain ⟨m2, e2⟩ := b.tbls c _ e1
   exact ⟨m1 ++ m2, by rw [e2, Array.append_assoc]⟩
theorem Un.kept (k : ∀ b u, h.get? b = some u → h'.get? b = some u) : Un fs ex H H h h' :=
 ⟨fun b ob q _ _ _ => k b ob q, fun b ob q _ _ _ => ⟨ob.slots, k b ob q⟩, fun _ _ _ n _ => n, fun b ob q _ => ⟨ob, k b ob q⟩, fun _ _ q => q, fun _ _ _ q => q, fun _ ps q => ⟨#[], by rw [q]; simp⟩⟩
theorem Un.refl : Un fs ex H H h h := Un.kept fun _ _ q => q
theorem Un.laid (k : ∀ b u, h.get? b = some u → h'.get? b = some u) (hp : h.objs.size ≤ a) (hn : H a = none) : Un fs ex H (upd H a o) h h' where
 keep := fun b u q _ _ _ => k b u q
 slot := fun b u q _ _ _ => ⟨u.slots, k b u q⟩
 free := fun b u q n _ => by rw [qY (Nat.ne_of_lt (Nat.lt_of_lt_of_le (Heap.lt_size q) hp))]; exact n
 there := fun b u q _ => ⟨u, k b u q⟩
 tups := fun b xs q => by rw [qY (qB q hn)]; exact q
 frzs := fun b u xs q => by rw [qY (qB q hn)]; exact q
 tbls := fun b ps q => ⟨#[], by rw [qY (qB q hn), q]; simp⟩
theorem Un.write (mu : Mut (H x)) (he : e = x ∨ H e = some (.own x)) (k : ∀ b u, b ≠ e → h.get? b = some u → h'.get? b = some u) (heo : ∃ u, h'.get? e = some u) : Un fs ex H (upd H x o) h h' := by
 have hx : ∀ b, H b = none → b ≠ x := fun b n z => by subst z; rw [n] at mu; exact mu
 have hb : ∀ b, H b = none → b ≠ e := fun b n z => by
   subst z
   rcases he with r | r
   · exact hx b n r
   · rw [n] at r; cases r
 have hm : ∀ b u, H b = some u → ¬ Mut (some u) → b ≠ x := fun b u q nm z => by subst z; rw [q] at mu; exact nm mu
 refine ⟨fun b u q n _ _ => k b u (hb b n) q, fun b u q n _ _ => ⟨u.slots, k b u (hb b n) q⟩, fun b u q n _ => by rw [qY (hx b n)]; exact n, fun b u q _ => ?_,
   fun b xs q => by rw [qY (hm b _ q fun z => z)]; exact q, fun b u xs q => by rw [qY (hm b _ q fun z => z)]; exact q, fun b ps q => ⟨#[], by rw [qY (hm b _ q fun z => z), q]; simp⟩⟩
 by_cases hbe : b = e
 · subst hbe; exact heo
 · exact ⟨u, k b u hbe q⟩
theorem Un.mono (u : Un fs ex H H1 h h1) (hs : ∀ b ∈ fs, b ∈ fs') (hx : ∀ b ∈ ex, b ∈ ex') : Un fs' ex' H H1 h h1 :=
 ⟨fun b ob q n hb he => u.keep b ob q n (fun z => hb (hs b z)) fun z => he (hx b z), fun _ _ q n _ he => u.any q n fun z => he (hx _ z), fun b ob q n he => u.free b ob q n fun z => he (hx b z), fun b ob q he => u.there b ob q fun z => he (hx b z), u.tups, u.frzs, u.tbls⟩
end
def trk (h : Heap) (H : Hp) : List Addr := (List.range h.objs.size).filter fun a => (H a).isSome
def hidT (h : Heap) (H : Hp) : Heap := W.hideAll h (trk h H)
theorem hidT_size (h : Heap) (H : Hp) : (hidT h H).objs.size = h.objs.size := W.hideAll_size _ _
theorem hidT_get {h : Heap} {H : Hp} {b : Addr} {o : Obj} (e : h.get? b = some o) (n : H b = none) : (hidT h H).get? b = some o :=
 W.hideAll_get _ e fun hm => by
   have q : (H b).isSome = true := (List.mem_filter.mp hm).2
   rw [n] at q; simp at q
theorem of_hidT {h : Heap} {H : Hp} {b : Addr} {o : Obj} (e : (hidT h H).get? b = some o) : h.get? b = some o ∧ H b = none := by
 have e' : h.get? b = some o := W.of_hideAll (trk h H) e
 refine ⟨e', ?_⟩
 cases q : H b with
 | none => rfl
 | some x =>
   have hm : b ∈ trk h H := List.mem_filter.mpr ⟨List.mem_range.mpr (Heap.lt_size e'), by simp [q]⟩
   have z : (hidT h H).get? b = none := W.hideAll_none (trk h H) hm
   rw [z] at e; cases e
def allNews (g h : Heap) (L : Addr) : List (Addr × Obj) := (List.range h.objs.size).filterMap fun a => if a = L ∨ (g.get? a).isSome = true then none else (h.get? a).map fun o => (a, o)
def rest (g h : Heap) (L d : Addr) : List (Addr × Obj) := (allNews g h L).filter fun p => decide (p.1 ≠ d)
end L2
namespace L2
open PySem PySem.Spec PyProof.Rows
structure Mod (K : W.Frag) (mg : Str → Option Value) (base : Heap) : Prop where
 kin : K.In base
 glob : base.Ns mainGlobals mg
 blt : ∃ mb, base.Ns builtinsNs mb ∧ ∀ x : Str, x ≠ "__name__" → mb x = bootBuiltins x
 nolimit : base.NoLimit
structure Cx where
 prog : Program
 w : World
 K : W.Frag
 mg : Str → Option Value
 base : Heap
 A : Around
 N : List Str
 s₀ : Shared
 H₀ : Hp
 env : Env
 outer : List Env
 stack : List Env
 ex : List Addr
 fn : Str → Bool
 calm : Bool
 pn : List (Addr × Obj)
 xe : Value → Shared → Prop
def frs (l : List Env) : List Addr := l.filterMap (·.frame)
abbrev Cx.fs (X : Cx) : List Addr := frs X.outer
def Vis (sc : Scope) (x : Str) : Prop := sc.names.lookup x = some .local ∨ sc.names.lookup x = some .cell ∨ sc.names.lookup x = some .free
def Loc (sc : Scope) (x : Str) : Prop := sc.names.lookup x = some .local ∨ sc.names.lookup x = some .cell
def Look (env : Env) (h : Heap) (m : Str → Option Value) (x : Str) (u : Value) : Prop :=
 (env.kindOf x = some .local ∧ m x = some u) ∨ ((env.kindOf x = some .cell ∨ env.kindOf x = some .free) ∧ ∃ c, env.cells.lookup x = some c ∧ h.IsCell c (some u))
structure Cx.Ok (X : Cx) : Prop where
 mod : Mod X.K X.mg X.base
 kind : X.env.scope.kind = .function
 glob : X.env.globals = mainGlobals
 blt : X.env.builtins = builtinsNs
 above : X.s₀.heap.objs.size ≤ X.env.locals
 inj : ∀ x y c, X.env.cells.lookup x = some c → X.env.cells.lookup y = some c → x = y
 has : ∀ x, (X.env.kindOf x = some .cell ∨ X.env.kindOf x = some .free) → ∃ c, X.env.cells.lookup x = some c
 cab : ∀ x c, X.fn x = true → X.env.cells.lookup x = some c → X.s₀.heap.objs.size ≤ c
 hd : X.calm = true → X.A.handled = none
 frames : X.A.frames = some X.stack
 stk : X.stack = X.outer ∨ (X.stack = X.env :: X.outer ∧ X.env.frame = some X.env.locals)
 exf : ∀ b ∈ X.ex, b ≠ X.env.locals ∧ ∀ x c, X.env.cells.lookup x = some c → c ≠ b
 bs : ∀ b o, X.base.get? b = some o → X.s₀.heap.get? b = some o ∧ X.H₀ b = none
 bsz : X.base.objs.size ≤ X.s₀.heap.objs.size
 noex : ∀ b o, X.base.get? b = some o → b ∉ X.ex
 exfs : ∀ b ∈ X.ex, b ∉ X.fs
 funs : X.s₀.heap.FunFrames X.base X.outer
 frf : ∀ b ∈ X.fs, X.H₀ b = none
structure Inv (X : Cx) (pins : List (Addr × Obj)) (σ : List (Option V)) (H : Hp) (s : Shared) : Prop where
 ok : X.Ok
 os : s.os = X.s₀.os
 bare : AllBare s.gens
 base : Un X.fs X.ex X.H₀ H X.s₀.heap s.heap
 loc : ∃ m, s.heap.Ns X.env.locals m ∧ ∀ (i : Nat) (x : Str) (v : V), X.N[i]? = some x → σ[i]? = some (some v) → Vis X.env.scope x → ∃ u, RelV v u ∧ Look X.env s.heap m x u
 cell : ∀ x c, X.env.cells.lookup x = some c → ∃ v, s.heap.IsCell c v
 free : H X.env.locals = none
 freeC : ∀ x c, X.env.cells.lookup x = some c → H c = none
 pin : ∀ p ∈ X.pn ++ pins, s.heap.get? p.1 = some p.2 ∧ H p.1 = none ∧ p.1 ≠ X.env.locals ∧ p.1 ∉ X.fs ∧ ∀ v, p.2.data ≠ .cell v
 hok : HOk X.prog X.w H s.heap
 len : σ.length = X.N.length
section
variable {X : Cx} {pins : List (Addr × Obj)} {σ : List (Option V)} {H H' : Hp} {s : Shared} {h' : Heap}
theorem Cx.Ok.nofr (ok : X.Ok) {b : Addr} {o : Obj} (e : X.base.get? b = some o) : b ∉ X.fs := fun hb => by
 have := (ok.funs.mem hb).1
 rw [e] at this; cases this
theorem Inv.bs (I : Inv X pins σ H s) : ∀ b o, X.base.get? b = some o → s.heap.get? b = some o ∧ H b = none := fun b o e =>
 ⟨I.base.keep b o (I.ok.bs b o e).1 (I.ok.bs b o e).2 (I.ok.nofr e) (I.ok.noex b o e), I.base.free b o (I.ok.bs b o e).1 (I.ok.bs b o e).2 (I.ok.noex b o e)⟩
theorem Inv.bk (I : Inv X pins σ H s) : ∀ b o, X.base.get? b = some o → s.heap.get? b = some o := fun b o e => (I.bs b o e).1
theorem Inv.mod (I : Inv X pins σ H s) : Mod X.K X.mg X.base := I.ok.mod
theorem Inv.kIn (I : Inv X pins σ H s) : X.K.In s.heap := I.ok.mod.kin.keeps I.bk
theorem Inv.nolimit (I : Inv X pins σ H s) : s.heap.NoLimit := I.ok.mod.nolimit.keeps I.bk
theorem Inv.fr (I : Inv X pins σ H s) : ∃ m, Fr X.base X.env.locals s.heap m :=
 let ⟨m, hn, _⟩ := I.loc
 ⟨m, hn, I.bk, Nat.le_trans I.ok.bsz I.ok.above⟩
theorem Inv.lt (I : Inv X pins σ H s) : X.env.locals < s.heap.objs.size := let ⟨_, hn, _⟩ := I.loc; hn.lt
theorem Inv.sz (I : Inv X pins σ H s) : X.s₀.heap.objs.size ≤ s.heap.objs.size := Nat.le_trans I.ok.above (Nat.le_of_lt I.lt)
theorem Inv.nofs (I : Inv X pins σ H s) {a : Addr} (h : s.heap.objs.size ≤ a) : a ∉ X.fs := fun hb => by
 obtain ⟨_, o, ho, _⟩ := I.ok.funs.mem hb
 exact absurd (Nat.lt_of_lt_of_le (Heap.lt_size ho) (Nat.le_trans I.sz h)) (Nat.lt_irrefl _)
theorem Inv.cne (I : Inv X pins σ H s) : ∀ x c, X.env.cells.lookup x = some c → c ≠ X.env.locals := fun x c e z => by
 obtain ⟨v, o, ho, hd⟩ := I.cell x c e
 obtain ⟨m, ⟨o', es, ep, ho', hd', _⟩, _⟩ := I.loc
 rw [z, ho'] at ho; cases ho; rw [hd'] at hd; cases hd
theorem Inv.funs (I : Inv X pins σ H s) : s.heap.FunFrames X.base X.outer := by
 have all : ∀ (l : List Env), (∀ b ∈ frs l, b ∈ X.fs) → X.s₀.heap.FunFrames X.base l → s.heap.FunFrames X.base l := by
   intro l
   induction l with
   | nil => intro _ _; trivial
   | cons env r ih =>
     intro hs hl
     obtain ⟨hk, ⟨L, o, hf, hn, ho, hd⟩, hr⟩ := hl
     have hL : L ∈ X.fs := hs L (by unfold frs; rw [List.filterMap_cons, hf]; exact List.mem_cons_self)
     obtain ⟨sl, e⟩ := I.base.slot L o ho (I.ok.frf L hL) hL fun z => I.ok.exfs L z hL
     exact ⟨hk, ⟨L, _, hf, hn, e, hd⟩, ih (fun b hb => hs b (by unfold frs; rw [List.filterMap_cons, hf]; exact List.mem_cons_of_mem _ hb)) hr⟩
 exact all X.outer (fun _ hb => hb) I.ok.funs
theorem Inv.stack (I : Inv X pins σ H s) : s.heap.FunFrames X.base X.stack := by
 rcases I.ok.stk with e | ⟨e, hf⟩
 · rw [e]; exact I.funs
 · rw [e]
   obtain ⟨m, hn, _⟩ := I.loc
   refine .cons (by rw [I.ok.kind]; decide) hf hn ?_ I.funs
   exact Heap.get?_none_of_le (Nat.le_trans I.ok.bsz I.ok.above)
theorem Inv.stkSub (I : Inv X pins σ H s) : ∀ b ∈ frs X.stack, b ∈ X.env.locals :: X.fs := fun b hb => by
 rcases I.ok.stk with e | ⟨e, hf⟩
 · rw [e] at hb; exact List.mem_cons_of_mem _ hb
 · rw [e] at hb
   unfold frs at hb
   rw [List.filterMap_cons, hf] at hb
   exact hb
theorem Inv.stkFree (I : Inv X pins σ H s) : ∀ b ∈ frs X.stack, H b = none := fun b hb => by
 rcases List.mem_cons.mp (I.stkSub b hb) with e | hb
 · rw [e]; exact I.free
 · obtain ⟨_, o, ho, _⟩ := I.ok.funs.mem hb
   exact I.base.free b o ho (I.ok.frf b hb) fun z => I.ok.exfs b z hb
theorem Inv.step {g' : Array GenState} {t' : Nat} {d' : Drawn} {ch : List Addr} (I : Inv X pins σ H s)
   (hch : ∀ b ∈ ch, (b ∈ X.ex ∨ X.s₀.heap.objs.size ≤ b) ∧ b ≠ X.env.locals ∧ (∀ x c, X.env.cells.lookup x = some c → c ≠ b) ∧ ∀ p ∈ X.pn ++ pins, p.1 ≠ b)
   (keep : ∀ b o, b ≠ X.env.locals → b ∉ X.fs → b ∉ ch → s.heap.get? b = some o → H b = none → h'.get? b = some o)
   (slot : ∀ b o, b ≠ X.env.locals → b ∈ X.fs → b ∉ ch → s.heap.get? b = some o → H b = none → ∃ sl, h'.get? b = some { o with slots := sl }) (free : ∀ b o, b ∉ ch → s.heap.get? b = some o → H b = none → H' b = none)
   (there : ∀ b o, b ∉ ch → s.heap.get? b = some o → ∃ o', h'.get? b = some o')
   (tups : ∀ b xs, H b = some (.tup xs) → H' b = some (.tup xs)) (frzs : ∀ b o u, H b = some (.frz o u) → H' b = some (.frz o u)) (tbls : ∀ b ps, H b = some (.tbl ps) → ∃ more, H' b = some (.tbl (ps ++ more)))
   (ns : ∀ m, s.heap.Ns X.env.locals m → h'.Ns X.env.locals m) (hok : HOk X.prog X.w H' h') (hg : AllBare g') :
   Inv X pins σ H' { s with heap := h', gens := g', drawn := d', toks := t' } := by
 have neL : ∀ b o, X.s₀.heap.get? b = some o → b ≠ X.env.locals := fun b o e => Nat.ne_of_lt (Nat.lt_of_lt_of_le (Heap.lt_size e) I.ok.above)
 have neC : ∀ b o, X.s₀.heap.get? b = some o → b ∉ X.ex → b ∉ ch := fun b o e hx hb => by
   rcases (hch b hb).1 with z | z
   · exact hx z
   · exact absurd (Nat.lt_of_lt_of_le (Heap.lt_size e) z) (Nat.lt_irrefl _)
 have cellK : ∀ x c, X.env.cells.lookup x = some c → ∀ v, s.heap.IsCell c v → h'.IsCell c v := fun x c e v ⟨o, ho, hd⟩ => by
   have nch : c ∉ ch := fun z => (hch c z).2.2.1 x c e rfl
   by_cases hc : c ∈ X.fs
   · obtain ⟨sl, q⟩ := slot c o (I.cne x c e) hc nch ho (I.freeC x c e)
     exact ⟨_, q, hd⟩
   · exact ⟨o, keep c o (I.cne x c e) hc nch ho (I.freeC x c e), hd⟩
 refine ⟨I.ok, I.os, hg, ⟨fun b o e n hb hx => ?_, fun b o e n hb hx => ?_, fun b o e n hx => ?_, fun b o e hx => ?_, fun b xs e => tups b xs (I.base.tups b xs e), fun b o xs e => frzs b o xs (I.base.frzs b o xs e), fun b ps e => ?_⟩, ?_, fun x c e => ?_, ?_, fun x c e => ?_, fun p hp => ?_, hok, I.len⟩
 · exact keep b o (neL b o e) hb (neC b o e hx) (I.base.keep b o e n hb hx) (I.base.free b o e n hx)
 · obtain ⟨sl, e1⟩ := I.base.slot b o e n hb hx
   obtain ⟨sl', e2⟩ := slot b _ (neL b o e) hb (neC b o e hx) e1 (I.base.free b o e n hx)
   exact ⟨sl', e2⟩
 · obtain ⟨o', e1⟩ := I.base.there b o e hx
   exact free b o' (neC b o e hx) e1 (I.base.free b o e n hx)
 · obtain ⟨o', e1⟩ := I.base.there b o e hx
   exact there b o' (neC b o e hx) e1
 · obtain ⟨m1, e1⟩ := I.base.tbls b ps e
   obtain ⟨m2, e2⟩ := tbls b _ e1
   exact ⟨m1 ++ m2, by rw [e2, Array.append_assoc]⟩
 · obtain ⟨m, hn, hl⟩ := I.loc
   refine ⟨m, ns m hn, fun i x v e1 e2 e3 => ?_⟩
   obtain ⟨u, r, l⟩ := hl i x v e1 e2 e3
   refine ⟨u, r, ?_⟩
   rcases l with l | ⟨k, c, e, z⟩
   · exact .inl l
   · exact .inr ⟨k, c, e, cellK x c e _ z⟩
 · obtain ⟨v, z⟩ := I.cell x c e
   exact ⟨v, cellK x c e v z⟩
 · obtain ⟨m, ⟨o, _, _, ho, _⟩, _⟩ := I.loc
   exact free _ o (fun z => (hch _ z).2.1 rfl) ho I.free
 · obtain ⟨v, o, ho, hd⟩ := I.cell x c e
   exact free c o (fun z => (hch c z).2.2.1 x c e rfl) ho (I.freeC x c e)
 · obtain ⟨e, n, ne, nf, d⟩ := I.pin p hp
   have nch : p.1 ∉ ch := fun z => (hch p.1 z).2.2.2 p hp rfl
   exact ⟨keep p.1 p.2 ne nf nch e n, free p.1 p.2 nch e n, ne, nf, d⟩
theorem Inv.un {t' : Nat} (I : Inv X pins σ H s) (u : Un X.fs [] H H' s.heap h') (hok : HOk X.prog X.w H' h') : Inv X pins σ H' { s with heap := h', toks := t' } := by
 obtain ⟨m, ⟨o, es, ep, ho, r⟩, _⟩ := id I.loc
 obtain ⟨sl, hL⟩ := u.any ho I.free (by simp)
 exact I.step (g' := s.gens) (d' := s.drawn) (ch := []) (fun _ z => nomatch z) (fun b o _ hb _ e n => u.keep b o e n hb (by simp)) (fun b o _ hb _ e n => u.slot b o e n hb (by simp)) (fun b o _ e n => u.free b o e n (by simp)) (fun b o _ e => u.there b o e (by simp)) u.tups u.frzs u.tbls (fun m' hm => by
   obtain ⟨o', es', ep', ho', r'⟩ := hm
   rw [ho] at ho'; cases ho'
   exact ⟨_, es', ep', hL, r'⟩) hok I.bare
theorem Inv.call {g' : Array GenState} {t' : Nat} {d' : Drawn} {ch : List Addr} (I : Inv X pins σ H s) (u : Un (frs X.stack) ch H H' s.heap h') (hok : HOk X.prog X.w H' h') (hg : AllBare g')
   (hch : ∀ b ∈ ch, (b ∈ X.ex ∨ X.s₀.heap.objs.size ≤ b) ∧ b ≠ X.env.locals ∧ (∀ x c, X.env.cells.lookup x = some c → c ≠ b) ∧ ∀ p ∈ X.pn ++ pins, p.1 ≠ b) :
   Inv X pins σ H' { s with heap := h', gens := g', drawn := d', toks := t' } := by
 obtain ⟨m, ⟨o, es, ep, ho, r⟩, _⟩ := id I.loc
 obtain ⟨sl, hL⟩ := u.any ho I.free fun z => (hch _ z).2.1 rfl
 exact I.step (ch := ch) hch (fun b o hL hb hc e n => u.keep b o e n (fun z => (List.mem_cons.mp (I.stkSub b z)).elim hL hb) hc) (fun b o _ _ hc e n => u.any e n hc) (fun b o hc e n => u.free b o e n hc) (fun b o hc e => u.there b o e hc) u.tups u.frzs u.tbls (fun m' hm => by
   obtain ⟨o', es', ep', ho', r'⟩ := hm
   rw [ho] at ho'; cases ho'
   exact ⟨_, es', ep', hL, r'⟩) hok hg
theorem Inv.turned {t' : Nat} {it : Addr} (I : Inv X pins σ H s) (k : ∀ b o, b ≠ it → s.heap.get? b = some o → h'.get? b = some o) (hn : H it = none) (hL : it ≠ X.env.locals)
   (h1 : it ∈ X.ex ∨ X.s₀.heap.objs.size ≤ it) (h2 : ∀ x c, X.env.cells.lookup x = some c → c ≠ it) (h3 : ∀ p ∈ X.pn ++ pins, p.1 ≠ it) : Inv X pins σ H { s with heap := h', toks := t' } := by
 have nit : ∀ b u, H b = some u → b ≠ it := fun b u e z => by rw [z, hn] at e; cases e
 refine I.step (g' := s.gens) (d' := s.drawn) (ch := [it]) (fun b hb => ?_) (fun b o _ _ hc e _ => k b o (fun z => hc (by simp [z])) e) (fun b o _ _ hc e _ => ⟨o.slots, k b o (fun z => hc (by simp [z])) e⟩) (fun _ _ _ _ n => n)
   (fun b o hc e => ⟨o, k b o (fun z => hc (by simp [z])) e⟩) (fun _ _ e => e) (fun _ _ _ e => e) (fun b ps e => ⟨#[], by rw [e]; simp⟩) (fun m hm => ?_) (fun b u e => ?_) I.bare
 · have e : b = it := by simpa using hb
   subst e
   exact ⟨h1, hL, h2, h3⟩
 · obtain ⟨o, es, ep, ho, r⟩ := hm
   exact ⟨o, es, ep, k _ o (Ne.symm hL) ho, r⟩
 · refine (I.hok b u e).stay (fun c v hc q => k c v ?_ q) (fun _ q => q) fun _ _ q => q
   rcases hc with z | z
   · rw [z]; exact nit b u e
   · exact nit c _ z
theorem Inv.tok (I : Inv X pins σ H s) (t : Nat) : Inv X pins σ H { s with toks := t } := I.un (h' := s.heap) (t' := t) Un.refl I.hok
theorem Inv.kept {t' : Nat} (I : Inv X pins σ H s) (k : ∀ b u, s.heap.get? b = some u → h'.get? b = some u) : Inv X pins σ H { s with heap := h', toks := t' } := I.un (Un.kept k) (I.hok.kept k)
theorem Inv.laid {a : Addr} {o : HO} {t' : Nat} (I : Inv X pins σ H s) (k : ∀ b u, s.heap.get? b = some u → h'.get? b = some u) (hp : s.heap.objs.size ≤ a) (new : ObjOk X.prog X.w (upd H a o) h' a o) :
   Inv X pins σ (upd H a o) { s with heap := h', toks := t' } := I.un (Un.laid k hp (I.hok.fresh hp)) (I.hok.laid k hp new)
theorem Inv.write {x e : Addr} {o : HO} {t' : Nat} (I : Inv X pins σ H s) (mu : Mut (H x)) (he : e = x ∨ H e = some (.own x)) (k : ∀ b u, b ≠ e → s.heap.get? b = some u → h'.get? b = some u) (heo : ∃ u, h'.get? e = some u)
   (new : ObjOk X.prog X.w (upd H x o) h' x o) : Inv X pins σ (upd H x o) { s with heap := h', toks := t' } := I.un (Un.write mu he k heo) (I.hok.write mu he k heo new)
theorem Inv.weak {σ' : List (Option V)} (I : Inv X pins σ H s) (hl : σ'.length = σ.length) (w : ∀ (i : Nat) v, σ'[i]? = some (some v) → σ[i]? = some (some v)) : Inv X pins σ' H s :=
 ⟨I.ok, I.os, I.bare, I.base, let ⟨m, hn, hl'⟩ := I.loc; ⟨m, hn, fun i x v e1 e2 e3 => hl' i x v e1 (w i v e2) e3⟩, I.cell, I.free, I.freeC, I.pin, I.hok, hl.trans I.len⟩
theorem Inv.pins_of {pins' : List (Addr × Obj)} (I : Inv X pins σ H s) (h : ∀ p ∈ pins', s.heap.get? p.1 = some p.2 ∧ H p.1 = none ∧ p.1 ≠ X.env.locals ∧ p.1 ∉ X.fs ∧ ∀ v, p.2.data ≠ .cell v) : Inv X pins' σ H s :=
 ⟨I.ok, I.os, I.bare, I.base, I.loc, I.cell, I.free, I.freeC, fun p hp => (List.mem_append.mp hp).elim (fun z => I.pin p (List.mem_append_left _ z)) (h p), I.hok, I.len⟩
theorem nodup_ix {N : List Str} (hN : N.Nodup) {i j : Nat} {x : Str} (a : N[i]? = some x) (b : N[j]? = some x) : i = j := by
 obtain ⟨h1, e1⟩ := List.getElem?_eq_some_iff.mp a
 obtain ⟨h2, e2⟩ := List.getElem?_eq_some_iff.mp b
 exact (List.getElem_inj hN).mp (e1.trans e2.symm)
theorem store_ok2 {M : Model} {A : Around} {E : Value → Shared → Prop} {i : Nat} {x : Str} {v : V} {u : Value} {Q : Unit → Shared → Prop} (I : Inv X pins σ H s) (hN : X.N.Nodup) (hi : X.N[i]? = some x) (hx : Loc X.env.scope x) (r : RelV v u)
   (h : ∀ s', Inv X pins (σ.set i (some v)) H s' → (∃ a, Heap.SameBut a s.heap s'.heap ∧ (a = X.env.locals ∨ X.env.cells.lookup x = some a)) → Q () s') (hf : X.fn x = true ∨ X.env.scope.names.lookup x = some .local := by first | exact .inl rfl | exact .inr rfl | assumption) : wpAny M A (storeName X.env x u) Q E s := by
 obtain ⟨m, hn, hl⟩ := id I.loc
 have hcls : (X.env.scope.kind == .class || (X.env.scope.kind == .module && X.env.locals != X.env.globals)) = false := by rw [I.ok.kind]; rfl
 have hiσ : i < σ.length := by rw [I.len]; exact (List.getElem?_eq_some_iff.mp hi).1
 have cne := I.cne
 have tracked : ∀ {a : Addr} {h' : Heap}, (∃ o, s.heap.get? a = some o ∧ H a = none) → Heap.SameBut a s.heap h' → HOk X.prog X.w H h' := fun {a h'} ha hs b ob e => by
   obtain ⟨_, _, hfree⟩ := ha
   refine (I.hok b ob e).stay (fun c w' hc q => (hs.2 c ?_).trans q) (fun _ q => q) fun _ _ q => q
   rintro rfl
   rcases hc with rfl | hc
   · rw [hfree] at e; cases e
   · rw [hfree] at hc; cases hc
 rcases hx with hk | hk
 · refine wpAny_storeName_local hk hn (fun h' hn' hs => ?_) hcls
   obtain ⟨oL, _, _, hoL, _⟩ := id hn
   refine h _ ⟨I.ok, I.os, I.bare, ⟨fun b o e n hb hx => ?_, fun b o e n hb hx => ?_, I.base.free, fun b o e hx => ?_, I.base.tups, I.base.frzs, I.base.tbls⟩, ⟨_, hn', fun j y v' e1 e2 e3 => ?_⟩, fun y c e => ?_, I.free, I.freeC, fun p hp => ?_, tracked ⟨oL, hoL, I.free⟩ hs, by simpa using I.len⟩ ⟨_, hs, .inl rfl⟩
   · exact (hs.2 b (Nat.ne_of_lt (Nat.lt_of_lt_of_le (Heap.lt_size e) I.ok.above))).trans (I.base.keep b o e n hb hx)
   · obtain ⟨sl, e1⟩ := I.base.slot b o e n hb hx
     exact ⟨sl, (hs.2 b (Nat.ne_of_lt (Nat.lt_of_lt_of_le (Heap.lt_size e) I.ok.above))).trans e1⟩
   · obtain ⟨o', e1⟩ := I.base.there b o e hx
     exact ⟨o', (hs.2 b (Nat.ne_of_lt (Nat.lt_of_lt_of_le (Heap.lt_size e) I.ok.above))).trans e1⟩
   · by_cases hj : j = i
     · subst hj
       rw [hi] at e1; cases e1
       rw [List.getElem?_set_self hiσ] at e2
       cases e2
       exact ⟨u, r, .inl ⟨hk, by simp⟩⟩
     · rw [List.getElem?_set_ne (Ne.symm hj)] at e2
       obtain ⟨u', r', q⟩ := hl j y v' e1 e2 e3
       refine ⟨u', r', ?_⟩
       rcases q with ⟨k, e⟩ | ⟨k, c, e, z⟩
       · refine .inl ⟨k, ?_⟩
         have : y ≠ x := fun e => hj (nodup_ix hN e1 (e ▸ hi))
         simp [this, e]
       · exact .inr ⟨k, c, e, z.sameBut hs (cne y c e)⟩
   · obtain ⟨w', z⟩ := I.cell y c e
     exact ⟨w', z.sameBut hs (cne y c e)⟩
   · obtain ⟨e, n, ne, nf, d⟩ := I.pin p hp
     exact ⟨(hs.2 p.1 ne).trans e, n, ne, nf, d⟩
 · have hfn : X.fn x = true := by
     rcases hf with z | z
     · exact z
     · rw [z] at hk; cases hk
   obtain ⟨c, hc⟩ := I.ok.has x (.inl hk)
   obtain ⟨w', z⟩ := I.cell x c hc
   refine wpAny_storeName_cell I.ok.kind hk hc z (fun h' hc' hs => ?_)
   obtain ⟨oc, hoc, hocd⟩ := id z
   refine h { s with heap := h' } ⟨I.ok, I.os, I.bare, ⟨fun b o e n hb hx => ?_, fun b o e n hb hx => ?_, I.base.free, fun b o e hx => ?_, I.base.tups, I.base.frzs, I.base.tbls⟩, ⟨m, hn.sameBut hs (Ne.symm (cne x c hc)), fun j y v' e1 e2 e3 => ?_⟩, fun y c' e => ?_, I.free, I.freeC, fun p hp => ?_, tracked ⟨oc, hoc, I.freeC x c hc⟩ hs, by simpa using I.len⟩ ⟨c, hs, .inr hc⟩
   · exact (hs.2 b (Nat.ne_of_lt (Nat.lt_of_lt_of_le (Heap.lt_size e) (I.ok.cab x c hfn hc)))).trans (I.base.keep b o e n hb hx)
   · obtain ⟨sl, e1⟩ := I.base.slot b o e n hb hx
     exact ⟨sl, (hs.2 b (Nat.ne_of_lt (Nat.lt_of_lt_of_le (Heap.lt_size e) (I.ok.cab x c hfn hc)))).trans e1⟩
   · obtain ⟨o', e1⟩ := I.base.there b o e hx
     exact ⟨o', (hs.2 b (Nat.ne_of_lt (Nat.lt_of_lt_of_le (Heap.lt_size e) (I.ok.cab x c hfn hc)))).trans e1⟩
   · by_cases hj : j = i
     · subst hj
       rw [hi] at e1; cases e1
       rw [List.getElem?_set_self hiσ] at e2
       cases e2
       exact ⟨u, r, .inr ⟨.inl hk, c, hc, hc'⟩⟩
     · rw [List.getElem?_set_ne (Ne.symm hj)] at e2
       obtain ⟨u', r', q⟩ := hl j y v' e1 e2 e3
       refine ⟨u', r', ?_⟩
       rcases q with q | ⟨k, c', e, z'⟩
       · exact .inl q
       · refine .inr ⟨k, c', e, z'.sameBut hs ?_⟩
         rintro rfl
         exact hj (nodup_ix hN e1 (I.ok.inj _ _ _ e hc ▸ hi))
   · by_cases hcc : c' = c
     · subst hcc; exact ⟨_, hc'⟩
     · obtain ⟨w2, z2⟩ := I.cell y c' e
       exact ⟨w2, z2.sameBut hs hcc⟩
   · obtain ⟨e, n, ne, nf, d⟩ := I.pin p hp
     refine ⟨(hs.2 p.1 ?_).trans e, n, ne, nf, d⟩
     intro q
     rw [q, hoc] at e
     have q' : oc = p.2 := Option.some.inj e
     exact d w' (by rw [← q']; exact hocd)
theorem store_ok {M : Model} {A : Around} {E : Value → Shared → Prop} {i : Nat} {x : Str} {v : V} {u : Value} {Q : Unit → Shared → Prop} (I : Inv X pins σ H s) (hN : X.N.Nodup) (hi : X.N[i]? = some x) (hx : Loc X.env.scope x) (r : RelV v u)
   (h : ∀ s', Inv X pins (σ.set i (some v)) H s' → Q () s') (hf : X.fn x = true ∨ X.env.scope.names.lookup x = some .local := by first | exact .inl rfl | exact .inr rfl | assumption) : wpAny M A (storeName X.env x u) Q E s :=
 store_ok2 I hN hi hx r (fun s' I' _ => h s' I') hf
theorem Inv.call' {s' : Shared} {ch : List Addr} (I : Inv X pins σ H s) (ho : s'.os = s.os) (u : Un (frs X.stack) ch H H' s.heap s'.heap) (hok : HOk X.prog X.w H' s'.heap) (hg : AllBare s'.gens)
   (hch : ∀ b ∈ ch, (b ∈ X.ex ∨ X.s₀.heap.objs.size ≤ b) ∧ b ≠ X.env.locals ∧ (∀ x c, X.env.cells.lookup x = some c → c ≠ b) ∧ ∀ p ∈ X.pn ++ pins, p.1 ≠ b) : Inv X pins σ H' s' := by
 obtain ⟨h', g', d', t', o'⟩ := s'
 have e : o' = s.os := ho
 subst e
 exact I.call (g' := g') (t' := t') (d' := d') u hok hg hch
end
abbrev XK := Value → Option Addr → Hp → Prop
abbrev St := List (Option V)
abbrev VK := V → Hp → Prop
abbrev TE := St → Hp → VK → Prop
abbrev TT := St → Hp → (Bool → Hp → Prop) → Prop
abbrev TA := St → Hp → (List V → Hp → Prop) → Prop
structure Ends where
 nx : St → Hp → Prop
 rt : VK
 bk : St → Hp → Prop := fun _ _ => False
 ct : St → Hp → Prop := fun _ _ => False
abbrev TS := Ends → St → Hp → Prop
def EP (X : Cx) (pins : List (Addr × Obj)) (σ : St) (Q : VK) (u : Value) (s' : Shared) : Prop := ∃ v H', Inv X pins σ H' s' ∧ RelV v u ∧ Q v H'
def TP (X : Cx) (pins : List (Addr × Obj)) (σ : St) (Q : Bool → Hp → Prop) (b : Bool) (s' : Shared) : Prop := ∃ H', Inv X pins σ H' s' ∧ Q b H'
def AP (X : Cx) (pins : List (Addr × Obj)) (σ : St) (Q : List V → Hp → Prop) (us : List Value) (s' : Shared) : Prop := ∃ vs H', Inv X pins σ H' s' ∧ Vals vs us ∧ Q vs H'
def SP (X : Cx) (pins : List (Addr × Obj)) (D : Ends) (f : Flow) (s' : Shared) : Prop :=
 match f with
 | .next => ∃ σ' H', Inv X pins σ' H' s' ∧ D.nx σ' H'
 | .brk => ∃ σ' H', Inv X pins σ' H' s' ∧ D.bk σ' H'
 | .cont => ∃ σ' H', Inv X pins σ' H' s' ∧ D.ct σ' H'
 | .ret u => ∃ v σ' H', Inv X pins σ' H' s' ∧ RelV v u ∧ D.rt v H'
def PE (X : Cx) (e : Expr) (t : TE) : Prop :=
 ∀ (pins : List (Addr × Obj)) (s : Shared) (σ : St) (H : Hp) (Q : VK), Inv X pins σ H s → t σ H Q → wpAny (model X.prog X.w) X.A (eval e X.env) (EP X pins σ Q) X.xe s
def PT (X : Cx) (e : Expr) (t : TT) : Prop :=
 ∀ (pins : List (Addr × Obj)) (s : Shared) (σ : St) (H : Hp) (Q : Bool → Hp → Prop), Inv X pins σ H s → t σ H Q → wpAny (model X.prog X.w) X.A (isTrue e X.env (eval e X.env)) (TP X pins σ Q) X.xe s
def PW (X : Cx) (e : Expr) (t : TT) : Prop :=
 ∀ (whole : Sem Value) (pins : List (Addr × Obj)) (s : Shared) (σ : St) (H : Hp) (Q : Bool → Hp → Prop), Inv X pins σ H s → t σ H Q → wpAny (model X.prog X.w) X.A (isTrue e X.env whole) (TP X pins σ Q) X.xe s
theorem PW.pt {X : Cx} {e : Expr} {t : TT} (h : PW X e t) : PT X e t := h _
def PA (X : Cx) (es : List Expr) (t : TA) : Prop :=
 ∀ (pos : Pos) (pins : List (Addr × Obj)) (s : Shared) (σ : St) (H : Hp) (Q : List V → Hp → Prop), Inv X pins σ H s → t σ H Q → wpAny (model X.prog X.w) X.A (spliced (backTo pos (starEach es X.env))) (AP X pins σ Q) X.xe s
def PS (X : Cx) (st : Stmt) (t : TS) : Prop :=
 ∀ (pins : List (Addr × Obj)) (s : Shared) (σ : St) (H : Hp) (D : Ends), Inv X pins σ H s → t D σ H → wpAny (model X.prog X.w) X.A (exec st X.env) (SP X pins D) X.xe s
def PSs (X : Cx) (st : List Stmt) (t : TS) : Prop :=
 ∀ (pins : List (Addr × Obj)) (s : Shared) (σ : St) (H : Hp) (D : Ends), Inv X pins σ H s → t D σ H → wpAny (model X.prog X.w) X.A (execs st X.env) (SP X pins D) X.xe s
theorem thn {α : Type} {t : Sem α} {Q Q' : α → Shared → Prop} {M : Model} {A : Around} {E : Value → Shared → Prop} {s : Shared} (h : wpAny M A t Q E s) (hQ : ∀ a s, Q a s → Q' a s) : wpAny M A t Q' E s := wpAny_mono h hQ fun _ _ x => x
end L2
namespace L2
open PySem PySem.Spec PyProof.Rows
section
variable {X : Cx}
def tVar (i : Nat) : TE := fun σ H Q => ∃ v, σ[i]? = some (some v) ∧ Q v H
def tC (v : V) : TE := fun _ H Q => Q v H
theorem pe_var {i : Nat} {x : Str} {pos : Pos} (hN : X.N[i]? = some x) (hv : Vis X.env.scope x) (hd : (x == ("__debug__" : Str)) = false := by decide) (hcd : (x == ("__classdict__" : Str)) = false := by decide) : PE X (.Name x pos) (tVar i) := by
 intro pins s σ H Q I h
 obtain ⟨v, e, h⟩ := h
 obtain ⟨m, hn, hl⟩ := I.loc
 obtain ⟨u, r, l⟩ := hl i x v hN e hv
 have fin : EP X pins σ Q u s := ⟨v, H, I, r, h⟩
 rcases l with ⟨hk, hm⟩ | ⟨hk, c, hc, hcell⟩
 · exact wpAny_Name (wpAny_loadName_local I.ok.kind hk hn hm fin) hd
 · rcases hk with hk | hk
   · exact wpAny_Name (wpAny_loadName_cell I.ok.kind hk hc hcell fin) hd
   · exact wpAny_Name (wpAny_loadName_free I.ok.kind hk hc hcell fin hcd) hd
theorem qG {i j pos} : PE X (.Constant (.int i) j pos) (tC (.int i)) := fun _ _ _ H _ I h => wpAny_Constant_int ⟨.int i, H, I.tok _, ⟨_, rfl⟩, h⟩
theorem MB {b j pos} : PE X (.Constant (.bool b) j pos) (tC (.bl b)) := fun _ _ _ H _ I h => Constant_bool ⟨.bl b, H, I, rfl, h⟩
theorem pe_non {j pos} : PE X (.Constant .none j pos) (tC .non) := fun _ _ _ H _ I h => Constant_none ⟨.non, H, I, rfl, h⟩
theorem qv {x j pos} : PE X (.Constant (.str x) j pos) (tC (.str x)) := fun _ _ _ H _ I h => Calls.Constant_str ⟨.str x, H, I.tok _, ⟨_, rfl⟩, h⟩
def Gl (X : Cx) (x : Str) : Prop := X.env.kindOf x = some .globalImplicit
theorem qJY {E : Value → Shared → Prop} {pins : List (Addr × Obj)} {s : Shared} {σ : St} {H : Hp} {x : Str} {u : Value} {pos : Pos} {Q : Value → Shared → Prop} (I : Inv X pins σ H s) (hg : Gl X x) (hm : X.mg x = some u) (h : Q u s)
   (hd : (x == ("__debug__" : Str)) = false := by decide) : wpAny (model X.prog X.w) X.A (eval (.Name x pos) X.env) Q E s :=
 Calls.Name_function_global I.ok.kind hg (Calls.loadGlobal_global (by rw [I.ok.glob]; exact I.mod.glob.keeps I.bk) hm h) hd
theorem ld_blt {E : Value → Shared → Prop} {pins : List (Addr × Obj)} {s : Shared} {σ : St} {H : Hp} {x : Str} {u : Value} {pos : Pos} {Q : Value → Shared → Prop} (I : Inv X pins σ H s) (hg : Gl X x) (hm : X.mg x = none) (hv : bootBuiltins x = some u) (h : Q u s)
   (hn : x ≠ "__name__" := by decide) (hd : (x == ("__debug__" : Str)) = false := by decide) : wpAny (model X.prog X.w) X.A (eval (.Name x pos) X.env) Q E s := by
 obtain ⟨mb, h1, h2⟩ := I.mod.blt
 exact Calls.Name_function_global I.ok.kind hg (Calls.loadGlobal_builtin (by rw [I.ok.glob]; exact I.mod.glob.keeps I.bk) hm (by rw [I.ok.blt]; exact h1.keeps I.bk) ((h2 x hn).trans hv) h) hd
theorem pe_glob {x : Str} {v : V} {u : Value} {pos : Pos} (hg : Gl X x) (hm : X.mg x = some u) (r : RelV v u) (hd : (x == ("__debug__" : Str)) = false := by decide) : PE X (.Name x pos) (tC v) :=
 fun _ _ _ H _ I h => qJY I hg hm ⟨v, H, I, r, h⟩ hd
theorem pe_bltn {x : Str} {v : V} {u : Value} {pos : Pos} (hg : Gl X x) (hm : X.mg x = none) (hv : bootBuiltins x = some u) (r : RelV v u) (hn : x ≠ "__name__" := by decide) (hd : (x == ("__debug__" : Str)) = false := by decide) : PE X (.Name x pos) (tC v) :=
 fun _ _ _ H _ I h => ld_blt I hg hm hv ⟨v, H, I, r, h⟩ hn hd
variable {a b : Expr} {ta tb : TE} {pos : Pos}
def PC (X : Cx) (op : CmpOp) (a b : Expr) (t : TE) : Prop :=
 ∀ (pins : List (Addr × Obj)) (s : Shared) (σ : St) (H : Hp) (Q : VK), Inv X pins σ H s → t σ H Q →
   wpAny (model X.prog X.w) X.A (eval a X.env) (fun v s₁ => wpAny (model X.prog X.w) X.A (eval b X.env) (fun u s₂ => wpAny (model X.prog X.w) X.A (compareOp op v u) (EP X pins σ Q) X.xe s₂) X.xe s₁) X.xe s
theorem nobehind (b : Expr) {op : CmpOp} (h : op ≠ .In) (h2 : op ≠ .NotIn) : behindInMarks op b = false := by
 have e1 : (op == CmpOp.In) = false := by cases op <;> first | rfl | exact absurd rfl h
 have e2 : (op == CmpOp.NotIn) = false := by cases op <;> first | rfl | exact absurd rfl h2
 cases b <;> simp [behindInMarks, e1, e2]
def tB (t : TE) : TT := fun σ H Q => t σ H fun x H1 => ∃ c, x = .bl c ∧ Q c H1
theorem zZJ {op : CmpOp} {t : TE} (h : PC X op a b t) (h1 : behindInMarks op b = false := by first | exact nobehind _ (by decide) (by decide) | rfl) : PT X (.Compare a [op] [b] pos) (tB t) := by
 intro pins s σ H Q I hw
 refine wpAny_isTrue_Compare1 (thn (h pins s σ H _ I hw) fun v s1 h1 => thn h1 fun u s2 h2 => thn h2 fun c s3 ⟨x, H1, I1, r1, q1⟩ => ?_) h1
 obtain ⟨d, rfl, q⟩ := q1
 cases r1
 exact wpAny_truthy_bool ⟨H1, I1, q⟩
theorem pt_val {e : Expr} {t : TE} (h : PE X e t) (he : ∀ whole, isTrue e X.env whole = (do let v ← whole; standAt e.pos; holding [v] (truthy v)) := by intro _; rfl) : PT X e (tB t) := by
 intro pins s σ H Q I hw
 refine isTrue_plain (thn (h pins s σ H _ I hw) fun v s1 ⟨x, H1, I1, r1, q1⟩ => ?_) (he _)
 obtain ⟨d, rfl, q⟩ := q1
 cases r1
 exact wpAny_truthy_bool ⟨H1, I1, q⟩
variable {tA tB' : TT} {rest : List Expr}
def tAnd (t u : TT) : TT := fun σ H Q => t σ H fun c H1 => if c = true then u σ H1 Q else Q false H1
def tOr (t u : TT) : TT := fun σ H Q => t σ H fun c H1 => if c = true then Q true H1 else u σ H1 Q
def tNot (t : TT) : TT := fun σ H Q => t σ H fun c H1 => Q (!c) H1
theorem pw_and1 (ha : PT X a tA) : PW X (.BoolOp .And [a] pos) tA := by
 intro wh pins s σ H Q I h
 refine isTrue_and (thn (ha pins s σ H Q I h) fun c s1 e => ?_)
 cases c with
 | true => exact isTrue_and_nil e
 | false => exact e
theorem pw_or1 (ha : PT X a tA) : PW X (.BoolOp .Or [a] pos) tA := by
 intro wh pins s σ H Q I h
 refine isTrue_or (thn (ha pins s σ H Q I h) fun c s1 e => ?_)
 cases c with
 | false => exact isTrue_or_nil e
 | true => exact e
theorem pw_and (ha : PT X a tA) (hb : PW X (.BoolOp .And (b :: rest) pos) tB') : PW X (.BoolOp .And (a :: b :: rest) pos) (tAnd tA tB') := by
 intro wh pins s σ H Q I h
 refine isTrue_and (thn (ha pins s σ H _ I h) fun c s1 ⟨H1, I1, q1⟩ => ?_)
 cases c with
 | true => exact hb wh pins s1 σ H1 Q I1 q1
 | false => exact ⟨H1, I1, q1⟩
theorem pw_or (ha : PT X a tA) (hb : PW X (.BoolOp .Or (b :: rest) pos) tB') : PW X (.BoolOp .Or (a :: b :: rest) pos) (tOr tA tB') := by
 intro wh pins s σ H Q I h
 refine isTrue_or (thn (ha pins s σ H _ I h) fun c s1 ⟨H1, I1, q1⟩ => ?_)
 cases c with
 | true => exact ⟨H1, I1, q1⟩
 | false => exact hb wh pins s1 σ H1 Q I1 q1
theorem pt_not (ha : PT X a tA) : PT X (.UnaryOp .Not a pos) (tNot tA) := by
 intro pins s σ H Q I h
 exact isTrue_not (ha pins s σ H (fun c H1 => Q (!c) H1) I h)
def tAndV (ta tb : TE) : TE := fun σ H Q => ta σ H fun x H1 => ∃ c, x = .bl c ∧ if c = true then tb σ H1 Q else Q (.bl false) H1
theorem pe_one {op} {t : TE} (h : PE X a t) : PE X (.BoolOp op [a] pos) t := fun pins s σ H Q I hw => BoolOp_one (h pins s σ H Q I hw)
theorem pe_and (ha : PE X a ta) (hb : PE X (.BoolOp .And (b :: rest) pos) tb) : PE X (.BoolOp .And (a :: b :: rest) pos) (tAndV ta tb) := by
 intro pins s σ H Q I h
 refine BoolOp_and (thn (ha pins s σ H _ I h) fun v s1 ⟨x, H1, I1, r1, q1⟩ => ?_)
 obtain ⟨c, rfl, q1⟩ := q1
 cases r1
 refine wpAny_truthy_bool ?_
 cases c with
 | true => exact hb pins s1 σ H1 Q I1 q1
 | false => exact ⟨.bl false, H1, I1, rfl, q1⟩
def tIf (t : TT) (ta tb : TE) : TE := fun σ H Q => t σ H fun c H1 => if c = true then ta σ H1 Q else tb σ H1 Q
theorem pe_ifExp {c : Expr} (hc : PT X c tA) (ha : PE X a ta) (hb : PE X b tb) : PE X (.IfExp c a b pos) (tIf tA ta tb) := by
 intro pins s σ H Q I h
 refine wpAny_IfExp (thn (hc pins s σ H _ I h) fun d s1 ⟨H1, I1, q1⟩ => ?_)
 cases d with
 | true => exact ha pins s1 σ H1 Q I1 q1
 | false => exact hb pins s1 σ H1 Q I1 q1
end
end L2
namespace L2
open PySem PySem.Spec PyProof.Rows
def SqL (K : W.Frag) (H : Hp) (a : Addr) (xs : List V) : Prop :=
 Rd H a (.lst xs) ∨
   ∃ (o : Obj) (its : Array Value) (n : Nat), K.lookup a = some o ∧ o.cls = .type "list" ∧ o.dict = none ∧ o.data = .seq its n ∧ its.size ≤ sizeLine ∧ Vals xs its.toList
def SqT (K : W.Frag) (H : Hp) (a : Addr) (xs : List V) : Prop :=
 Rd H a (.tup xs) ∨
   ∃ (o : Obj) (its : Array Value) (n : Nat), K.lookup a = some o ∧ o.cls = .type "tuple" ∧ o.data = .seq its n ∧ its.size ≤ sizeLine ∧ Vals xs its.toList
def absV : Value → Option V
 | .none => some .non
 | .bool b => some (.bl b)
 | .int i _ => some (.int i)
 | .str x _ => some (.str x)
 | .bytes b _ => some (.byt b)
 | .float b _ => some (.flt b)
 | .ref a => some (.ref a)
 | .type n => some (.ty n)
 | _ => none
theorem RelV.abs {x : V} {u : Value} (r : RelV x u) : absV u = some x := by
 cases x with
 | non => cases r; rfl
 | bl _ => cases r; rfl
 | int _ => obtain ⟨t, rfl⟩ := r; rfl
 | str _ => obtain ⟨t, rfl⟩ := r; rfl
 | byt _ => obtain ⟨t, rfl⟩ := r; rfl
 | flt _ => obtain ⟨t, rfl⟩ := r; rfl
 | ref _ => cases r; rfl
 | ty _ => cases r; rfl
theorem RelV.inj {x y : V} {u : Value} (r : RelV x u) (q : RelV y u) : x = y := Option.some.inj (r.abs.symm.trans q.abs)
theorem Vals.inj : ∀ {xs ys : List V} {us : List Value}, Vals xs us → Vals ys us → xs = ys
 | _, _, _, .nil, .nil => rfl
 | _, _, _, .cons r t, .cons r' t' => by rw [r.inj r', Vals.inj t t']
section
variable {X : Cx} {pins : List (Addr × Obj)} {σ : St} {H : Hp} {s : Shared} {a : Addr} {xs ys : List V}
theorem SqL.of {K : W.Frag} (h : H a = some (.lst xs)) : SqL K H a xs := .inl (.inl h)
theorem SqT.of {K : W.Frag} (h : H a = some (.tup xs)) : SqT K H a xs := .inl (.inl h)
theorem Inv.list (I : Inv X pins σ H s) (h : SqL X.K H a xs) : ∃ its : List Value, Vals xs its ∧ PlainL s.heap a its.toArray ∧ xs.length ≤ sizeLine := by
 rcases h with h | ⟨o, its, n, hk, hc, hd, hs, hz, r⟩
 · obtain ⟨z, its, n, r, e⟩ := h.ok I.hok
   exact ⟨its, r, ⟨_, n, e, rfl, rfl, rfl⟩, z⟩
 · refine ⟨its.toList, r, ⟨o, n, I.kIn a o hk, hc, hd, by simpa using hs⟩, ?_⟩
   have e := r.length
   simp only [Array.length_toList] at e
   omega
theorem Inv.tuple (I : Inv X pins σ H s) (h : SqT X.K H a xs) : ∃ its : List Value, Vals xs its ∧ IsTup s.heap a its.toArray ∧ xs.length ≤ sizeLine := by
 rcases h with h | ⟨o, its, n, hk, hc, hs, hz, r⟩
 · obtain ⟨z, its, r, p⟩ := h.ok I.hok
   exact ⟨its, r, p, z⟩
 · refine ⟨its.toList, r, ⟨o, I.kIn a o hk, hc, n, by simpa using hs⟩, ?_⟩
   have e := r.length
   simp only [Array.length_toList] at e
   omega
theorem Inv.list_inj (I : Inv X pins σ H s) (h : SqL X.K H a xs) (h' : SqL X.K H a ys) : xs = ys := by
 obtain ⟨its, r, ⟨o, n, e, _, _, d⟩, _⟩ := I.list h
 obtain ⟨its', r', ⟨o', n', e', _, _, d'⟩, _⟩ := I.list h'
 rw [e] at e'; cases e'
 rw [d] at d'
 injection d' with d1 _
 have : its = its' := by simpa using congrArg Array.toList d1
 subst this
 exact r.inj r'
theorem Inv.tuple_inj (I : Inv X pins σ H s) (h : SqT X.K H a xs) (h' : SqT X.K H a ys) : xs = ys := by
 obtain ⟨its, r, ⟨o, e, _, n, d⟩, _⟩ := I.tuple h
 obtain ⟨its', r', ⟨o', e', _, n', d'⟩, _⟩ := I.tuple h'
 rw [e] at e'; cases e'
 rw [d] at d'
 injection d' with d1 _
 have : its = its' := by simpa using congrArg Array.toList d1
 subst this
 exact r.inj r'
end
abbrev Cx.wish (X : Cx) (E : Value → Shared → Prop) : Cx := { X with xe := E }
abbrev Cx.nox (X : Cx) : Cx := X.wish fun _ _ => False
theorem Cx.Ok.wish {X : Cx} (ok : X.Ok) (E : Value → Shared → Prop) : (X.wish E).Ok :=
 ⟨ok.mod, ok.kind, ok.glob, ok.blt, ok.above, ok.inj, ok.has, ok.cab, ok.hd, ok.frames, ok.stk, ok.exf, ok.bs, ok.bsz, ok.noex, ok.exfs, ok.funs, ok.frf⟩
theorem Cx.Ok.unwish {X : Cx} {E : Value → Shared → Prop} (ok : (X.wish E).Ok) : X.Ok :=
 ⟨ok.mod, ok.kind, ok.glob, ok.blt, ok.above, ok.inj, ok.has, ok.cab, ok.hd, ok.frames, ok.stk, ok.exf, ok.bs, ok.bsz, ok.noex, ok.exfs, ok.funs, ok.frf⟩
section
variable {X : Cx} {pins : List (Addr × Obj)} {σ : St} {H : Hp} {s : Shared} {E : Value → Shared → Prop}
theorem Inv.wish (I : Inv X pins σ H s) (E : Value → Shared → Prop) : Inv (X.wish E) pins σ H s := ⟨I.ok.wish E, I.os, I.bare, I.base, I.loc, I.cell, I.free, I.freeC, I.pin, I.hok, I.len⟩
theorem Inv.unwish (I : Inv (X.wish E) pins σ H s) : Inv X pins σ H s := ⟨I.ok.unwish, I.os, I.bare, I.base, I.loc, I.cell, I.free, I.freeC, I.pin, I.hok, I.len⟩
theorem SP.unwish {D : Ends} {f : Flow} {s' : Shared} (h : SP (X.wish E) pins D f s') : SP X pins D f s' := by
 cases f with
 | next => obtain ⟨σ', H', I, q⟩ := h; exact ⟨σ', H', I.unwish, q⟩
 | brk => obtain ⟨σ', H', I, q⟩ := h; exact ⟨σ', H', I.unwish, q⟩
 | cont => obtain ⟨σ', H', I, q⟩ := h; exact ⟨σ', H', I.unwish, q⟩
 | ret u => obtain ⟨v, σ', H', I, r, q⟩ := h; exact ⟨v, σ', H', I.unwish, r, q⟩
theorem PE.nox {e : Expr} {t : TE} (h : PE X.nox e t) : PE X e t := fun pins s σ H Q I hw =>
 wpAny_mono (h pins s σ H Q (I.wish _) hw) (fun _ _ ⟨v, H', I', r, q⟩ => ⟨v, H', I'.unwish, r, q⟩) fun _ _ z => False.elim z
theorem PT.nox {e : Expr} {t : TT} (h : PT X.nox e t) : PT X e t := fun pins s σ H Q I hw =>
 wpAny_mono (h pins s σ H Q (I.wish _) hw) (fun _ _ ⟨H', I', q⟩ => ⟨H', I'.unwish, q⟩) fun _ _ z => False.elim z
theorem PSs.nox {st : List Stmt} {t : TS} (h : PSs X.nox st t) : PSs X st t := fun pins s σ H D I hw =>
 wpAny_mono (h pins s σ H D (I.wish _) hw) (fun _ _ q => q.unwish) fun _ _ z => False.elim z
end
section
variable {X : Cx} {st : Stmt} {rest : List Stmt} {t u : TS} {e : Expr} {te : TE} {pos : Pos}
def tNext : TS := fun D σ H => D.nx σ H
def tSeq (t u : TS) : TS := fun D σ H => t { D with nx := u D } σ H
theorem yv : PSs X [] tNext := fun _ _ σ H _ I h => wpAny_execs_nil ⟨σ, H, I, h⟩
theorem qJ (h1 : PS X st t) (h2 : PSs X rest u) : PSs X (st :: rest) (tSeq t u) := by
 intro pins s σ H D I h
 refine wpAny_execs_cons (thn (h1 pins s σ H { D with nx := u D } I h) fun f s1 q => ?_)
 cases f with
 | next =>
   obtain ⟨σ', H', I', q⟩ := q
   exact h2 pins s1 σ' H' D I' q
 | ret v => exact q
 | brk => exact q
 | cont => exact q
theorem qV (h1 : PS X st t) : PSs X [st] t := by
 intro pins s σ H D I h
 refine wpAny_execs_cons (thn (h1 pins s σ H D I h) fun f s1 q => ?_)
 cases f with
 | next => exact wpAny_execs_nil q
 | ret v => exact q
 | brk => exact q
 | cont => exact q
theorem Inv.quiet {pins : List (Addr × Obj)} {σ : St} {H : Hp} {s : Shared} (I : Inv X pins σ H s) : interactive X.env = false := by simp [interactive, I.ok.kind]
def tDrop (te : TE) : TS := fun D σ H => te σ H fun _ H1 => D.nx σ H1
theorem vY (he : PE X e te) (hs : swapsWith e none pos.line X.env = pure false := by rfl) : PS X (.Expr e pos) (tDrop te) := by
 intro pins s σ H D I h
 exact wpAny_Expr_any (thn (he pins s σ H _ I h) fun v s1 ⟨x, H1, I1, r1, q1⟩ => ⟨σ, H1, I1, q1⟩) I.quiet hs
def tRet (te : TE) : TS := fun D σ H => te σ H D.rt
theorem qz (he : PE X e te) : PS X (.Return (some e) pos) (tRet te) := by
 intro pins s σ H D I h
 exact wpAny_Return_some (thn (he pins s σ H _ I h) fun v s1 ⟨x, H1, I1, r1, q1⟩ => ⟨x, σ, H1, I1, r1, q1⟩)
def tIfS (c : TT) (t u : TS) : TS := fun D σ H => c σ H fun b H1 => if b = true then t D σ H1 else u D σ H1
theorem zY {c : Expr} {a b : List Stmt} {tc : TT} (hc : PT X c tc) (ha : PSs X a t) (hb : PSs X b u) : PS X (.If c a b pos) (tIfS tc t u) := by
 intro pins s σ H D I h
 refine wpAny_If (thn (hc pins s σ H _ I h) fun d s1 ⟨H1, I1, q1⟩ => ?_)
 cases d with
 | true => exact ha pins s1 σ H1 D I1 q1
 | false => exact hb pins s1 σ H1 D I1 q1
def tNever : TS := fun _ _ _ => False
theorem ps_never : PS X st tNever := fun _ _ _ _ _ _ h => h.elim
end
abbrev TG := V → St → Hp → (St → Hp → Prop) → Prop
def PG (X : Cx) (target : Expr) (t : TG) : Prop :=
 ∀ (pins : List (Addr × Obj)) (s : Shared) (σ : St) (H : Hp) (v : V) (u : Value) (Q : St → Hp → Prop), Inv X pins σ H s → RelV v u → t v σ H Q →
   wpAny (model X.prog X.w) X.A (assign target X.env u) (fun _ s' => ∃ σ' H', Inv X pins σ' H' s' ∧ Q σ' H') X.xe s
section
variable {X : Cx} {pos : Pos}
def gName (i : Nat) : TG := fun v σ H Q => Q (σ.set i (some v)) H
theorem Qz {i : Nat} {x : Str} (hN : X.N.Nodup) (hi : X.N[i]? = some x) (hx : Loc X.env.scope x) (hf : X.fn x = true ∨ X.env.scope.names.lookup x = some .local := by first | exact .inl rfl | exact .inr rfl | assumption) : PG X (.Name x pos) (gName i) := by
 intro pins s σ H v u Q I r h
 exact wpAny_assign_Name (store_ok I hN hi hx r (fun s' I' => ⟨_, H, I', h⟩) hf)
def tAsg (te : TE) (g : TG) : TS := fun D σ H => te σ H fun x H1 => g x σ H1 D.nx
theorem yB {i : Nat} {x : Str} {e : Expr} {te : TE} {pos' : Pos} (hN : X.N.Nodup) (hi : X.N[i]? = some x) (hx : Loc X.env.scope x) (he : PE X e te) (hs : swapsWith e (some (.Name x pos')) pos.line X.env = pure false := by rfl) (hf : X.fn x = true ∨ X.env.scope.names.lookup x = some .local := by first | exact .inl rfl | exact .inr rfl | assumption) :
   PS X (.Assign [.Name x pos'] e pos) (tAsg te (gName i)) := by
 intro pins s σ H D I h
 refine wpAny_Assign_Name (thn (he pins s σ H _ I h) fun v s1 ⟨y, H1, I1, r1, q1⟩ => ?_) hs
 exact store_ok I1 hN hi hx r1 (fun s2 I2 => ⟨_, H1, I2, q1⟩) hf
end
section
variable {X : Cx} {pos : Pos}
def tWhile (c : TT) (tb : TS) : TS := fun D σ H => ∃ W : Nat → St → Hp → Prop, (∃ m, W m σ H) ∧ ∀ m σ H, W m σ H →
 c σ H fun b H1 => if b = true then ∃ N : St → Hp → Prop, (∀ σ' H', N σ' H' → ∃ m', m' < m ∧ W m' σ' H') ∧ tb { D with nx := N, ct := N, bk := D.nx } σ H1 else D.nx σ H1
theorem ps_while {c : Expr} {body : List Stmt} {tc : TT} {tb : TS} (hp : PassesOwn (model X.prog X.w) X.A X.env X.xe) (hc : PT X c tc) (hb : PSs X body tb) : PS X (.While c body [] pos) (tWhile tc tb) := by
 intro pins s σ H D I h
 obtain ⟨W, ⟨m0, w0⟩, turn⟩ := h
 refine wpAny_While (codeAny_whileLoop (fun n s' => ∃ σ' H', Inv X pins σ' H' s' ∧ W n σ' H') ?_ m0 ⟨σ, H, I, w0⟩)
 rintro n s1 ⟨σ1, H1, I1, w1⟩
 refine wpAny_passesOwn hp (thn (hc pins s1 σ1 H1 _ I1 (turn n σ1 H1 w1)) fun b s2 ⟨H2, I2, q2⟩ => ?_)
 cases b with
 | true =>
   obtain ⟨N, hN, q2⟩ := q2
   rw [if_pos rfl]
   refine wpAny_passesOwn hp (thn (hb pins s2 σ1 H2 _ I2 q2) fun f s3 q3 => ?_)
   cases f with
   | next =>
     obtain ⟨σ3, H3, I3, n3⟩ := q3
     obtain ⟨m', hm, w3⟩ := hN σ3 H3 n3
     exact ⟨m', hm, σ3, H3, I3, w3⟩
   | cont =>
     obtain ⟨σ3, H3, I3, n3⟩ := q3
     obtain ⟨m', hm, w3⟩ := hN σ3 H3 n3
     exact ⟨m', hm, σ3, H3, I3, w3⟩
   | brk => exact q3
   | ret v => exact q3
 | false =>
   rw [if_neg Bool.false_ne_true]
   exact wpAny_execs_nil ⟨σ1, H2, I2, q2⟩
end
structure It where
 go : Nat → Hp → Prop
 yld : Nat → Hp → V → Hp → Prop
 stop : Nat → Hp → Prop
def FpOk (X : Cx) (pins : List (Addr × Obj)) (H : Hp) (b : Addr) : Prop :=
 H b = none ∧ b ≠ X.env.locals ∧ b ∉ X.fs ∧ (b ∈ X.ex ∨ X.s₀.heap.objs.size ≤ b) ∧ (∀ x c, X.env.cells.lookup x = some c → c ≠ b) ∧ ∀ p ∈ X.pn ++ pins, p.1 ≠ b
theorem Inv.fpOk {X : Cx} {pins : List (Addr × Obj)} {σ : St} {H H' : Hp} {s : Shared} {b : Addr} (I : Inv X pins σ H s) (hb : s.heap.objs.size ≤ b) (hn : H' b = none) : FpOk X pins H' b := by
 refine ⟨hn, Nat.ne_of_gt (Nat.lt_of_lt_of_le I.lt hb), I.nofs hb, .inr (Nat.le_trans I.sz hb), fun x c e z => ?_, fun p hp z => ?_⟩
 · obtain ⟨v, q⟩ := I.cell x c e
   exact absurd (Nat.lt_of_lt_of_le q.lt (by rw [z]; exact hb)) (Nat.lt_irrefl _)
 · exact absurd (Nat.lt_of_lt_of_le (Heap.lt_size (I.pin p hp).1) (by rw [z]; exact hb)) (Nat.lt_irrefl _)
structure Turn (P : Program) (w : World) (K : W.Frag) (tg : Expr) (J : It) (fp : List Addr) (it : Addr) (tn : Nat → Heap → Prop) : Prop where
 mem : it ∈ fp
 obj : ∀ i h, tn i h → ∀ b ∈ fp, ∃ o, h.get? b = some o ∧ ∀ v, o.data ≠ .cell v
 keep : ∀ i h h', tn i h → (∀ b ∈ fp, ∀ o, h.get? b = some o → h'.get? b = some o) → tn i h'
 item : ∀ (X : Cx), X.prog = P → X.w = w → X.K = K → X.calm = true → ∀ (i : Nat) (pins : List (Addr × Obj)) (s : Shared) (σ : St) (H : Hp) (E : Value → Shared → Prop), Inv X pins σ H s → (∀ b ∈ fp, FpOk X pins H b) → tn i s.heap → J.go i H →
   wpAny (model P w) X.A (pyNext (.ref it)) (fun r s1 => ∃ u, r = some u ∧
     wpAny (model P w) X.A (letOwnedTupleGo tg (.ref it) u) (fun _ s2 => ∃ x H', Inv X pins σ H' s2 ∧ RelV x u ∧ J.yld i H x H' ∧ tn (i + 1) s2.heap ∧ ∀ b ∈ fp, H' b = none) E s1) E s
 done : ∀ (X : Cx), X.prog = P → X.w = w → X.K = K → X.calm = true → ∀ (i : Nat) (pins : List (Addr × Obj)) (s : Shared) (σ : St) (H : Hp) (E : Value → Shared → Prop), Inv X pins σ H s → (∀ b ∈ fp, FpOk X pins H b) → tn i s.heap → J.stop i H →
   wpAny (model P w) X.A (pyNext (.ref it)) (fun r s1 => r = none ∧ Inv X pins σ H s1) E s
 self : ∀ (A : Around) (i : Nat) (s : Shared) (Q : Value → Shared → Prop) (E : Value → Shared → Prop), tn i s.heap → Q (.ref it) s → wpAny (model P w) A (pyIter (.ref it)) Q E s
abbrev TI := St → Hp → (It → Hp → Prop) → Prop
def PIE (X : Cx) (pins : List (Addr × Obj)) (σ : St) (tg : Expr) (R : It → Hp → Prop) (itv : Value) (s2 : Shared) : Prop :=
 ∃ (it : Addr) (fp : List Addr) (tn : Nat → Heap → Prop) (J : It) (H' : Hp), itv = .ref it ∧ Inv X pins σ H' s2 ∧ Turn X.prog X.w X.K tg J fp it tn ∧ tn 0 s2.heap ∧ (∀ b ∈ fp, FpOk X pins H' b) ∧ R J H'
def PI (X : Cx) (tg iter : Expr) (wi : TI) : Prop :=
 ∀ (pins : List (Addr × Obj)) (s : Shared) (σ : St) (H : Hp) (R : It → Hp → Prop), Inv X pins σ H s → wi σ H R →
   wpAny (model X.prog X.w) X.A (eval iter X.env) (fun v s1 => wpAny (model X.prog X.w) X.A (pyIter v) (PIE X pins σ tg R) X.xe s1) X.xe s
theorem go_of {M : Model} {A : Around} {E : Value → Shared → Prop} {s : Shared} {tg : Expr} {it : Addr} {u : Value} {o : Obj} {n : String} {vs : Array Value} {Q : Unit → Shared → Prop} (ho : s.heap.get? it = some o) (hc : o.cls = .type n) (hd : o.data = .fields vs)
   (hn : ["enumerate", "zip", "dict_itemiterator", "dict_reverseitemiterator", "odict_iterator", "itertools.zip_longest", "itertools.pairwise"].contains n = false) (hQ : Q () s) : wpAny M A (letOwnedTupleGo tg (.ref it) u) Q E s := by
 unfold letOwnedTupleGo
 cases tg <;> first
   | exact wpAny_pure hQ
   | (cases u <;> first
       | exact wpAny_pure hQ
       | (refine wpAny_bind (wpAny_load ho ?_)
          rw [hc, hd]
          show wpAny M A (if (["enumerate", "zip", "dict_itemiterator", "dict_reverseitemiterator", "odict_iterator", "itertools.zip_longest", "itertools.pairwise"].contains n && vs[0]? == some (rawInt _)) = true then _ else _) Q E s
          rw [if_neg (by intro h; rw [hn, Bool.false_and] at h; cases h)]
          exact wpAny_pure hQ))
def Itl (K : W.Frag) (a : Addr) : It :=
 ⟨fun i H => ∃ xs x, SqL K H a xs ∧ xs[i]? = some x, fun i H x H' => H' = H ∧ ∀ xs, SqL K H a xs → xs[i]? = some x, fun i H => ∃ xs, SqL K H a xs ∧ xs.length ≤ i⟩
def Itt (K : W.Frag) (a : Addr) : It :=
 ⟨fun i H => ∃ xs x, SqT K H a xs ∧ xs[i]? = some x, fun i H x H' => H' = H ∧ ∀ xs, SqT K H a xs → xs[i]? = some x, fun i H => ∃ xs, SqT K H a xs ∧ xs.length ≤ i⟩
def Itr (lo : Int) (n : Nat) : It := ⟨fun i _ => i < n, fun i H x H' => H' = H ∧ x = .int (lo + i), fun i _ => n ≤ i⟩
theorem turn_list {P : Program} {w : World} {K : W.Frag} {tg : Expr} (a it : Addr) : Turn P w K tg (Itl K a) [it] it (fun i h => h.IsListIter it a i) where
 mem := by simp
 obj := fun i h st b hb => by
   have e : b = it := by simpa using hb
   subst e
   obtain ⟨o, e, c, d⟩ := st
   exact ⟨o, e, fun v z => by rw [d] at z; cases z⟩
 keep := fun i h h' st k => st.at fun o e => k it (by simp) o e
 item := by
   intro X hP hw hK hc i pins s σ H E I hf st hg
   subst hP hw hK
   obtain ⟨xs, x, hq, hx⟩ := hg
   obtain ⟨its, rv, p, hz⟩ := I.list hq
   obtain ⟨u, hu, ru⟩ := rv.get hx
   obtain ⟨f0, f1, f2, f3, f4, f5⟩ := hf it (by simp)
   refine wpAny_pyNext_list_item st p.isList (x := u) (by simpa using hu) fun h' st' sb => ?_
   have I1 : Inv X pins σ H { s with heap := h' } := I.turned (t' := s.toks) (fun b o hb e => (sb.2 b hb).trans e) f0 f1 f3 f4 f5
   obtain ⟨o, e, c, d⟩ := id st'
   exact ⟨u, rfl, go_of (s := { s with heap := h' }) e c d (by decide) ⟨x, H, I1, ru, ⟨rfl, fun ys hy => by rw [I.list_inj hy hq]; exact hx⟩, st', fun b hb => (hf b hb).1⟩⟩
 done := by
   intro X hP hw hK hc i pins s σ H E I hf st hg
   subst hP hw hK
   obtain ⟨xs, hq, hx⟩ := hg
   obtain ⟨its, rv, p, hz⟩ := I.list hq
   obtain ⟨f0, f1, f2, f3, f4, f5⟩ := hf it (by simp)
   have hl := rv.length
   exact wpAny_pyNext_list_end (I.ok.hd hc) st p.isList (by simp; omega) fun h' eb => ⟨rfl, I.turned (t' := s.toks) (fun b o hb e => eb b o hb e) f0 f1 f3 f4 f5⟩
 self := fun _ _ _ _ _ st h => wpAny_pyIter_listiter st h
theorem turn_tuple {P : Program} {w : World} {K : W.Frag} {tg : Expr} (a it : Addr) : Turn P w K tg (Itt K a) [it] it (fun i h => h.IsTupleIter it a i) where
 mem := by simp
 obj := fun i h st b hb => by
   have e : b = it := by simpa using hb
   subst e
   obtain ⟨o, e, c, d⟩ := st
   exact ⟨o, e, fun v z => by rw [d] at z; cases z⟩
 keep := fun i h h' st k => st.at fun o e => k it (by simp) o e
 item := by
   intro X hP hw hK hc i pins s σ H E I hf st hg
   subst hP hw hK
   obtain ⟨xs, x, hq, hx⟩ := hg
   obtain ⟨its, rv, p, hz⟩ := I.tuple hq
   obtain ⟨u, hu, ru⟩ := rv.get hx
   obtain ⟨f0, f1, f2, f3, f4, f5⟩ := hf it (by simp)
   refine wpAny_pyNext_tuple_item st (show s.heap.IsTuple a its.toArray from p) (x := u) (by simpa using hu) fun h' st' sb => ?_
   have I1 : Inv X pins σ H { s with heap := h' } := I.turned (t' := s.toks) (fun b o hb e => (sb.2 b hb).trans e) f0 f1 f3 f4 f5
   obtain ⟨o, e, c, d⟩ := id st'
   exact ⟨u, rfl, go_of (s := { s with heap := h' }) e c d (by decide) ⟨x, H, I1, ru, ⟨rfl, fun ys hy => by rw [I.tuple_inj hy hq]; exact hx⟩, st', fun b hb => (hf b hb).1⟩⟩
 done := by
   intro X hP hw hK hc i pins s σ H E I hf st hg
   subst hP hw hK
   obtain ⟨xs, hq, hx⟩ := hg
   obtain ⟨its, rv, p, hz⟩ := I.tuple hq
   obtain ⟨f0, f1, f2, f3, f4, f5⟩ := hf it (by simp)
   have hl := rv.length
   exact wpAny_pyNext_tuple_end (I.ok.hd hc) st (show s.heap.IsTuple a its.toArray from p) (by simp; omega) fun h' eb => ⟨rfl, I.turned (t' := s.toks) (fun b o hb e => eb b o hb e) f0 f1 f3 f4 f5⟩
 self := fun _ _ _ _ _ st h => wpAny_pyIter_tupleiter st h
theorem turn_range {P : Program} {w : World} {K : PySem.W.Frag} {tg : Expr} (it : Addr) (lo : Int) (n : Nat) : Turn P w K tg (Itr lo n) [it] it (fun i h => IsRangeIter h it (lo + (i : Nat) * 1) ((n : Int) - (i : Nat)) 1) where
 mem := by simp
 obj := fun i h st b hb => by
   have e : b = it := by simpa using hb
   subst e
   exact ⟨_, st, fun v z => by
     have z' : Data.fields _ = Data.cell v := z
     cases z'⟩
 keep := fun i h h' st k => k it (by simp) _ st
 item := by
   intro X hP hw hK hc i pins s σ H E I hf st hg
   subst hP hw hK
   obtain ⟨f0, f1, f2, f3, f4, f5⟩ := hf it (by simp)
   have W := Walks.range (prog := X.prog) (w := X.w) (I.ok.hd hc) it lo 1 n
   refine W.item i s _ _ hg st fun v h' tk hv st' kk => ?_
   obtain ⟨t, rfl⟩ := hv
   have I1 : Inv X pins σ H { s with heap := h', toks := tk } := I.turned (fun b o hb e => kk b o (by simpa using hb) e) f0 f1 f3 f4 f5
   refine ⟨_, rfl, go_of (s := { s with heap := h', toks := tk }) (n := "range_iterator") st' rfl rfl (by decide) ⟨.int (lo + i), H, I1, ⟨t, ?_⟩, ⟨rfl, rfl⟩, st', fun b hb => (hf b hb).1⟩⟩
   rw [Int.mul_one]
 done := by
   intro X hP hw hK hc i pins s σ H E I hf st hg
   subst hP hw hK
   obtain ⟨f0, f1, f2, f3, f4, f5⟩ := hf it (by simp)
   exact wpAny_pyNext_range_end (I.ok.hd hc) st (by have : n ≤ i := hg; omega) fun h' eb => ⟨rfl, I.turned (t' := s.toks) (fun b o hb e => eb b o hb e) f0 f1 f3 f4 f5⟩
 self := fun _ _ _ _ _ st h => wpAny_pyIter_rangeiter st h
end L2
namespace L2
open PySem PySem.Spec PyProof.Rows
section
variable {X : Cx} {tg : Expr}
def iList (K : W.Frag) (tl : TE) : TI := fun σ H R => tl σ H fun x H1 => ∃ a, x = .ref a ∧ (∃ xs, SqL K H1 a xs) ∧ R (Itl K a) H1
def iTup (K : W.Frag) (tl : TE) : TI := fun σ H R => tl σ H fun x H1 => ∃ a, x = .ref a ∧ (∃ xs, SqT K H1 a xs) ∧ R (Itt K a) H1
theorem pi_list {l : Expr} {tl : TE} (hl : PE X l tl) : PI X tg l (iList X.K tl) := by
 intro pins s σ H R I h
 refine thn (hl pins s σ H _ I h) fun v s1 ⟨x, H1, I1, r1, q1⟩ => ?_
 obtain ⟨a, e, ⟨xs, hq⟩, q⟩ := q1
 subst e
 cases r1
 obtain ⟨its, rv, p, hz⟩ := I1.list hq
 refine wpAny_pyIter_list p.isList ?_
 refine ⟨s1.heap.objs.size, [s1.heap.objs.size], _, _, H1, rfl, I1.kept (t' := s1.toks) fun b o e => Heap.get?_push_of_some _ e, turn_list a _, ⟨_, Heap.get?_push_size _ rfl, rfl, rfl⟩, fun b hb => ?_, q⟩
 have e : b = s1.heap.objs.size := by simpa using hb
 subst e
 exact I1.fpOk (Nat.le_refl _) (I1.hok.fresh (Nat.le_refl _))
theorem pi_tup {l : Expr} {tl : TE} (hl : PE X l tl) : PI X tg l (iTup X.K tl) := by
 intro pins s σ H R I h
 refine thn (hl pins s σ H _ I h) fun v s1 ⟨x, H1, I1, r1, q1⟩ => ?_
 obtain ⟨a, e, ⟨xs, hq⟩, q⟩ := q1
 subst e
 cases r1
 obtain ⟨its, rv, p, hz⟩ := I1.tuple hq
 refine wpAny_pyIter_tuple (show s1.heap.IsTuple a its.toArray from p) ?_
 refine ⟨s1.heap.objs.size, [s1.heap.objs.size], _, _, H1, rfl, I1.kept (t' := s1.toks) fun b o e => Heap.get?_push_of_some _ e, turn_tuple a _, ⟨_, Heap.get?_push_size _ rfl, rfl, rfl⟩, fun b hb => ?_, q⟩
 have e : b = s1.heap.objs.size := by simpa using hb
 subst e
 exact I1.fpOk (Nat.le_refl _) (I1.hok.fresh (Nat.le_refl _))
theorem range_it {pins : List (Addr × Obj)} {σ : St} {H : Hp} {s : Shared} {R : It → Hp → Prop} {E : Value → Shared → Prop} {lo hi : Int} {t u v : Tok} {tk : Nat} (I : Inv X pins σ H s) (h1 : -(2 ^ 62) ≤ lo) (h2 : lo < 2 ^ 62) (h3 : -(2 ^ 62) ≤ hi) (h4 : hi < 2 ^ 62)
   (q : R (Itr lo (hi - lo).toNat) H) : wpAny (model X.prog X.w) X.A (pyIter (.ref s.heap.objs.size)) (PIE X pins σ tg R) E { s with heap := s.heap.push { cls := .type "range", data := .fields #[.int lo t, .int hi u, .int 1 v] }, toks := tk } := by
 refine wpAny_pyIter_range (IsRange.new ..) (small_one h1 h2 h3 h4) ?_
 have I1 : Inv X pins σ H { s with heap := s.heap.push { cls := .type "range", data := .fields #[.int lo t, .int hi u, .int 1 v] }, toks := tk } := I.kept fun b o e => Heap.get?_push_of_some _ e
 refine ⟨(s.heap.push { cls := .type "range", data := .fields #[.int lo t, .int hi u, .int 1 v] }).objs.size, [(s.heap.push { cls := .type "range", data := .fields #[.int lo t, .int hi u, .int 1 v] }).objs.size], _, _, H, rfl,
   I1.kept (t' := tk) fun b o e => Heap.get?_push_of_some _ e, turn_range _ lo (hi - lo).toNat, ?_, fun b hb => ?_, q⟩
 · have e1 : lo + ((0 : Nat) : Int) * 1 = lo := by simp
   have e2 : (((hi - lo).toNat : Nat) : Int) - ((0 : Nat) : Int) = Builtin.Range.rangeSize lo hi 1 := by rw [rangeSize_one]; split <;> omega
   show IsRangeIter _ _ (lo + ((0 : Nat) : Int) * 1) ((((hi - lo).toNat : Nat) : Int) - ((0 : Nat) : Int)) 1
   rw [e1, e2]
   exact Heap.get?_push_size _ rfl
 · have e : b = (s.heap.push { cls := .type "range", data := .fields #[.int lo t, .int hi u, .int 1 v] }).objs.size := by simpa using hb
   subst e
   exact I1.fpOk (Nat.le_refl _) (I1.hok.fresh (Nat.le_refl _))
def iRng1 (ta : TA) : TI := fun σ H R => ta σ H fun vs H1 => ∃ j : Int, vs = [.int j] ∧ -(2 ^ 62) ≤ j ∧ j < 2 ^ 62 ∧ R (Itr 0 j.toNat) H1
def iRng2 (ta : TA) : TI := fun σ H R => ta σ H fun vs H1 => ∃ i j : Int, vs = [.int i, .int j] ∧ (-(2 ^ 62) ≤ i ∧ i < 2 ^ 62 ∧ -(2 ^ 62) ≤ j ∧ j < 2 ^ 62) ∧ R (Itr i (j - i).toNat) H1
theorem pi_range1 {a : Expr} {ta : TA} {p pos : Pos} (hg : Gl X "range") (hm : X.mg "range" = none) (ha : PA X [a] ta) (hs : starEach [a] X.env = [(false, eval a X.env)] := by rfl) : PI X tg (.Call (.Name "range" p) [a] [] pos) (iRng1 ta) := by
 intro pins s σ H R I h
 refine Call_ (ld_blt I hg hm boot_range (PyProof.Rows.callWith_type1 (thn (ha pos pins s σ H _ I h) fun us s1 ⟨vs, H1, I1, r1, q1⟩ => ?_) hs rfl))
 obtain ⟨j, e, q1, q2, q⟩ := q1
 subst e
 cases r1 with
 | cons r rr =>
   cases rr
   obtain ⟨t, rfl⟩ := r
   exact call_range_1 (range_it I1 (by omega) (by omega) q1 q2 (by simpa using q))
theorem pi_range2 {a b : Expr} {ta : TA} {p pos : Pos} (hg : Gl X "range") (hm : X.mg "range" = none) (ha : PA X [a, b] ta) (hs : starEach [a, b] X.env = [(false, eval a X.env), (false, eval b X.env)] := by rfl) (hs2 : starEach [b] X.env = [(false, eval b X.env)] := by rfl) :
   PI X tg (.Call (.Name "range" p) [a, b] [] pos) (iRng2 ta) := by
 intro pins s σ H R I h
 refine Call_ (ld_blt I hg hm boot_range (PyProof.Rows.callWith_type1 (thn (ha pos pins s σ H _ I h) fun us s1 ⟨vs, H1, I1, r1, q1⟩ => ?_) (by rw [hs, hs2]) (by rw [hs2]; rfl)))
 obtain ⟨i, j, e, ⟨q1, q2, q3, q4⟩, q⟩ := q1
 subst e
 cases r1 with
 | cons r rr =>
   cases rr with
   | cons r' rr =>
     cases rr
     obtain ⟨t, rfl⟩ := r
     obtain ⟨t', rfl⟩ := r'
     exact call_range_2 (range_it I1 q1 q2 q3 q4 q)
def tFor (wi : TI) (g : TG) (tb : TS) : TS := fun D σ H => wi σ H fun J H1 => ∃ W : Nat → Nat → St → Hp → Prop, (∃ m, W 0 m σ H1) ∧ ∀ i m σ H, W i m σ H →
 (J.stop i H ∧ D.nx σ H) ∨ (J.go i H ∧ ∃ N : St → Hp → Prop, (∀ σ' H', N σ' H' → ∃ m', m' < m ∧ W (i + 1) m' σ' H') ∧ ∀ x H', J.yld i H x H' → g x σ H' fun σ2 H2 => tb { D with nx := N, ct := N, bk := D.nx } σ2 H2)
def pinsAt (fp : List Addr) (h : Heap) : List (Addr × Obj) := fp.filterMap fun b => (h.get? b).map fun o => (b, o)
theorem zJJ {fp : List Addr} {h : Heap} {b : Addr} {o : Obj} (hb : b ∈ fp) (e : h.get? b = some o) : (b, o) ∈ pinsAt fp h := List.mem_filterMap.mpr ⟨b, hb, by rw [e]; rfl⟩
theorem of_pinsAt {fp : List Addr} {h : Heap} {p : Addr × Obj} (hp : p ∈ pinsAt fp h) : p.1 ∈ fp ∧ h.get? p.1 = some p.2 := by
 obtain ⟨b, hb, e⟩ := List.mem_filterMap.mp hp
 cases q : h.get? b with
 | none => rw [q] at e; cases e
 | some o =>
   rw [q] at e
   have e' : (b, o) = p := Option.some.inj e
   subst e'
   exact ⟨hb, q⟩
theorem Inv.pinned {pins : List (Addr × Obj)} {σ : St} {H : Hp} {s : Shared} {fp : List Addr} (I : Inv X pins σ H s) (hf : ∀ b ∈ fp, FpOk X pins H b) (ho : ∀ b ∈ fp, ∃ o, s.heap.get? b = some o ∧ ∀ v, o.data ≠ .cell v) : Inv X (pins ++ pinsAt fp s.heap) σ H s :=
 I.pins_of fun p hp => (List.mem_append.mp hp).elim (fun z => I.pin p (List.mem_append_right _ z)) fun z => by
   obtain ⟨hb, e⟩ := of_pinsAt z
   obtain ⟨f0, f1, f2, _⟩ := hf p.1 hb
   obtain ⟨o, e', d⟩ := ho p.1 hb
   rw [e] at e'; cases e'
   exact ⟨e, f0, f1, f2, d⟩
theorem Inv.unpinned {pins pl : List (Addr × Obj)} {σ : St} {H : Hp} {s : Shared} (I : Inv X (pins ++ pl) σ H s) : Inv X pins σ H s := I.pins_of fun p hp => I.pin p (List.mem_append_right _ (List.mem_append_left _ hp))
theorem qJJ {iter : Expr} {body : List Stmt} {wi : TI} {g : TG} {tb : TS} {pos : Pos} (hp : PassesOwn (model X.prog X.w) X.A X.env X.xe) (hc : X.calm = true) (hi : PI X tg iter wi) (hg : PG X tg g) (hb : PSs X body tb)
   (hs : ∀ x, foldedSetIterable iter X.env x = pure x := by intro _; rfl) : PS X (.For tg iter body [] pos) (tFor wi g tb) := by
 intro pins s σ H D I h
 refine wpAny_For (thn (hi pins s σ H _ I h) fun v s1 h1 => thn h1 fun itv s2 h2 => ?_) hs
 obtain ⟨it, fp, tn, J, H2, e, I2, T, st2, f2, W, ⟨m0, w0⟩, turn⟩ := h2
 subst e
 have stat : ∀ {H' : Hp}, (∀ b ∈ fp, H' b = none) → ∀ b ∈ fp, FpOk X pins H' b := fun hn b hb => ⟨hn b hb, (f2 b hb).2⟩
 refine codeAny_forLoop_any (fun n s' => ∃ i σ' H', Inv X pins σ' H' s' ∧ tn i s'.heap ∧ (∀ b ∈ fp, H' b = none) ∧ W i n σ' H') ?_ m0 ⟨0, σ, H2, I2, st2, fun b hb => (f2 b hb).1, w0⟩
 rintro n s3 ⟨i, σ3, H3, I3, st3, fr3, w3⟩
 rcases turn i n σ3 H3 w3 with ⟨stop, qn⟩ | ⟨go, N, hN, step⟩
 · refine wpAny_passesOwn hp (thn (T.done X rfl rfl rfl hc i pins s3 σ3 H3 X.xe I3 (stat fr3) st3 stop) fun r s4 ⟨hr, I4⟩ => ?_)
   subst hr
   exact wpAny_execs_nil ⟨σ3, H3, I4, qn⟩
 · refine wpAny_passesOwn hp (thn (T.item X rfl rfl rfl hc i pins s3 σ3 H3 X.xe I3 (stat fr3) st3 go) fun r s4 ⟨u, hr, h4⟩ => ?_)
   subst hr
   refine wpAny_passesOwn hp (thn h4 fun _ s5 ⟨x, H5, I5, r5, y5, st5, fr5⟩ => ?_)
   have I5' := I5.pinned (stat fr5) (T.obj _ _ st5)
   refine wpAny_passesOwn hp (thn (hg _ s5 σ3 H5 x u _ I5' r5 (step x H5 y5)) fun _ s6 ⟨σ6, H6, I6, q6⟩ => ?_)
   refine wpAny_passesOwn hp (thn (hb _ s6 σ6 H6 _ I6 q6) fun f s7 q7 => ?_)
   have again : ∀ {σ7 : St} {H7 : Hp}, Inv X (pins ++ pinsAt fp s5.heap) σ7 H7 s7 → N σ7 H7 → ∃ m, m < n ∧ ∃ i σ' H', Inv X pins σ' H' s7 ∧ tn i s7.heap ∧ (∀ b ∈ fp, H' b = none) ∧ W i m σ' H' := fun {σ7 H7} I7 n7 => by
     obtain ⟨m', hm, w7⟩ := hN σ7 H7 n7
     refine ⟨m', hm, i + 1, σ7, H7, I7.unpinned, T.keep _ _ _ st5 fun b hb o e => (I7.pin (b, o) (List.mem_append_right _ (List.mem_append_right _ (zJJ hb e)))).1, fun b hb => ?_, w7⟩
     obtain ⟨o, e, d⟩ := T.obj _ _ st5 b hb
     exact (I7.pin (b, o) (List.mem_append_right _ (List.mem_append_right _ (zJJ hb e)))).2.1
   cases f with
   | next => obtain ⟨σ7, H7, I7, n7⟩ := q7; exact again I7 n7
   | cont => obtain ⟨σ7, H7, I7, n7⟩ := q7; exact again I7 n7
   | brk => obtain ⟨σ7, H7, I7, q7⟩ := q7; exact ⟨σ7, H7, I7.unpinned, q7⟩
   | ret v => obtain ⟨x7, σ7, H7, I7, r7, q7⟩ := q7; exact ⟨x7, σ7, H7, I7.unpinned, r7, q7⟩
end
theorem vZJ {K : PySem.W.Frag} {a : Addr} {xs : List V} {g : TG} {tb : TS} {D : Ends} {σ : St} {H : Hp} (Pv : Nat → St → Hp → Prop) (h0 : Pv 0 σ H) (hl : ∀ i σ H, i ≤ xs.length → Pv i σ H → SqL K H a xs)
   (hs : ∀ i x σ H, xs[i]? = some x → Pv i σ H → g x σ H fun σ2 H2 => tb { D with nx := Pv (i + 1), ct := Pv (i + 1), bk := D.nx } σ2 H2) (hd : ∀ σ H, Pv xs.length σ H → D.nx σ H) :
   ∃ W : Nat → Nat → St → Hp → Prop, (∃ m, W 0 m σ H) ∧ ∀ i m σ H, W i m σ H →
     ((Itl K a).stop i H ∧ D.nx σ H) ∨ ((Itl K a).go i H ∧ ∃ N : St → Hp → Prop, (∀ σ' H', N σ' H' → ∃ m', m' < m ∧ W (i + 1) m' σ' H') ∧ ∀ x H', (Itl K a).yld i H x H' → g x σ H' fun σ2 H2 => tb { D with nx := N, ct := N, bk := D.nx } σ2 H2) := by
 refine ⟨fun i m σ H => m = xs.length - i ∧ i ≤ xs.length ∧ Pv i σ H, ⟨xs.length, by simp, Nat.zero_le _, h0⟩, ?_⟩
 rintro i m σ H ⟨rfl, hi, p⟩
 have q := hl i σ H hi p
 by_cases hlt : i < xs.length
 · refine .inr ⟨⟨xs, xs[i], q, by simp [hlt]⟩, Pv (i + 1), fun σ' H' p' => ⟨xs.length - (i + 1), by omega, rfl, hlt, p'⟩, fun x H' y => ?_⟩
   obtain ⟨e, y⟩ := y
   subst e
   exact hs i x σ _ (y xs q) p
 · have e : i = xs.length := by omega
   subst e
   exact .inl ⟨⟨xs, q, Nat.le_refl _⟩, hd σ H p⟩
theorem for_tup {K : PySem.W.Frag} {a : Addr} {xs : List V} {g : TG} {tb : TS} {D : Ends} {σ : St} {H : Hp} (Pv : Nat → St → Hp → Prop) (h0 : Pv 0 σ H) (hl : ∀ i σ H, i ≤ xs.length → Pv i σ H → SqT K H a xs)
   (hs : ∀ i x σ H, xs[i]? = some x → Pv i σ H → g x σ H fun σ2 H2 => tb { D with nx := Pv (i + 1), ct := Pv (i + 1), bk := D.nx } σ2 H2) (hd : ∀ σ H, Pv xs.length σ H → D.nx σ H) :
   ∃ W : Nat → Nat → St → Hp → Prop, (∃ m, W 0 m σ H) ∧ ∀ i m σ H, W i m σ H →
     ((Itt K a).stop i H ∧ D.nx σ H) ∨ ((Itt K a).go i H ∧ ∃ N : St → Hp → Prop, (∀ σ' H', N σ' H' → ∃ m', m' < m ∧ W (i + 1) m' σ' H') ∧ ∀ x H', (Itt K a).yld i H x H' → g x σ H' fun σ2 H2 => tb { D with nx := N, ct := N, bk := D.nx } σ2 H2) := by
 refine ⟨fun i m σ H => m = xs.length - i ∧ i ≤ xs.length ∧ Pv i σ H, ⟨xs.length, by simp, Nat.zero_le _, h0⟩, ?_⟩
 rintro i m σ H ⟨rfl, hi, p⟩
 have q := hl i σ H hi p
 by_cases hlt : i < xs.length
 · refine .inr ⟨⟨xs, xs[i], q, by simp [hlt]⟩, Pv (i + 1), fun σ' H' p' => ⟨xs.length - (i + 1), by omega, rfl, hlt, p'⟩, fun x H' y => ?_⟩
   obtain ⟨e, y⟩ := y
   subst e
   exact hs i x σ _ (y xs q) p
 · have e : i = xs.length := by omega
   subst e
   exact .inl ⟨⟨xs, q, Nat.le_refl _⟩, hd σ H p⟩
theorem for_range {lo : Int} {n : Nat} {g : TG} {tb : TS} {D : Ends} {σ : St} {H : Hp} (Pv : Nat → St → Hp → Prop) (h0 : Pv 0 σ H)
   (hs : ∀ i σ H, i < n → Pv i σ H → g (.int (lo + i)) σ H fun σ2 H2 => tb { D with nx := Pv (i + 1), ct := Pv (i + 1), bk := D.nx } σ2 H2) (hd : ∀ σ H, Pv n σ H → D.nx σ H) :
   ∃ W : Nat → Nat → St → Hp → Prop, (∃ m, W 0 m σ H) ∧ ∀ i m σ H, W i m σ H →
     ((Itr lo n).stop i H ∧ D.nx σ H) ∨ ((Itr lo n).go i H ∧ ∃ N : St → Hp → Prop, (∀ σ' H', N σ' H' → ∃ m', m' < m ∧ W (i + 1) m' σ' H') ∧ ∀ x H', (Itr lo n).yld i H x H' → g x σ H' fun σ2 H2 => tb { D with nx := N, ct := N, bk := D.nx } σ2 H2) := by
 refine ⟨fun i m σ H => m = n - i ∧ i ≤ n ∧ Pv i σ H, ⟨n, by simp, Nat.zero_le _, h0⟩, ?_⟩
 rintro i m σ H ⟨rfl, hi, p⟩
 by_cases hlt : i < n
 · refine .inr ⟨hlt, Pv (i + 1), fun σ' H' p' => ⟨n - (i + 1), by omega, rfl, hlt, p'⟩, fun x H' y => ?_⟩
   obtain ⟨e, y⟩ := y
   subst e y
   exact hs i σ _ hlt p
 · have e : i = n := by omega
   subst e
   exact .inl ⟨Nat.le_refl _, hd σ H p⟩
end L2
namespace L2
open PySem PySem.Spec PyProof.Rows
abbrev R2 := V → V → Hp → VK → Prop
def OpR (X : Cx) (f : Value → Value → Sem Value) (r : R2) : Prop :=
 ∀ (pins : List (Addr × Obj)) (s : Shared) (σ : St) (H : Hp) (x y : V) (v u : Value) (Q : VK), Inv X pins σ H s → RelV x v → RelV y u → r x y H Q →
   wpAny (model X.prog X.w) X.A (f v u) (EP X pins σ Q) X.xe s
def UnR (X : Cx) (f : Value → Sem Value) (r : V → Hp → VK → Prop) : Prop :=
 ∀ (pins : List (Addr × Obj)) (s : Shared) (σ : St) (H : Hp) (x : V) (v : Value) (Q : VK), Inv X pins σ H s → RelV x v → r x H Q →
   wpAny (model X.prog X.w) X.A (f v) (EP X pins σ Q) X.xe s
def Jv (X : Cx) (f : Value) (r : List V → Hp → VK → Prop) : Prop :=
 ∀ (pins : List (Addr × Obj)) (s : Shared) (σ : St) (H : Hp) (xs : List V) (us : List Value) (Q : VK), Inv X pins σ H s → Vals xs us → r xs H Q →
   wpAny (model X.prog X.w) X.A (call f us) (EP X pins σ Q) X.xe s
def tOp (r : R2) (ta tb : TE) : TE := fun σ H Q => ta σ H fun x H1 => tb σ H1 fun y H2 => r x y H2 Q
def tUn (r : V → Hp → VK → Prop) (ta : TE) : TE := fun σ H Q => ta σ H fun x H1 => r x H1 Q
def rI (C : Int → Int → Prop) (g : Int → Int → V) : R2 := fun x y H Q => ∃ i j, x = .int i ∧ y = .int j ∧ C i j ∧ Q (g i j) H
def rI0 (g : Int → Int → V) : R2 := fun x y H Q => ∃ i j, x = .int i ∧ y = .int j ∧ Q (g i j) H
def rU (g : Int → V) : V → Hp → VK → Prop := fun x H Q => ∃ i, x = .int i ∧ Q (g i) H
section
variable {X : Cx} {a b c : Expr} {ta tb tc : TE} {pos : Pos}
theorem binT (ha : PE X a ta) (hb : PE X b tb) {pins : List (Addr × Obj)} {s : Shared} {σ : St} {H : Hp} {R : V → V → Hp → Prop} (I : Inv X pins σ H s)
   (h : ta σ H fun x H1 => tb σ H1 fun y H2 => R x y H2) {Q : Value → Shared → Prop} {f : Value → Value → Sem Value}
   (hf : ∀ v u s2 x y H2, Inv X pins σ H2 s2 → RelV x v → RelV y u → R x y H2 → wpAny (model X.prog X.w) X.A (f v u) Q X.xe s2) :
   wpAny (model X.prog X.w) X.A (eval a X.env) (fun v s₁ => wpAny (model X.prog X.w) X.A (eval b X.env) (fun u s₂ => wpAny (model X.prog X.w) X.A (f v u) Q X.xe s₂) X.xe s₁) X.xe s := by
 refine thn (ha pins s σ H _ I h) fun v s1 ⟨x, H1, I1, r1, q1⟩ => ?_
 refine thn (hb pins s1 σ H1 _ I1 q1) fun u s2 ⟨y, H2, I2, r2, q2⟩ => ?_
 exact hf v u s2 x y H2 I2 r1 r2 q2
theorem yz {op : Operator} {r : R2} (ho : OpR X (binaryOp op) r) (ha : PE X a ta) (hb : PE X b tb) : PE X (.BinOp a op b pos) (tOp r ta tb) := by
 intro pins s σ H Q I h
 exact wpAny_BinOp (binT ha hb I h fun v u s2 x y H2 I2 rx ry q => ho pins s2 σ H2 x y v u Q I2 rx ry q)
theorem pe_un {op : UnaryOp} {r : V → Hp → VK → Prop} (ho : UnR X (unaryOp op) r) (ha : PE X a ta) : PE X (.UnaryOp op a pos) (tUn r ta) := by
 intro pins s σ H Q I h
 exact UnaryOp_ (thn (ha pins s σ H _ I h) fun v s1 ⟨x, H1, I1, r1, q1⟩ => ho pins s1 σ H1 x v Q I1 r1 q1)
theorem opI {f : Value → Value → Sem Value} {C : Int → Int → Prop} {g : Int → Int → Int}
   (rule : ∀ (i j : Int) (t u : Tok) (s : Shared) (Q : Value → Shared → Prop) (E : Value → Shared → Prop), C i j → Q (.int (g i j) s.toks) { s with toks := s.toks + 1 } → wpAny (model X.prog X.w) X.A (f (.int i t) (.int j u)) Q E s) :
   OpR X f (rI C fun i j => .int (g i j)) := by
 intro pins s σ H x y v u Q I rx ry h
 obtain ⟨i, j, rfl, rfl, hc, q⟩ := h
 obtain ⟨t, rfl⟩ := rx
 obtain ⟨t', rfl⟩ := ry
 exact rule i j t t' s _ _ hc ⟨.int (g i j), H, I.tok _, ⟨_, rfl⟩, q⟩
theorem opI0 {f : Value → Value → Sem Value} {g : Int → Int → Int}
   (rule : ∀ (i j : Int) (t u : Tok) (s : Shared) (Q : Value → Shared → Prop) (E : Value → Shared → Prop), Q (.int (g i j) s.toks) { s with toks := s.toks + 1 } → wpAny (model X.prog X.w) X.A (f (.int i t) (.int j u)) Q E s) :
   OpR X f (rI0 fun i j => .int (g i j)) := by
 intro pins s σ H x y v u Q I rx ry h
 obtain ⟨i, j, rfl, rfl, q⟩ := h
 obtain ⟨t, rfl⟩ := rx
 obtain ⟨t', rfl⟩ := ry
 exact rule i j t t' s _ _ ⟨.int (g i j), H, I.tok _, ⟨_, rfl⟩, q⟩
theorem opB0 {f : Value → Value → Sem Value} {g : Int → Int → Bool}
   (rule : ∀ (i j : Int) (t u : Tok) (s : Shared) (Q : Value → Shared → Prop) (E : Value → Shared → Prop), Q (.bool (g i j)) s → wpAny (model X.prog X.w) X.A (f (.int i t) (.int j u)) Q E s) :
   OpR X f (rI0 fun i j => .bl (g i j)) := by
 intro pins s σ H x y v u Q I rx ry h
 obtain ⟨i, j, rfl, rfl, q⟩ := h
 obtain ⟨t, rfl⟩ := rx
 obtain ⟨t', rfl⟩ := ry
 exact rule i j t t' s _ _ ⟨.bl (g i j), H, I, rfl, q⟩
def CDiv (i j : Int) : Prop := 0 < j ∧ j < 1073741824
def CMul (i j : Int) : Prop := (-(2 ^ 64) < i ∧ i < 2 ^ 64) ∨ (-(2 ^ 64) < j ∧ j < 2 ^ 64)
theorem CMul.ok {i j : Int} (h : CMul i j) : IntMulOk i j := by
 rcases h with ⟨h1, h2⟩ | ⟨h1, h2⟩
 · exact .of_left (intBits_le_64 h1 h2)
 · exact .of_right (intBits_le_64 h1 h2)
theorem QB : OpR X (binaryOp .Add) (rI0 fun i j => .int (i + j)) := opI0 fun _ _ _ _ _ _ _ q => add_int q
theorem Jz : OpR X (binaryOp .Sub) (rI0 fun i j => .int (i - j)) := opI0 fun _ _ _ _ _ _ _ q => sub_int q
theorem zJQ : OpR X (binaryOp .Mult) (rI CMul fun i j => .int (i * j)) := opI fun _ _ _ _ _ _ _ hc q => mul_int q hc.ok
theorem op_fdiv : OpR X (binaryOp .FloorDiv) (rI CDiv fun i j => .int (i / j)) := opI fun i j _ _ _ _ _ hc q => by
 have h1 : (0 : Int) < j := hc.1
 have h2 : j < 1073741824 := hc.2
 exact floordiv_int (by omega) (by rw [Int.fdiv_eq_ediv_of_nonneg i (by omega)]; exact q) (.inl (PyProof.noPylong_small (by omega)))
theorem op_mod : OpR X (binaryOp .Mod) (rI (fun _ j => 0 < j) fun i j => .int (i % j)) := opI fun i j _ _ _ _ _ hc q => by
 have h1 : (0 : Int) < j := hc
 exact mod_int' (by omega) (by rw [Int.fmod_eq_emod_of_nonneg i (by omega)]; exact q)
theorem unI {f : Value → Sem Value} {g : Int → Int}
   (rule : ∀ (i : Int) (t : Tok) (s : Shared) (Q : Value → Shared → Prop) (E : Value → Shared → Prop), Q (.int (g i) s.toks) { s with toks := s.toks + 1 } → wpAny (model X.prog X.w) X.A (f (.int i t)) Q E s) :
   UnR X f (rU fun i => .int (g i)) := by
 intro pins s σ H x v Q I rx h
 obtain ⟨i, rfl, q⟩ := h
 obtain ⟨t, rfl⟩ := rx
 exact rule i t s _ _ ⟨.int (g i), H, I.tok _, ⟨_, rfl⟩, q⟩
theorem un_neg : UnR X (unaryOp .USub) (rU fun i => .int (-i)) := unI fun _ _ _ _ _ q => neg_int q
end
def scal : V → V → Bool
 | .non, .non => true | .non, .int _ => true | .int _, .non => true | .non, .bl _ => true | .bl _, .non => true | .non, .str _ => true | .str _, .non => true
 | .int _, .int _ => true | .bl _, .bl _ => true | .str _, .str _ => true | .byt _, .byt _ => true
 | .int _, .str _ => true | .str _, .int _ => true | .bl _, .str _ => true | .str _, .bl _ => true
 | _, _ => false
def rEq : R2 := fun x y H Q => scal x y = true ∧ Q (.bl (decide (x = y))) H
def rNe : R2 := fun x y H Q => scal x y = true ∧ Q (.bl (!decide (x = y))) H
theorem dec_int {i j : Int} : decide (V.int i = V.int j) = (i == j) := by
 rw [Bool.eq_iff_iff]
 simp
theorem dec_bl {i j : Bool} : decide (V.bl i = V.bl j) = (i == j) := by
 rw [Bool.eq_iff_iff]
 simp
theorem dec_str {i j : Str} : decide (V.str i = V.str j) = (i == j) := by
 rw [Bool.eq_iff_iff]
 simp
theorem dec_byt {i j : Array UInt8} : decide (V.byt i = V.byt j) = (i.toList == j.toList) := by
 rw [Bool.eq_iff_iff]
 cases i
 cases j
 simp
section
variable {X : Cx} {a b c : Expr} {ta tb tc : TE} {pos : Pos}
theorem vz {pins : List (Addr × Obj)} {σ : St} {H : Hp} {s : Shared} {Q : VK} {k k' : Bool} (I : Inv X pins σ H s) (q : Q (.bl k) H) (e : k = k') : EP X pins σ Q (.bool k') s := by
 subst e
 exact ⟨.bl k, H, I, rfl, q⟩
theorem MG : OpR X (compareOp .Eq) rEq := by
 intro pins s σ H x y v u Q I rx ry h
 obtain ⟨hs, q⟩ := h
 cases x with
 | non =>
   cases rx
   cases y with
   | non => cases ry; exact PySem.EqNone.eq_none_none (vz I q (by simp))
   | bl j => cases ry; exact PySem.EqNone.eq_none_bool (vz I q (by simp))
   | int j => obtain ⟨t', rfl⟩ := ry; exact PySem.EqNone.eq_none_int (vz I q (by simp))
   | str j => obtain ⟨t', rfl⟩ := ry; exact PySem.EqNone.eq_none_str (vz I q (by simp))
   | _ => exact absurd (show false = true from hs) Bool.false_ne_true
 | bl i =>
   cases rx
   cases y with
   | non => cases ry; exact PySem.EqNone.eq_bool_none (vz I q (by simp))
   | bl j => cases ry; exact eq_bool (vz I q dec_bl)
   | str j => obtain ⟨t', rfl⟩ := ry; exact PySem.EqMixed.eq_bool_str (vz I q (by simp))
   | _ => exact absurd (show false = true from hs) Bool.false_ne_true
 | int i =>
   obtain ⟨t, rfl⟩ := rx
   cases y with
   | non => cases ry; exact PySem.EqNone.eq_int_none (vz I q (by simp))
   | int j => obtain ⟨t', rfl⟩ := ry; exact eq_int (vz I q dec_int)
   | str j => obtain ⟨t', rfl⟩ := ry; exact PySem.EqMixed.eq_int_str (vz I q (by simp))
   | _ => exact absurd (show false = true from hs) Bool.false_ne_true
 | str i =>
   obtain ⟨t, rfl⟩ := rx
   cases y with
   | non => cases ry; exact PySem.EqNone.eq_str_none (vz I q (by simp))
   | bl j => cases ry; exact PySem.EqMixed.eq_str_bool (vz I q (by simp))
   | int j => obtain ⟨t', rfl⟩ := ry; exact PySem.EqMixed.eq_str_int (vz I q (by simp))
   | str j => obtain ⟨t', rfl⟩ := ry; exact eq_str (vz I q dec_str)
   | _ => exact absurd (show false = true from hs) Bool.false_ne_true
 | byt i =>
   obtain ⟨t, rfl⟩ := rx
   cases y with
   | byt j => obtain ⟨t', rfl⟩ := ry; exact W.eq_bytes (vz I q dec_byt)
   | _ => exact absurd (show false = true from hs) Bool.false_ne_true
 | _ => cases y <;> exact absurd (show false = true from hs) Bool.false_ne_true
theorem op_ne : OpR X (compareOp .NotEq) rNe := by
 intro pins s σ H x y v u Q I rx ry h
 obtain ⟨hs, q⟩ := h
 cases x with
 | non =>
   cases rx
   cases y with
   | non => cases ry; exact PySem.EqNone.ne_none_none (vz I q (by simp))
   | bl j => cases ry; exact PySem.EqNone.ne_none_bool (vz I q (by simp))
   | int j => obtain ⟨t', rfl⟩ := ry; exact PySem.EqNone.ne_none_int (vz I q (by simp))
   | str j => obtain ⟨t', rfl⟩ := ry; exact PySem.EqNone.ne_none_str (vz I q (by simp))
   | _ => exact absurd (show false = true from hs) Bool.false_ne_true
 | bl i =>
   cases rx
   cases y with
   | non => cases ry; exact PySem.EqNone.ne_bool_none (vz I q (by simp))
   | bl j => cases ry; exact ne_bool (vz I q (congrArg not dec_bl))
   | str j => obtain ⟨t', rfl⟩ := ry; exact PySem.EqMixed.ne_bool_str (vz I q (by simp))
   | _ => exact absurd (show false = true from hs) Bool.false_ne_true
 | int i =>
   obtain ⟨t, rfl⟩ := rx
   cases y with
   | non => cases ry; exact PySem.EqNone.ne_int_none (vz I q (by simp))
   | int j => obtain ⟨t', rfl⟩ := ry; exact ne_int (vz I q (congrArg not dec_int))
   | str j => obtain ⟨t', rfl⟩ := ry; exact PySem.EqMixed.ne_int_str (vz I q (by simp))
   | _ => exact absurd (show false = true from hs) Bool.false_ne_true
 | str i =>
   obtain ⟨t, rfl⟩ := rx
   cases y with
   | non => cases ry; exact PySem.EqNone.ne_str_none (vz I q (by simp))
   | bl j => cases ry; exact PySem.EqMixed.ne_str_bool (vz I q (by simp))
   | int j => obtain ⟨t', rfl⟩ := ry; exact PySem.EqMixed.ne_str_int (vz I q (by simp))
   | str j => obtain ⟨t', rfl⟩ := ry; exact ne_str (vz I q (congrArg not dec_str))
   | _ => exact absurd (show false = true from hs) Bool.false_ne_true
 | byt i =>
   obtain ⟨t, rfl⟩ := rx
   cases y with
   | byt j => obtain ⟨t', rfl⟩ := ry; exact W.ne_bytes (vz I q (congrArg not dec_byt))
   | _ => exact absurd (show false = true from hs) Bool.false_ne_true
 | _ => cases y <;> exact absurd (show false = true from hs) Bool.false_ne_true
theorem op_lt : OpR X (compareOp .Lt) (rI0 fun i j => .bl (decide (i < j))) := opB0 fun _ _ _ _ _ _ _ q => lt_int q
theorem op_gt : OpR X (compareOp .Gt) (rI0 fun i j => .bl (decide (j < i))) := opB0 fun _ _ _ _ _ _ _ q => gt_int q
theorem op_ge : OpR X (compareOp .GtE) (rI0 fun i j => .bl (decide (j ≤ i))) := opB0 fun _ _ _ _ _ _ _ q => ge_int q
theorem op_isN : OpR X (compareOp .Is) (fun x y H Q => y = .non ∧ Q (.bl (decide (x = .non))) H) := by
 intro pins s σ H x y v u Q I rx ry h
 obtain ⟨rfl, q⟩ := h
 cases ry
 refine is_none_gen (vz I q ?_)
 cases x <;> first
   | (cases rx; rfl)
   | (obtain ⟨t, rfl⟩ := rx; rfl)
theorem yU (b : Expr) {op : CmpOp} (h : op ≠ .In := by decide) (h2 : op ≠ .NotIn := by decide) : behindInMarks op b = false := by
 have e1 : (op == CmpOp.In) = false := by cases op <;> first | rfl | exact absurd rfl h
 have e2 : (op == CmpOp.NotIn) = false := by cases op <;> first | rfl | exact absurd rfl h2
 cases b <;> simp [behindInMarks, e1, e2]
theorem pe_cmpR {op : CmpOp} {r : R2} (ho : OpR X (compareOp op) r) (ha : PE X a ta) (hb : PE X b tb) (hm : behindInMarks op b = false) : PE X (.Compare a [op] [b] pos) (tOp r ta tb) := by
 intro pins s σ H Q I h
 exact wpAny_Compare1 (binT ha hb I h fun v u s2 x y H2 I2 rx ry q => ho pins s2 σ H2 x y v u Q I2 rx ry q) hm
def tTest (t : TE) : TT := fun σ H Q => t σ H fun x H' => ∃ k, x = .bl k ∧ Q k H'
theorem qw {op : CmpOp} {r : R2} (ho : OpR X (compareOp op) r) (ha : PE X a ta) (hb : PE X b tb) (hm : behindInMarks op b = false) : PT X (.Compare a [op] [b] pos) (tTest (tOp r ta tb)) := by
 intro pins s σ H Q I h
 refine wpAny_isTrue_Compare1 (thn (ha pins s σ H _ I h) fun v s1 ⟨x, H1, I1, r1, q1⟩ => thn (hb pins s1 σ H1 _ I1 q1) fun u s2 ⟨y, H2, I2, r2, q2⟩ =>
   thn (ho pins s2 σ H2 x y v u _ I2 r1 r2 q2) fun c s3 ⟨z, H3, I3, r3, k, e, q3⟩ => ?_) hm
 subst e
 cases r3
 exact wpAny_truthy_bool ⟨H3, I3, q3⟩
theorem line63 : (sizeLine : Nat) < 2 ^ 63 := by rw [sizeLine_eq]; decide
theorem vals1 {x : V} {us : List Value} (r : Vals [x] us) : ∃ u, us = [u] ∧ RelV x u := by
 cases r with
 | cons r1 r2 => cases r2; exact ⟨_, rfl, r1⟩
theorem vals2 {x y : V} {us : List Value} (r : Vals [x, y] us) : ∃ u w', us = [u, w'] ∧ RelV x u ∧ RelV y w' := by
 cases r with
 | cons r1 r2 =>
   cases r2 with
   | cons r3 r4 => cases r4; exact ⟨_, _, rfl, r1, r3⟩
theorem zQQ (hc : X.calm = true) : Jv X (.builtin "max") (fun xs H Q => ∃ i j, xs = [.int i, .int j] ∧ Q (.int (if j > i then j else i)) H) := by
 intro pins s σ H xs us Q I r h
 obtain ⟨i, j, rfl, q⟩ := h
 obtain ⟨u, w', rfl, ⟨t, rfl⟩, ⟨t', rfl⟩⟩ := vals2 r
 refine max_two_ints (I.ok.hd hc) fun h' tk k => ⟨_, H, I.kept k, ?_, q⟩
 by_cases hj : j > i
 · rw [if_pos hj, if_pos hj]; exact ⟨_, rfl⟩
 · rw [if_neg hj, if_neg hj]; exact ⟨_, rfl⟩
theorem call_min2 (hc : X.calm = true) : Jv X (.builtin "min") (fun xs H Q => ∃ i j, xs = [.int i, .int j] ∧ Q (.int (if j < i then j else i)) H) := by
 intro pins s σ H xs us Q I r h
 obtain ⟨i, j, rfl, q⟩ := h
 obtain ⟨u, w', rfl, ⟨t, rfl⟩, ⟨t', rfl⟩⟩ := vals2 r
 refine min_two_ints (I.ok.hd hc) fun h' tk k => ⟨_, H, I.kept k, ?_, q⟩
 by_cases hj : j < i
 · rw [if_pos hj, if_pos hj]; exact ⟨_, rfl⟩
 · rw [if_neg hj, if_neg hj]; exact ⟨_, rfl⟩
end
end L2
namespace L2
open PySem PySem.Spec PyProof.Rows
structure ObjM (h : Heap) (x dx C : Addr) (mA : Str → Option Value) : Prop where
 obj : h.get? x = some (W.instObj C dx)
 ns : h.Ns1 dx mA
 ne : dx ≠ x
theorem lookIn_ns {h : Heap} {dx : Addr} {mA : Str → Option Value} (n : h.Ns1 dx mA) : ∃ od, h.get? dx = some od ∧ ∀ name, W.lookIn name od = some (mA name) := by
 obtain ⟨o, es, ep, ho, hd, hk, _, hm⟩ := n
 refine ⟨o, ho, fun name => ?_⟩
 have e := hm name
 unfold nsFind findBy at e
 rw [← Array.find?_toList] at e
 unfold W.lookIn
 rw [hd]
 dsimp only
 split
 · rename_i y q
   rw [q] at e
   exact congrArg some e
 · rename_i q
   rw [q] at e
   have a : es.toList.any (·.refKey) = false := by
     rw [List.any_eq_false]
     intro y hy
     obtain ⟨z, t, hkey⟩ := hk y (Array.mem_toList_iff.mp hy)
     simp [DictEntry.refKey, hkey]
   have a' : ¬ es.toList.any (·.refKey) = true := by rw [a]; exact Bool.false_ne_true
   rw [if_neg a']
   exact congrArg some e
theorem ObjM.look {h : Heap} {x dx C : Addr} {mA : Str → Option Value} (I : ObjM h x dx C mA) : ∃ od, W.InstAt h x (W.instObj C dx) C (some od) ∧ ∀ name, W.lookIn name od = some (mA name) :=
 let ⟨od, ho, hl⟩ := lookIn_ns I.ns
 ⟨od, ⟨I.obj, rfl, rfl, ho⟩, hl⟩
section
variable {prog : Program} {w : World} {A : Around} {E : Value → Shared → Prop} {s : Shared} {K : W.Frag} {x dx C f : Addr} {mA : Str → Option Value} {name : Str} {v : Value}
theorem get_map {expr : Bool} {Q : Value → Shared → Prop} (X : K.In s.heap) (I : ObjM s.heap x dx C mA) (hg : W.plainGet K C name = true) (hh : W.hasDictIn K C = true)
   (ha : W.findIn K (.ref C) name = some none) (hv : mA name = some v) (hv' : W.handedIn v = true) (h : Q v { s with toks := s.toks + 1 }) :
   wpAny (model prog w) A (getAttr (.ref x) name expr) Q E s := by
 obtain ⟨od, J, hl⟩ := I.look
 exact W.get_value X J (W.plainGet_of hg).1 (W.findObj_own hh ha rfl (by rw [hl, hv])) hv' h
theorem get_meth {pl : Sem Bool} {Q : Value × List Value → Shared → Prop} (X : K.In s.heap) (I : ObjM s.heap x dx C mA) (hg : W.plainGet K C name = true)
   (hf : W.findIn K (.ref C) name = some (some (.ref f))) (ht : W.isFn K (.ref f) = true) (hv : mA name = none) (h : Q (.ref f, [.ref x]) s) :
   wpAny (model prog w) A (getMethod (.ref x) name pl) Q E s := by
 obtain ⟨od, J, hl⟩ := I.look
 exact W.method_fn X J (W.plainGet_of hg).1 (W.plainGet_of hg).2 hf (beq_iff_eq.mp ht) (by show (W.lookIn name od).map (·.isSome) = some false; rw [hl, hv]; rfl) h
theorem set_map {ns : List Str} {Q : Unit → Shared → Prop} (X : K.In s.heap) (I : ObjM s.heap x dx C mA)
   (hs : W.findIn K (.ref C) "__setattr__" = some (some (.builtin "object.__setattr__"))) (hp : W.plainOver K C = true) (ht : W.takerIn K C name = some none) (hh : W.hasDictIn K C = true)
   (hw : PySem.Within mA ns) (hsz : ns.length ≤ sizeLine)
   (h : ∀ h', ObjM h' x dx C (fun y => if y = name then some v else mA y) → Heap.SameBut dx s.heap h' → Q () { s with heap := h', toks := s.toks + 2 }) :
   wpAny (model prog w) A (setAttr (.ref x) name v) Q E s := by
 obtain ⟨od, J, hl⟩ := I.look
 refine W.set_plain X J hs (W.osa_open (s := { s with toks := s.toks + 1 }) (r := none) X J hp ht fun b => ?_)
 obtain ⟨cd, hc, hd'⟩ := W.any_some hh
 have hx : s.heap.get? x = some ⟨.ref C, some dx, .plain, #[]⟩ := I.obj
 refine wpAny_bind (wpAny_pure (wpAny_bind (wpAny_bind (wpAny_loadPart hx (wpAny_bind (W.Looks.here (s := { s with toks := s.toks + 1 }) (W.looks_clsIn X hc) ?_))))))
 rw [hd']
 refine wpAny_pure (a := some dx) (wpAny_bind (wpAny_pure (wpAny_bind ?_)))
 refine wpAny_nsSet1 (s := { s with toks := s.toks + 1 }) I.ns fun h' hn2 hs2 => ?_
 obtain ⟨oD, esD, epD, hoD, hdD, hcD⟩ := hn2.count (PySem.Within.cons name v hw)
 refine wpAny_bind (wpAny_lookBehind hoD (by rw [hdD]; exact pastItsLine_dict (Nat.le_trans hcD (by rw [List.length_cons]; omega))) ?_)
 exact wpAny_pure (h _ ⟨(hs2.2 _ (Ne.symm I.ne)).trans I.obj, hn2, I.ne⟩ hs2)
theorem make_map {R : Result → Shared → Prop} {vs : List Value} {kw : List (Str × Value)} (X : K.In s.heap) (hm : W.makesIn K C = true)
   (hi : W.findIn K (.ref C) "__init__" = some (some (.ref f))) (hf : W.typeIn K (.ref f) = some (.type "function"))
   (h : codeAny (model prog w) (A.under (.builtin "type.__call__" ⟨.ref C :: vs, kw⟩)) (.call (.ref f) ⟨.ref (s.heap.objs.size + 1) :: vs, kw⟩) (W.InitBack (s.heap.objs.size + 1) R)
     { s with heap := (s.heap.push W.emptyDict).push (W.instObj C s.heap.objs.size) }) :
   codeAny (model prog w) A (.call (.ref C) ⟨vs, kw⟩) R s := by
 obtain ⟨hh, g, d, t, os⟩ := s
 exact W.make_core (W.makes_of X hm) (W.looks_findIn X hi) (fun self => W.bind_fn X self hf) (.inl rfl) h
end
def putF (f : Str) (v : V) : List (Str × V) → List (Str × V)
 | [] => [(f, v)]
 | (g, x) :: r => if g = f then (g, v) :: r else (g, x) :: putF f v r
theorem lookup_putF (f g : Str) (v : V) : ∀ fs : List (Str × V), (putF f v fs).lookup g = if g = f then some v else fs.lookup g
 | [] => by
   show List.lookup g [(f, v)] = _
   by_cases h : g = f
   · have hb : (g == f) = true := beq_iff_eq.mpr h
     simp only [List.lookup, hb, if_pos h]
   · have hb : (g == f) = false := beq_eq_false_iff_ne.mpr h
     simp only [List.lookup, hb, if_neg h]
 | (k, x) :: r => by
   have ih := lookup_putF f g v r
   rw [show putF f v ((k, x) :: r) = (if k = f then (k, v) :: r else (k, x) :: putF f v r) from rfl]
   by_cases hk : k = f
   · rw [if_pos hk]
     by_cases h : g = k
     · have hb : (g == k) = true := beq_iff_eq.mpr h
       simp only [List.lookup, hb, if_pos (h.trans hk)]
     · have hb : (g == k) = false := beq_eq_false_iff_ne.mpr h
       simp only [List.lookup, hb, if_neg (fun e : g = f => h (e.trans hk.symm))]
   · rw [if_neg hk]
     by_cases h : g = k
     · have hb : (g == k) = true := beq_iff_eq.mpr h
       simp only [List.lookup, hb, if_neg (fun e : g = f => hk (h.symm.trans e))]
     · have hb : (g == k) = false := beq_eq_false_iff_ne.mpr h
       simp only [List.lookup, hb]
       exact ih
theorem keys_putF (f : Str) (v : V) : ∀ fs : List (Str × V), f ∈ (putF f v fs).map (·.1) ∧ ∀ g, g ∈ fs.map (·.1) → g ∈ (putF f v fs).map (·.1)
 | [] => ⟨by simp [putF], fun g h => by simp at h⟩
 | (k, x) :: r => by
   obtain ⟨i1, i2⟩ := keys_putF f v r
   rw [show putF f v ((k, x) :: r) = (if k = f then (k, v) :: r else (k, x) :: putF f v r) from rfl]
   by_cases hk : k = f
   · rw [if_pos hk]
     subst hk
     exact ⟨by simp, fun g h => by simpa using h⟩
   · rw [if_neg hk]
     refine ⟨?_, fun g h => ?_⟩
     · rw [List.map_cons]
       exact List.mem_cons_of_mem _ i1
     · rw [List.map_cons] at h ⊢
       rcases List.mem_cons.mp h with e | e
       · exact List.mem_cons.mpr (.inl e)
       · exact List.mem_cons_of_mem _ (i2 g e)
theorem length_putF (f : Str) (v : V) : ∀ fs : List (Str × V), (putF f v fs).length ≤ fs.length + 1
 | [] => by simp [putF]
 | (k, x) :: r => by
   have ih := length_putF f v r
   rw [show putF f v ((k, x) :: r) = (if k = f then (k, v) :: r else (k, x) :: putF f v r) from rfl]
   by_cases hk : k = f
   · rw [if_pos hk, List.length_cons, List.length_cons]; omega
   · rw [if_neg hk, List.length_cons, List.length_cons]; omega
theorem RelO.some_of {v : V} {o : Option Value} (r : RelO (some v) o) : ∃ u, o = some u ∧ RelV v u := by
 cases o with
 | none => exact (show False from r).elim
 | some u => exact ⟨u, rfl, r⟩
theorem RelO.none_of {o : Option Value} (r : RelO none o) : o = none := by
 cases o with
 | none => rfl
 | some u => exact (show False from r).elim
theorem handed_of {v : V} {u : Value} (r : RelV v u) : W.handedIn u = true := by
 cases v with
 | non => cases (show u = Value.none from r); rfl
 | bl b => cases (show u = Value.bool b from r); rfl
 | int i => obtain ⟨t, e⟩ := (show ∃ t, u = Value.int i t from r); cases e; rfl
 | str x => obtain ⟨t, e⟩ := (show ∃ t, u = Value.str x t from r); cases e; rfl
 | byt b => obtain ⟨t, e⟩ := (show ∃ t, u = Value.bytes b t from r); cases e; rfl
 | flt b => obtain ⟨t, e⟩ := (show ∃ t, u = Value.float b t from r); cases e; rfl
 | ref a => cases (show u = Value.ref a from r); rfl
 | ty n => cases (show u = Value.type n from r); rfl
section
variable {P : Program} {w : World} {H H' : Hp} {h h' : Heap} {a C dx : Addr} {fs fs' : List (Str × V)}
theorem ins_get (hok : HOk P w H h) (e : H a = some (.ins C dx fs)) : ∃ mA, ObjM h a dx C mA ∧ (∀ f, RelO (fs.lookup f) (mA f)) ∧ PySem.Within mA (fs.map (·.1)) ∧ fs.length ≤ 1000 ∧ H dx = some (.own a) := by
 obtain ⟨d, z, ne, ob, mA, n, r, q⟩ := (show ObjOk P w H h a (.ins C dx fs) from hok a _ e)
 exact ⟨mA, ⟨ob, n, ne⟩, r, q, z, d⟩
end
structure Cls (K : W.Frag) (C : Addr) : Prop where
 pg : W.plainGet K C Str.empty = true
 hd : W.hasDictIn K C = true
 po : W.plainOver K C = true
 sa : W.findIn K (.ref C) "__setattr__" = some (some (.builtin "object.__setattr__"))
theorem Cls.get {K : W.Frag} {C : Addr} (c : Cls K C) (f : Str) : W.plainGet K C f = true := c.pg
def NoAttr (K : W.Frag) (C : Addr) (f : Str) : Prop := W.findIn K (.ref C) f = some none
theorem NoAttr.taker {K : W.Frag} {C : Addr} {f : Str} (n : NoAttr K C f) : W.takerIn K C f = some none := by
 unfold W.takerIn
 rw [show W.findIn K (.ref C) f = some none from n]
 rfl
structure Meth (K : W.Frag) (C : Addr) (m : Str) (f : Addr) : Prop where
 at_ : W.findIn K (.ref C) m = some (some (.ref f))
 fn : W.isFn K (.ref f) = true
 kp : W.keepIn K (.ref f) = true
section
variable {X : Cx} {pins : List (Addr × Obj)} {σ : St} {H : Hp} {s : Shared} {a C dx : Addr} {fs : List (Str × V)} {f : Str} {v : V} {A : Around} {E : Value → Shared → Prop}
theorem getattr_ok {b : Bool} {Q : Value → Shared → Prop} (I : Inv X pins σ H s) (e : H a = some (.ins C dx fs)) (c : Cls X.K C) (n : NoAttr X.K C f) (l : fs.lookup f = some v)
   (h : ∀ u s', Inv X pins σ H s' → RelV v u → Q u s') : wpAny (model X.prog X.w) A (getAttr (.ref a) f b) Q E s := by
 obtain ⟨mA, O, r, _, _, _⟩ := ins_get I.hok e
 obtain ⟨u, hu, ru⟩ := RelO.some_of (v := v) (o := mA f) (by rw [← l]; exact r f)
 exact get_map I.kIn O (c.get f) c.hd n hu (handed_of ru) (h u _ (I.tok _) ru)
theorem getmeth_ok {m : Str} {g : Addr} {pl : Sem Bool} {Q : Value × List Value → Shared → Prop} (I : Inv X pins σ H s) (e : H a = some (.ins C dx fs)) (c : Cls X.K C) (k : Meth X.K C m g) (l : fs.lookup m = none)
   (h : Q (.ref g, [.ref a]) s) : wpAny (model X.prog X.w) A (getMethod (.ref a) m pl) Q E s := by
 obtain ⟨mA, O, r, _, _, _⟩ := ins_get I.hok e
 have hn : mA m = none := RelO.none_of (by rw [← l]; exact r m)
 exact get_meth I.kIn O (c.get m) k.at_ k.fn hn h
theorem setattr_ok {y : V} {u : Value} {Q : Unit → Shared → Prop} (I : Inv X pins σ H s) (e : H a = some (.ins C dx fs)) (c : Cls X.K C) (n : NoAttr X.K C f) (hl : fs.length < 1000) (ry : RelV y u)
   (h : ∀ s', Inv X pins σ (upd H a (.ins C dx (putF f y fs))) s' → Q () s') : wpAny (model X.prog X.w) A (setAttr (.ref a) f u) Q E s := by
 obtain ⟨mA, O, r, wi, _, ho⟩ := ins_get I.hok e
 have hz : (fs.map (·.1)).length ≤ sizeLine := by rw [List.length_map, sizeLine_eq]; omega
 refine set_map I.kIn O c.sa c.po n.taker c.hd wi hz fun h' O' sb => h _ ?_
 have hd : ∃ o, h'.get? dx = some o := let ⟨o, _, _, e', _⟩ := O'.ns; ⟨o, e'⟩
 refine I.write (x := a) (e := dx) (by rw [e]; exact True.intro) (.inr ho) (fun b q hb z => (sb.2 b hb).trans z) hd ?_
 refine ⟨by rw [qY O.ne]; exact ho, ?_, O.ne, O'.obj, _, O'.ns, fun g => ?_, fun g hg => ?_⟩
 · have := length_putF f y fs; omega
 · show RelO ((putF f y fs).lookup g) (if g = f then some u else mA g)
   rw [lookup_putF]
   by_cases q : g = f
   · rw [if_pos q, if_pos q]; exact ry
   · rw [if_neg q, if_neg q]; exact r g
 · by_cases q : g = f
   · rw [q]; exact (keys_putF f y fs).1
   · refine (keys_putF f y fs).2 g (wi g fun z => hg ?_)
     show (if g = f then some u else mA g) = none
     rw [if_neg q]; exact z
theorem Inv.made (I : Inv X pins σ H s) : Inv X pins σ (upd (upd H s.heap.objs.size (.own (s.heap.objs.size + 1))) (s.heap.objs.size + 1) (.ins C s.heap.objs.size []))
   { s with heap := (s.heap.push W.emptyDict).push (W.instObj C s.heap.objs.size) } := by
 have e1 : (s.heap.push W.emptyDict).get? s.heap.objs.size = some W.emptyDict := Heap.get?_push_size s.heap rfl
 have e2 : ((s.heap.push W.emptyDict).push (W.instObj C s.heap.objs.size)).get? (s.heap.objs.size + 1) = some (W.instObj C s.heap.objs.size) := by
   have := Heap.get?_push_size (s.heap.push W.emptyDict) (o := W.instObj C s.heap.objs.size) rfl
   rwa [Heap.size_push] at this
 have e3 : (s.heap.push W.emptyDict).Ns s.heap.objs.size (fun _ => none) := ⟨W.emptyDict, #[], _, e1, rfl, (fun e he => absurd he (by simp)), fun _ => rfl⟩
 have I1 := I.laid (a := s.heap.objs.size) (o := .own (s.heap.objs.size + 1)) (h' := s.heap.push W.emptyDict) (t' := s.toks) (fun b u q => Heap.get?_push_of_some _ q) (Nat.le_refl _) ⟨_, e1⟩
 refine I1.laid (a := s.heap.objs.size + 1) (o := .ins C s.heap.objs.size []) (t' := s.toks) (fun b u q => Heap.get?_push_of_some _ q) (Nat.le_of_eq (Heap.size_push _ _)) ?_
 have ne : s.heap.objs.size ≠ s.heap.objs.size + 1 := Nat.ne_of_lt (Nat.lt_succ_self _)
 refine ⟨by rw [qY ne, qQ], Nat.zero_le _, ne, e2, fun _ => none, (Heap.Ns1.of_empty e3).at fun o q => Heap.get?_push_of_some _ q, fun _ => True.intro, fun y hy => absurd rfl hy⟩
theorem attr_of {prog : Program} {w : World} {env : Env} {e : Expr} {f : Str} {pos : Pos} {s : Shared} {Q : Value → Shared → Prop} (hb : attributeBase e f env (eval e env) = eval e env)
   (h : wpAny (model prog w) A (eval e env) (fun o s₁ => wpAny (model prog w) A (getAttr o f true) Q E s₁) E s) : wpAny (model prog w) A (eval (.Attribute e f pos) env) Q E s :=
 Attribute_any_ h (by rw [arm_eval_Attribute, hb])
end
def tFld (K : W.Frag) (ta : TE) (f : Str) : TE := fun σ H Q => ta σ H fun x H1 => ∃ a C dx fs v, x = .ref a ∧ H1 a = some (.ins C dx fs) ∧ Cls K C ∧ NoAttr K C f ∧ fs.lookup f = some v ∧ Q v H1
def sFld (K : W.Frag) (ta tv : TE) (f : Str) : TS := fun D σ H => tv σ H fun y H1 => ta σ H1 fun x H2 => ∃ a C dx fs, x = .ref a ∧ H2 a = some (.ins C dx fs) ∧ Cls K C ∧ NoAttr K C f ∧ fs.length < 1000 ∧
 D.nx σ (upd H2 a (.ins C dx (putF f y fs)))
section
variable {X : Cx} {o e value : Expr} {f : Str} {pos pos' tpos : Pos} {ta tv : TE}
theorem pe_fld (he : PE X e ta) (hb : attributeBase e f X.env (eval e X.env) = eval e X.env) : PE X (.Attribute e f pos) (tFld X.K ta f) := by
 intro pins s σ H Q I h
 refine attr_of hb (thn (he pins s σ H _ I h) fun u s1 ⟨x, H1, I1, rx, a, C, dx, fs, v, ex, ea, c, n, l, q⟩ => ?_)
 subst ex
 obtain rfl : u = Value.ref a := rx
 exact getattr_ok I1 ea c n l fun u' s2 I2 ru => ⟨v, H1, I2, ru, q⟩
theorem ps_fld (ha : PE X o ta) (hv : PE X value tv) (hs : swapsWith value (some (.Attribute o f pos')) pos.line X.env = pure false) : PS X (.Assign [.Attribute o f pos'] value pos) (sFld X.K ta tv f) := by
 intro pins s σ H D I h
 refine plainObj_wpAny_Assign_Attribute (thn (hv pins s σ H _ I h) fun u s1 ⟨y, H1, I1, ry, q⟩ => thn (ha pins s1 σ H1 _ I1 q) fun ov s2 ⟨x, H2, I2, rx, a, C, dx, fs, ex, ea, c, n, l, q2⟩ => ?_) hs
 subst ex
 obtain rfl : ov = Value.ref a := rx
 exact setattr_ok I2 ea c n l ry fun s3 I3 => ⟨σ, _, I3, q2⟩
end
end L2
namespace L2
open PySem PySem.Spec PyProof.Rows
structure Room (k : Nat) (A : Around) : Prop where
 hd : A.handled = none
 dp : A.depth + 3 * k + 5 < recursionLimit
 un : A.units + 16 * k + 200 < cLine
theorem Room.mono {j k : Nat} {A : Around} (r : Room k A) (h : j ≤ k) : Room j A := ⟨r.hd, by have := r.dp; omega, by have := r.un; omega⟩
theorem Room.deeper {k : Nat} {A : Around} (r : Room (k + 1) A) (env : Env) : Room k (A.deeper env) :=
 ⟨r.hd, by have := r.dp; show A.depth + 1 + 3 * k + 5 < _; omega, by have := r.un; show A.units + 3 + 16 * k + 200 < _; omega⟩
theorem Room.in1 {k : Nat} {A : Around} (r : Room (k + 1) A) : Room k A.in1 :=
 ⟨r.hd, by have := r.dp; show A.depth + 3 * k + 5 < _; omega, by have := r.un; show A.units + 1 + 16 * k + 200 < _; omega⟩
theorem make_depth {A : Around} {C : Addr} {us : List Value} {kw : List (Str × Value)} : (A.under (.builtin "type.__call__" ⟨.ref C :: us, kw⟩)).depth = A.depth + 1 := by
 first | rfl | simp [Around.under, Code.weight, Code.isCreation, Code.isGuard, Code.isCaller, Code.frames, Code.isFrame, guardIds]
theorem make_units {A : Around} {C : Addr} {us : List Value} {kw : List (Str × Value)} : (A.under (.builtin "type.__call__" ⟨.ref C :: us, kw⟩)).units = A.units + 1 := by
 first | rfl | simp [Around.under, Code.cUnits, Code.frames, Code.isFrame]
theorem Room.make {k : Nat} {A : Around} (r : Room (k + 1) A) (C : Addr) (us : List Value) (kw : List (Str × Value)) : Room k (A.under (.builtin "type.__call__" ⟨.ref C :: us, kw⟩)) :=
 ⟨r.hd, by have := r.dp; rw [make_depth]; omega, by have := r.un; rw [make_units]; omega⟩
theorem Room.depth {k : Nat} {A : Around} (r : Room k A) : A.depth < recursionLimit := by have := r.dp; omega
theorem Room.units {k : Nat} {A : Around} (r : Room k A) : A.units + 64 < cLine := by have := r.un; omega
theorem Room.units0 {k : Nat} {A : Around} (r : Room k A) : A.units < cLine := by have := r.un; omega
def tNil : TA := fun _ H Q => Q [] H
def tCons (ta : TE) (tr : TA) : TA := fun σ H Q => ta σ H fun x H1 => tr σ H1 fun xs H2 => Q (x :: xs) H2
section
variable {X : Cx} {e : Expr} {es : List Expr} {te : TE} {t : TA} {pos : Pos}
theorem YB : PA X [] tNil := fun _ _ _ _ H Q I h => Calls.spliced_nil ⟨[], H, I, .nil, h⟩
theorem zq (ha : PE X e te) (hr : PA X es t) (hs : starEach (e :: es) X.env = (false, eval e X.env) :: starEach es X.env := by rfl) : PA X (e :: es) (tCons te t) := by
 intro pos pins s σ H Q I h
 rw [hs]
 show wpAny _ _ (spliced ((false, eval e X.env) :: backTo pos (starEach es X.env))) _ _ s
 refine Calls.spliced_cons (thn (ha pins s σ H _ I h) fun u s1 ⟨x, H1, I1, r1, q1⟩ => ?_)
 exact thn (hr pos pins s1 σ H1 _ I1 q1) fun us s2 ⟨xs, H2, I2, r2, q2⟩ => ⟨x :: xs, H2, I2, .cons r1 r2, q2⟩
def tTup (t : TA) : TE := fun σ H Q => t σ H fun xs H1 => xs.length ≤ sizeLine ∧ ∀ p, H1 p = none → Q (.ref p) (upd H1 p (.tup xs))
def tLst (t : TA) : TE := fun σ H Q => t σ H fun xs H1 => xs.length ≤ sizeLine ∧ ∀ p, H1 p = none → Q (.ref p) (upd H1 p (.lst xs))
theorem pe_tup {x1} (h : PA X es t) : PE X (.Tuple es x1 pos) (tTup t) := by
 intro pins s σ H Q I hq
 refine wpAny_Tuple_spliced (thn (h pos pins s σ H _ I hq) fun us s1 ⟨xs, H1, I1, r, z, q⟩ => ⟨by rw [← r.length]; exact z, ?_⟩)
 have hf : H1 s1.heap.objs.size = none := I1.hok.fresh (Nat.le_refl _)
 refine ⟨.ref s1.heap.objs.size, upd H1 s1.heap.objs.size (.tup xs), I1.laid (t' := s1.toks) (fun b u e => Heap.get?_push_of_some _ e) (Nat.le_refl _) ?_, rfl, q _ hf⟩
 exact ⟨z, us, r, ⟨_, Heap.get?_push_size _ rfl, rfl, _, rfl⟩⟩
theorem pe_lst (h : PA X es t) : PE X (.List es pos) (tLst t) := by
 intro pins s σ H Q I hq
 refine wpAny_List_spliced (thn (h pos pins s σ H _ I hq) fun us s1 ⟨xs, H1, I1, r, z, q⟩ => ⟨by rw [← r.length]; exact z, ?_⟩)
 have hf : H1 s1.heap.objs.size = none := I1.hok.fresh (Nat.le_refl _)
 refine ⟨.ref s1.heap.objs.size, upd H1 s1.heap.objs.size (.lst xs), I1.laid (t' := s1.toks) (fun b u e => Heap.get?_push_of_some _ e) (Nat.le_refl _) ?_, rfl, q _ hf⟩
 exact ⟨z, us, 0, r, Heap.get?_push_size _ rfl⟩
end
abbrev Sp := List V → Hp → VK → XK → Prop
abbrev CXT := List Env → Hp → Shared → XK → Value → Shared → Prop
structure Env0 (P : Program) (w : World) (K : W.Frag) (mg : Str → Option Value) (base : Heap) (A : Around) (outer : List Env) (s : Shared) (H : Hp) : Prop where
 frames : A.frames = some outer
 mod : Mod K mg base
 bs : ∀ b o, base.get? b = some o → s.heap.get? b = some o ∧ H b = none
 bsz : base.objs.size ≤ s.heap.objs.size
 funs : s.heap.FunFrames base outer
 frf : ∀ b ∈ frs outer, H b = none
 hok : HOk P w H s.heap
 bare : AllBare s.gens
def CE (outer : List Env) (P : Program) (w : World) (H : Hp) (s : Shared) (Q : VK) (u : Value) (s' : Shared) : Prop :=
 ∃ v H', s'.os = s.os ∧ AllBare s'.gens ∧ Un (frs outer) [] H H' s.heap s'.heap ∧ HOk P w H' s'.heap ∧ RelV v u ∧ Q v H'
def CR (CX : CXT) (outer : List Env) (P : Program) (w : World) (H : Hp) (s : Shared) (Q : VK) (E : XK) (r : Result) (s' : Shared) : Prop :=
 match r with
 | .ok (.ret u) => CE outer P w H s Q u s'
 | .ok _ => False
 | .error e => CX outer H s E e s'
structure FnOk (P : Program) (w : World) (K : W.Frag) (mg : Str → Option Value) (base : Heap) (CX : CXT) (k : Nat) (f : Addr) (fd : FuncData) (ps : List Str) (sp : Sp) : Prop where
 len : ∀ vs H Q E, sp vs H Q E → vs.length = ps.length
 run : ∀ (A : Around) (outer : List Env) (s : Shared) (H : Hp) (args : Args) (us : List Value) (vs : List V) (Q : VK) (E : XK), Room k A → Env0 P w K mg base A outer s H → BindsTo s fd args (ps.zip us) → Vals vs us → sp vs H Q E →
   codeAny (model P w) A (.call (.ref f) args) (CR CX outer P w H s Q E) s
theorem FnOk.mono {P : Program} {w : World} {K : W.Frag} {mg : Str → Option Value} {base : Heap} {CX : CXT} {j k : Nat} {f : Addr} {fd : FuncData} {ps : List Str} {sp : Sp} (F : FnOk P w K mg base CX j f fd ps sp) (h : j ≤ k) :
   FnOk P w K mg base CX k f fd ps sp := ⟨F.len, fun A outer s H args us vs Q E hr => F.run A outer s H args us vs Q E (hr.mono h)⟩
theorem FnOk.imp {P : Program} {w : World} {K : W.Frag} {mg : Str → Option Value} {base : Heap} {CX : CXT} {k : Nat} {f : Addr} {fd : FuncData} {ps : List Str} {sp sp' : Sp} (F : FnOk P w K mg base CX k f fd ps sp)
   (h : ∀ vs H Q E, sp' vs H Q E → sp vs H Q E) : FnOk P w K mg base CX k f fd ps sp' :=
 ⟨fun vs H Q E q => F.len vs H Q E (h _ _ _ _ q), fun A outer s H args us vs Q E hr he hb hv hs => F.run A outer s H args us vs Q E hr he hb hv (h _ _ _ _ hs)⟩
theorem Env0.make {P : Program} {w : World} {K : W.Frag} {mg : Str → Option Value} {base : Heap} {A : Around} {outer : List Env} {s : Shared} {H : Hp} (e : Env0 P w K mg base A outer s H) (C : Addr) (us : List Value) (kw : List (Str × Value)) :
   Env0 P w K mg base (A.under (.builtin "type.__call__" ⟨.ref C :: us, kw⟩)) outer s H := ⟨by first | exact e.frames | (simpa [Around.under, Code.envs, Code.isFrame, pushEnvs] using e.frames), e.mod, e.bs, e.bsz, e.funs, e.frf, e.hok, e.bare⟩
theorem Env0.in1 {P : Program} {w : World} {K : W.Frag} {mg : Str → Option Value} {base : Heap} {A : Around} {outer : List Env} {s : Shared} {H : Hp} (e : Env0 P w K mg base A outer s H) :
   Env0 P w K mg base A.in1 outer s H := ⟨e.frames, e.mod, e.bs, e.bsz, e.funs, e.frf, e.hok, e.bare⟩
section
variable {X : Cx} {pins : List (Addr × Obj)} {σ : St} {H : Hp} {s s' : Shared}
theorem Inv.env0 (I : Inv X pins σ H s) : Env0 X.prog X.w X.K X.mg X.base X.A X.stack s H :=
 ⟨I.ok.frames, I.ok.mod, I.bs, Nat.le_trans I.ok.bsz I.sz, I.stack, I.stkFree, I.hok, I.bare⟩
theorem Inv.after {Q : VK} {u : Value} (I : Inv X pins σ H s) (h : CE X.stack X.prog X.w H s Q u s') : EP X pins σ Q u s' := by
 obtain ⟨v, H', os, bare, un, hok, r, q⟩ := h
 obtain ⟨hh, g, d, t, os'⟩ := s'
 obtain rfl : os' = s.os := os
 exact ⟨v, H', I.call (h' := hh) (g' := g) (d' := d) (t' := t) (ch := []) un hok bare (fun b z => absurd z (by simp)), r, q⟩
end
def tCall (sp : Sp) (dvs : List V) (E : XK) (t : TA) : TE := fun σ H Q => t σ H fun vs H1 => sp (vs ++ dvs) H1 Q E
def tMeth (C : Addr) (m : Str) (sp : Sp) (dvs : List V) (E : XK) (ta : TE) (t : TA) : TE := fun σ H Q => ta σ H fun x H1 => ∃ a dx fs, x = .ref a ∧ H1 a = some (.ins C dx fs) ∧ fs.lookup m = none ∧
 t σ H1 fun vs H2 => sp (x :: (vs ++ dvs)) H2 Q E
def tMake (C : Addr) (sp : Sp) (dvs : List V) (E : XK) (t : TA) : TE := fun σ H Q => t σ H fun vs H1 => ∀ x dx, H1 x = none → H1 dx = none → dx ≠ x →
 sp (.ref x :: (vs ++ dvs)) (upd (upd H1 dx (.own x)) x (.ins C dx [])) (fun v H2 => v = .non ∧ Q (.ref x) H2) E
def Binds (K : W.Frag) (fd : FuncData) (ps : List Str) (ds : List Value) : Prop :=
 ∀ (s : Shared) (us : List Value), K.In s.heap → (us ++ ds).length = ps.length → BindsTo s fd ⟨us, []⟩ (ps.zip (us ++ ds))
theorem Binds.all {K : W.Frag} {fd : FuncData} {ps : List Str} (h : ∀ us : List Value, us.length = ps.length → bindArgs fd ⟨us, []⟩ = pure (ps.zip us)) : Binds K fd ps [] := fun s us _ hl => by
 rw [List.append_nil] at hl ⊢
 exact .of_eq (h us hl)
def UJ (CX : CXT) (X : Cx) (E : XK) : Prop := ∀ (pins : List (Addr × Obj)) (σ : St) (H : Hp) (s : Shared) (e : Value) (s' : Shared), Inv X pins σ H s → CX X.stack H s E e s' → X.xe e s'
section
variable {X : Cx} {CX : CXT} {k : Nat} {f C : Addr} {fd : FuncData} {ps : List Str} {sp : Sp} {dvs : List V} {ds : List Value} {E : XK} {x m : Str} {p pos apos : Pos} {e o : Expr} {es : List Expr} {ta : TE} {t : TA}
theorem run_fn {pins : List (Addr × Obj)} {σ : St} {H : Hp} {s : Shared} {Q : VK} {us : List Value} {vs : List V} (F : FnOk X.prog X.w X.K X.mg X.base CX k f fd ps sp) (hr : Room k X.A) (hb : Binds X.K fd ps ds) (hd : Vals dvs ds) (hx : UJ CX X E)
   (I : Inv X pins σ H s) (r : Vals vs us) (h : sp (vs ++ dvs) H Q E) : wpAny (model X.prog X.w) X.A (call (.ref f) us) (EP X pins σ Q) X.xe s := by
 have r2 : Vals (vs ++ dvs) (us ++ ds) := r.append hd
 have hl : (us ++ ds).length = ps.length := by rw [← r2.length]; exact F.len _ _ _ _ h
 refine wpAny_call (codeAny_mono (F.run X.A X.stack s H ⟨us, []⟩ (us ++ ds) (vs ++ dvs) Q E hr I.env0 (hb s us I.kIn hl) r2 h) fun r s' hq => ?_)
 cases r with
 | error e => exact hx pins σ H s e s' I hq
 | ok fl =>
   cases fl with
   | ret u => exact I.after hq
   | next => exact False.elim hq
   | brk => exact False.elim hq
   | cont => exact False.elim hq
theorem pe_call (F : FnOk X.prog X.w X.K X.mg X.base CX k f fd ps sp) (hr : Room k X.A) (hg : Gl X x) (hm : X.mg x = some (.ref f)) (hk : W.keepIn X.K (.ref f) = true) (hb : Binds X.K fd ps ds) (hd : Vals dvs ds) (hx : UJ CX X E)
   (ha : PA X (e :: es) t) (hdb : (x == ("__debug__" : Str)) = false := by decide) (he : starEach (e :: es) X.env = (false, eval e X.env) :: starEach es X.env := by rfl) (hpl : (backTo pos (starEach es X.env)).any (·.1) = false := by rfl) :
   PE X (.Call (.Name x p) (e :: es) [] pos) (tCall sp dvs E t) := by
 intro pins s σ H Q I h
 refine wpAny_Call_Name_kw (qJY I hg hm ?_ hdb)
 refine W.callWith_K (h₀ := X.base) I.ok.mod.kin hk (thn (ha pos pins s σ H _ I h) fun us s1 ⟨vs, H1, I1, r, q⟩ => ⟨I1.kIn, ?_⟩) he hpl
 exact run_fn F hr hb hd hx I1 r q
theorem pe_call0 (F : FnOk X.prog X.w X.K X.mg X.base CX k f fd ps sp) (hr : Room k X.A) (hg : Gl X x) (hm : X.mg x = some (.ref f)) (hk : W.keepIn X.K (.ref f) = true) (hb : Binds X.K fd ps ds) (hd : Vals dvs ds) (hx : UJ CX X E)
   (hdb : (x == ("__debug__" : Str)) = false := by decide) : PE X (.Call (.Name x p) [] [] pos) (tCall sp dvs E tNil) := by
 intro pins s σ H Q I h
 refine wpAny_Call_Name_kw (qJY I hg hm ?_ hdb)
 exact W.callWith_K0 I.kIn hk (run_fn (us := []) F hr hb hd hx I .nil h)
theorem pe_meth {pl : Sem Bool} (he : PE X o ta) (c : Cls X.K C) (hm : Meth X.K C m f) (F : FnOk X.prog X.w X.K X.mg X.base CX k f fd ps sp) (hr : Room k X.A) (hb : Binds X.K fd ps ds) (hd : Vals dvs ds) (hx : UJ CX X E) (ha : PA X (e :: es) t)
   (hst : starEach (e :: es) X.env = (false, eval e X.env) :: starEach es X.env := by rfl) (hpl : (backTo pos (starEach es X.env)).any (·.1) = false := by rfl)
   (ht : eval (.Call (.Attribute o m apos) (e :: es) [] pos) X.env = (do
     let ov ← eval o X.env
     standAt apos.atName
     let (f, first) ← holding [ov] (getMethod ov m pl)
     callWith pos f first (backTo pos (starEach (e :: es) X.env)) (backToKw pos (keywordEach [] X.env))) := by rfl) :
   PE X (.Call (.Attribute o m apos) (e :: es) [] pos) (tMeth C m sp dvs E ta t) := by
 intro pins s σ H Q I h
 refine W.methodCall_KW (pl := pl) (thn (he pins s σ H _ I h) fun u s1 ⟨x, H1, I1, rx, a, dx, fs, ex, ea, l, q⟩ => ?_) ht
 subst ex
 obtain rfl : u = Value.ref a := rx
 refine getmeth_ok I1 ea c hm l ?_
 refine W.callWith_K (first := [.ref a]) (h₀ := X.base) I.ok.mod.kin hm.kp (thn (ha pos pins s1 σ H1 _ I1 q) fun us s2 ⟨vs, H2, I2, r, q2⟩ => ⟨I2.kIn, ?_⟩) hst hpl
 exact run_fn (us := .ref a :: us) (vs := .ref a :: vs) F hr hb hd hx I2 (.cons rfl r) q2
theorem pe_meth0 {pl : Sem Bool} (he : PE X o ta) (c : Cls X.K C) (hm : Meth X.K C m f) (F : FnOk X.prog X.w X.K X.mg X.base CX k f fd ps sp) (hr : Room k X.A) (hb : Binds X.K fd ps ds) (hd : Vals dvs ds) (hx : UJ CX X E)
   (ht : eval (.Call (.Attribute o m apos) [] [] pos) X.env = (do
     let ov ← eval o X.env
     standAt apos.atName
     let (f, first) ← holding [ov] (getMethod ov m pl)
     callWith pos f first (backTo pos (starEach [] X.env)) (backToKw pos (keywordEach [] X.env))) := by rfl) :
   PE X (.Call (.Attribute o m apos) [] [] pos) (tMeth C m sp dvs E ta tNil) := by
 intro pins s σ H Q I h
 refine W.methodCall_KW (pl := pl) (thn (he pins s σ H _ I h) fun u s1 ⟨x, H1, I1, rx, a, dx, fs, ex, ea, l, q⟩ => ?_) ht
 subst ex
 obtain rfl : u = Value.ref a := rx
 refine getmeth_ok I1 ea c hm l ?_
 exact W.callWith_K0 (first := [.ref a]) I1.kIn hm.kp (run_fn (us := [.ref a]) (vs := [.ref a]) F hr hb hd hx I1 (.cons rfl .nil) q)
structure Mk (K : W.Frag) (C f : Addr) : Prop where
 makes : W.makesIn K C = true
 init : W.findIn K (.ref C) "__init__" = some (some (.ref f))
 fn : W.isFn K (.ref f) = true
 kp : W.keepIn K (.ref C) = true
theorem run_make {pins : List (Addr × Obj)} {σ : St} {H : Hp} {s : Shared} {Q : VK} {us : List Value} {vs : List V} (M : Mk X.K C f) (F : FnOk X.prog X.w X.K X.mg X.base CX k f fd ps sp) (hr : Room (k + 1) X.A) (hb : Binds X.K fd ps ds) (hd : Vals dvs ds)
   (hx : UJ CX X E) (I : Inv X pins σ H s) (r : Vals vs us)
   (h : ∀ x dx, H x = none → H dx = none → dx ≠ x → sp (.ref x :: (vs ++ dvs)) (upd (upd H dx (.own x)) x (.ins C dx [])) (fun v H2 => v = .non ∧ Q (.ref x) H2) E) :
   wpAny (model X.prog X.w) X.A (call (.ref C) us) (EP X pins σ Q) X.xe s := by
 have hq := h (s.heap.objs.size + 1) s.heap.objs.size (I.hok.fresh (Nat.le_succ _)) (I.hok.fresh (Nat.le_refl _)) (Nat.ne_of_lt (Nat.lt_succ_self _))
 have I2 := Inv.made (C := C) I
 have r2 : Vals (V.ref (s.heap.objs.size + 1) :: (vs ++ dvs)) (Value.ref (s.heap.objs.size + 1) :: (us ++ ds)) := .cons rfl (r.append hd)
 have hl : (Value.ref (s.heap.objs.size + 1) :: us ++ ds).length = ps.length := by
   have e := r2.length
   rw [F.len _ _ _ _ hq] at e
   exact e.symm
 refine wpAny_call (make_map (f := f) I.kIn M.makes M.init (beq_iff_eq.mp M.fn) (codeAny_mono (F.run _ X.stack _ _ ⟨Value.ref (s.heap.objs.size + 1) :: us, []⟩ (Value.ref (s.heap.objs.size + 1) :: (us ++ ds)) _ _ E (hr.make C us [])
   (I2.env0.make C us []) (hb _ (Value.ref (s.heap.objs.size + 1) :: us) I2.kIn hl) r2 hq) fun r s' hq' => ?_))
 cases r with
 | error e => exact hx pins σ _ _ e s' I2 hq'
 | ok fl =>
   cases fl with
   | ret u =>
     obtain ⟨v, H', I3, rv, ev, q3⟩ := I2.after hq'
     subst ev
     exact ⟨rv, ⟨V.ref (s.heap.objs.size + 1), H', I3, rfl, q3⟩⟩
   | next => exact False.elim hq'
   | brk => exact False.elim hq'
   | cont => exact False.elim hq'
theorem pe_make (M : Mk X.K C f) (F : FnOk X.prog X.w X.K X.mg X.base CX k f fd ps sp) (hr : Room (k + 1) X.A) (hg : Gl X x) (hm : X.mg x = some (.ref C)) (hb : Binds X.K fd ps ds) (hd : Vals dvs ds) (hx : UJ CX X E)
   (ha : PA X (e :: es) t) (hdb : (x == ("__debug__" : Str)) = false := by decide) (he : starEach (e :: es) X.env = (false, eval e X.env) :: starEach es X.env := by rfl) (hpl : (backTo pos (starEach es X.env)).any (·.1) = false := by rfl) :
   PE X (.Call (.Name x p) (e :: es) [] pos) (tMake C sp dvs E t) := by
 intro pins s σ H Q I h
 refine wpAny_Call_Name_kw (qJY I hg hm ?_ hdb)
 refine W.callWith_K (h₀ := X.base) I.ok.mod.kin M.kp (thn (ha pos pins s σ H _ I h) fun us s1 ⟨vs, H1, I1, r, q⟩ => ⟨I1.kIn, ?_⟩) he hpl
 exact run_make M F hr hb hd hx I1 r q
theorem pe_make0 (M : Mk X.K C f) (F : FnOk X.prog X.w X.K X.mg X.base CX k f fd ps sp) (hr : Room (k + 1) X.A) (hg : Gl X x) (hm : X.mg x = some (.ref C)) (hb : Binds X.K fd ps ds) (hd : Vals dvs ds) (hx : UJ CX X E)
   (hdb : (x == ("__debug__" : Str)) = false := by decide) : PE X (.Call (.Name x p) [] [] pos) (tMake C sp dvs E tNil) := by
 intro pins s σ H Q I h
 refine wpAny_Call_Name_kw (qJY I hg hm ?_ hdb)
 exact W.callWith_K0 I.kIn M.kp (run_make (us := []) M F hr hb hd hx I .nil h)
end
def PK (X : Cx) (kws : List Keyword) (t : TA) : Prop :=
 ∀ (pos : Pos) (pins : List (Addr × Obj)) (s : Shared) (σ : St) (H : Hp) (Q : List V → Hp → Prop), Inv X pins σ H s → t σ H Q → wpAny (model X.prog X.w) X.A (evalAll ((backToKw pos (keywordEach kws X.env)).map (·.2))) (AP X pins σ Q) X.xe s
section
variable {X : Cx} {CX : CXT} {k : Nat} {f C : Addr} {fd : FuncData} {ps ks : List Str} {sp : Sp} {E : XK} {x m : Str} {p pos apos kpos : Pos} {e o : Expr} {es : List Expr} {kws : List Keyword} {te ta : TE} {t tk : TA} {nm : Option Str}
theorem pk_nil : PK X [] tNil := fun _ _ _ _ H Q I h => wpAny_evalAll_nil ⟨[], H, I, .nil, h⟩
theorem pk_cons (ha : PE X e te) (hr : PK X kws t) : PK X (⟨nm, e, kpos⟩ :: kws) (tCons te t) := by
 intro pos pins s σ H Q I h
 show wpAny _ _ (evalAll ((do let v ← eval e X.env; standAt pos; pure v) :: (backToKw pos (keywordEach kws X.env)).map (·.2))) _ _ s
 refine wpAny_evalAll_cons (wpAny_bind (thn (ha pins s σ H _ I h) fun u s1 ⟨x, H1, I1, r1, q1⟩ => wpAny_bind (wpAny_standAt (wpAny_pure ?_))))
 exact thn (hr pos pins s1 σ H1 _ I1 q1) fun us s2 ⟨xs, H2, I2, r2, q2⟩ => ⟨x :: xs, H2, I2, .cons r1 r2, q2⟩
variable {g : List Value → List Value → List Value} {gV : List V → List V → List V}
end
structure FnScope (N P : List Str) (sc : Scope) : Prop where
 kind : sc.kind = .function
 co : sc.isCoroutine = false
 gen : sc.isGenerator = false
 nd : N.Nodup
 pre : N.take P.length = P
 par : ∀ x ∈ P, sc.names.lookup x = some .local ∨ sc.names.lookup x = some .cell
 nofree : ∀ y ∈ sc.names, y.2 ≠ .free
theorem bindL_out {kindOf : Str → Option NameKind} {x : Str} : ∀ {binds : List (Str × Value)} {m : Str → Option Value}, (∀ v, (x, v) ∉ binds) → bindL kindOf binds m x = m x
 | [], _, _ => rfl
 | (n, v) :: r, m, h => by
   unfold bindL
   rw [bindL_out fun w hw => h w (List.mem_cons_of_mem _ hw)]
   split
   · have : x ≠ n := by rintro rfl; exact h v List.mem_cons_self
     simp [this]
   · rfl
theorem bindC_out {kindOf : Str → Option NameKind} {x : Str} : ∀ {binds : List (Str × Value)} {m : Str → Option Value}, (∀ v, (x, v) ∉ binds) → bindC kindOf binds m x = m x
 | [], _, _ => rfl
 | (n, v) :: r, m, h => by
   unfold bindC
   rw [bindC_out fun w hw => h w (List.mem_cons_of_mem _ hw)]
   split
   · rfl
   · have : x ≠ n := by rintro rfl; exact h v List.mem_cons_self
     simp [this]
theorem bindL_get {kindOf : Str → Option NameKind} {x : Str} {v : Value} : ∀ {P : List Str} {vs : List Value} {i : Nat} {m : Str → Option Value}, P.Nodup → P[i]? = some x → vs[i]? = some v → kindOf x = some .local →
   bindL kindOf (P.zip vs) m x = some v
 | [], _, _, _, _, h, _, _ => by simp at h
 | _ :: _, [], _, _, _, _, h, _ => by simp at h
 | p :: P, w :: vs, 0, m, nd, h1, h2, hk => by
   simp at h1 h2; subst h1; subst h2
   show bindL kindOf ((p, w) :: P.zip vs) m p = _
   unfold bindL
   rw [bindL_out fun v hv => (List.nodup_cons.mp nd).1 (List.of_mem_zip hv).1, if_pos hk]
   simp
 | p :: P, w :: vs, i + 1, m, nd, h1, h2, hk => by
   show bindL kindOf ((p, w) :: P.zip vs) m x = _
   unfold bindL
   exact bindL_get (i := i) (List.nodup_cons.mp nd).2 (by simpa using h1) (by simpa using h2) hk
theorem bindC_get {kindOf : Str → Option NameKind} {x : Str} {v : Value} : ∀ {P : List Str} {vs : List Value} {i : Nat} {m : Str → Option Value}, P.Nodup → P[i]? = some x → vs[i]? = some v → kindOf x ≠ some .local →
   bindC kindOf (P.zip vs) m x = some v
 | [], _, _, _, _, h, _, _ => by simp at h
 | _ :: _, [], _, _, _, _, h, _ => by simp at h
 | p :: P, w :: vs, 0, m, nd, h1, h2, hk => by
   simp at h1 h2; subst h1; subst h2
   show bindC kindOf ((p, w) :: P.zip vs) m p = _
   unfold bindC
   rw [bindC_out fun v hv => (List.nodup_cons.mp nd).1 (List.of_mem_zip hv).1, if_neg hk]
   simp
 | p :: P, w :: vs, i + 1, m, nd, h1, h2, hk => by
   show bindC kindOf ((p, w) :: P.zip vs) m x = _
   unfold bindC
   exact bindC_get (i := i) (List.nodup_cons.mp nd).2 (by simpa using h1) (by simpa using h2) hk
def start (N : List Str) (vs : List V) : St := vs.map some ++ List.replicate (N.length - vs.length) none
def cxOf (CX : CXT) (P : Program) (w : World) (K : W.Frag) (mg : Str → Option Value) (base : Heap) (N : List Str) (qual : Str) (scope : Scope) (f : Addr) (cd : Value) (A : Around) (outer : List Env) (s : Shared) (H : Hp) (E : XK) : Cx where
 prog := P
 w := w
 K := K
 mg := mg
 base := base
 A := A.deeper (envOfC qual scope s.heap.objs.size f cd)
 N := N
 s₀ := s
 H₀ := H
 env := envOfC qual scope s.heap.objs.size f cd
 outer := outer
 stack := envOfC qual scope s.heap.objs.size f cd :: outer
 ex := []
 calm := true
 fn := fun _ => true
 pn := []
 xe := fun e s' => wpAny (model P w) (A.deeper (envOfC qual scope s.heap.objs.size f cd)) (leaving (envOfC qual scope s.heap.objs.size f cd) e) (fun _ s'' => CX outer H s E e s'') (fun e' s'' => CX outer H s E e' s'') s'
theorem cell_has {sc : Scope} {n : Nat} {x : Str} (h : sc.names.lookup x = some .cell) : ∃ c, (cellsFrom n sc.names []).lookup x = some c := by
 have q := W.cellsFrom_some sc.names n [] (.inl h)
 exact Option.isSome_iff_exists.mp q
theorem inv_start {CX : CXT} {P : Program} {w : World} {K : W.Frag} {mg : Str → Option Value} {base : Heap} {N ps : List Str} {qual : Str} {scope : Scope} {f : Addr} {cd : Value} {A : Around} {outer : List Env} {s s1 : Shared} {H : Hp} {E : XK} {us : List Value} {vs : List V}
   (S : FnScope N ps scope) (hd : A.handled = none) (e0 : Env0 P w K mg base A outer s H) (hl : vs.length = ps.length) (r : Vals vs us)
   (x : InCallC s s.heap.objs.size (bindL (envOfC qual scope s.heap.objs.size f cd).kindOf (ps.zip us) fun _ => none) (cellsFrom (s.heap.objs.size + 1) scope.names []) (bindC (envOfC qual scope s.heap.objs.size f cd).kindOf (ps.zip us) fun _ => none) s1) :
   Inv (cxOf CX P w K mg base N qual scope f cd A outer s H E) [] (start N vs) H s1 := by
 have hpl : ps.length ≤ N.length := by have := congrArg List.length S.pre; rw [List.length_take] at this; omega
 obtain ⟨h1, tk, rfl, hk⟩ := x.done
 have noA : ∀ b : Addr, b ∉ (cxOf CX P w K mg base N qual scope f cd A outer s H E).ex := fun b z => absurd (show b ∈ ([] : List Addr) from z) (by simp)
 refine ⟨⟨e0.mod, S.kind, rfl, rfl, Nat.le_refl _, fun y z c h1 h2 => ?_, fun y hy => ?_, fun y c _ h => ?_, fun _ => hd, Around.frames_deeper e0.frames, .inr ⟨rfl, rfl⟩, fun b z => absurd z (noA b), e0.bs, e0.bsz, fun b _ _ => noA b, fun b z => absurd z (noA b), e0.funs, e0.frf⟩,
   rfl, e0.bare, Un.kept hk, ⟨_, x.toInCall.ns, fun i y v h1 h2 h3 => ?_⟩, fun y c h => ⟨_, x.cell y c h⟩, e0.hok.fresh (Nat.le_refl _), fun y c h => ?_, fun p hp => absurd (show p ∈ ([] : List (Addr × Obj)) from hp) (by simp), e0.hok.kept hk, ?_⟩
 · exact name_of_addr x.apart (PySem.mem_of_lookup h1) (PySem.mem_of_lookup h2)
 · have hy : scope.names.lookup y = some .cell ∨ scope.names.lookup y = some .free := hy
   rcases hy with hy | hy
   · exact cell_has hy
   · exact absurd rfl (S.nofree _ (PySem.mem_of_lookup hy))
 · exact Nat.le_of_lt (x.above y c (PySem.mem_of_lookup h))
 · have hi : i < vs.length := by
     unfold start at h2
     by_cases hi : i < vs.length
     · exact hi
     · rw [List.getElem?_append_right (by simpa using hi)] at h2
       rw [List.getElem?_replicate] at h2
       split at h2 <;> cases h2
   have ha : vs[i]? = some v := by
     unfold start at h2
     rw [List.getElem?_append_left (by simpa using hi), List.getElem?_map] at h2
     cases e : vs[i]? with
     | none => rw [e] at h2; cases h2
     | some a => rw [e] at h2; cases h2; rfl
   obtain ⟨u, hu, rv⟩ := r.get ha
   have hp : ps[i]? = some y := by
     rw [← S.pre, List.getElem?_take_of_lt (by omega)]; exact h1
   have ndP : ps.Nodup := by rw [← S.pre]; exact S.nd.sublist (List.take_sublist _ _)
   refine ⟨u, rv, ?_⟩
   rcases S.par y (List.mem_of_getElem? hp) with k | k
   · exact .inl ⟨k, bindL_get ndP hp hu k⟩
   · obtain ⟨c, e⟩ := cell_has (n := s.heap.objs.size + 1) k
     refine .inr ⟨.inl k, c, e, ?_⟩
     have q := x.cell y c e
     rw [bindC_get ndP hp hu (by show scope.names.lookup y ≠ _; rw [k]; decide)] at q
     exact q
 · exact e0.hok.fresh (Nat.le_of_lt (x.above y c (PySem.mem_of_lookup h)))
 · unfold start
   show _ = N.length
   rw [List.length_append, List.length_map, List.length_replicate]
   omega
theorem fn_of {CX : CXT} {P : Program} {w : World} {K : W.Frag} {mg : Str → Option Value} {base : Heap} {k : Nat} {f : Addr} {name qual : Str} {params : Arguments} {body : List Stmt} {scope : Scope} {dV kV doc pm cdv ct oc : Value} {an od : Option Addr}
   {osl : Array (Option Value)} {N ps : List Str} {sp : Sp} (lk : K.lookup f = some ⟨oc, od, .func (W.fnOf name qual params body scope dV kV doc pm an cdv ct), osl⟩) (hcd : W.codeIn K cdv qual = true) (S : FnScope N ps scope)
   (len : ∀ vs H Q E, sp vs H Q E → vs.length = ps.length)
   (hbody : ∀ (A : Around) (outer : List Env) (s : Shared) (H : Hp) (vs : List V) (Q : VK) (E : XK), Room k (A.deeper (envOfC qual scope s.heap.objs.size f cdv)) → sp vs H Q E →
     ∃ t, PSs (cxOf CX P w K mg base N qual scope f cdv A outer s H E) body t ∧ t { nx := fun _ H' => Q .non H', rt := Q } (start N vs) H) :
   FnOk P w K mg base CX (k + 1) f (W.fnOf name qual params body scope dV kV doc pm an cdv ct) ps sp := by
 refine ⟨len, fun A outer s H args us vs Q E hr e0 hb r hsp => ?_⟩
 have hl := len _ _ _ _ hsp
 have KX : K.In s.heap := e0.mod.kin.keeps fun b o e => (e0.bs b o e).1
 have lim : s.heap.NoLimit := e0.mod.nolimit.keeps fun b o e => (e0.bs b o e).1
 have hkind : ∀ y ∈ ps.zip us, scope.names.lookup y.1 = some .local ∨ (scope.names.lookup y.1 = some .cell ∧ ((cellsFrom (s.heap.objs.size + 1) scope.names []).lookup y.1).isSome = true) := fun ⟨n, v⟩ hy => by
   rcases S.par n (List.of_mem_zip hy).1 with q | q
   · exact .inl q
   · exact .inr ⟨q, W.cellsFrom_some _ _ _ (.inl q)⟩
 refine codeAny_call_function hr.depth (KX _ _ lk) rfl S.co S.gen rfl (W.codeRec_of KX hcd) (hb _ _ _ _ ?_)
 refine wpAny_newFunctionEnv_cells S.kind hkind fun env he s1 x => ?_
 subst he
 refine ⟨lim.keeps x.toInCall.keep, codeAny_func ?_⟩
 obtain ⟨t, ht, hq⟩ := hbody A outer s H vs Q E (hr.deeper _) hsp
 have I : Inv (cxOf CX P w K mg base N qual scope f cdv A outer s H E) [] (start N vs) H s1 := inv_start S hr.hd e0 hl r x
 refine wpAny_mono (ht [] s1 (start N vs) H _ I hq) (fun fl s' hs => ?_) fun e s' hs => hs
 have fin : ∀ {σ' : St} {H' : Hp} {v : V} {u : Value}, Inv (cxOf CX P w K mg base N qual scope f cdv A outer s H E) [] σ' H' s' → RelV v u → Q v H' → CE outer P w H s Q u s' :=
   fun {σ' H' v u} J rv q => ⟨v, H', J.os, J.bare, J.base, J.hok, rv, q⟩
 cases fl with
 | ret u =>
   obtain ⟨v, σ', H', J, rv, q⟩ := hs
   exact fin J rv q
 | next =>
   obtain ⟨σ', H', J, q⟩ := hs
   exact fin (v := V.non) (u := Value.none) J rfl q
 | brk =>
   obtain ⟨_, _, _, q⟩ := hs
   exact False.elim q
 | cont =>
   obtain ⟨_, _, _, q⟩ := hs
   exact False.elim q
end L2
namespace L2
open PySem PySem.Spec PyProof.Rows
section
variable {X : Cx} {x : Str} {p pos : Pos} {e : Expr} {es : List Expr} {t : TA} {id T : String} {r : List V → Hp → VK → Prop}
def tCB (r : List V → Hp → VK → Prop) (t : TA) : TE := fun σ H Q => t σ H fun vs H1 => r vs H1 Q
theorem pe_callB (hc : Jv X (.builtin id) r) (hg : Gl X x) (hm : X.mg x = none) (hv : bootBuiltins x = some (.builtin id)) (ha : PA X (e :: es) t) (hn : x ≠ "__name__" := by decide) (hdb : (x == ("__debug__" : Str)) = false := by decide)
   (he : starEach (e :: es) X.env = (false, eval e X.env) :: starEach es X.env := by rfl) (hpl : (backTo pos (starEach es X.env)).any (·.1) = false := by rfl) : PE X (.Call (.Name x p) (e :: es) [] pos) (tCB r t) := by
 intro pins s σ H Q I h
 refine wpAny_Call_Name_kw (ld_blt I hg hm hv ?_ hn hdb)
 exact PyProof.Rows.callWith_builtin1 (thn (ha pos pins s σ H _ I h) fun us s1 ⟨vs, H1, I1, r1, q1⟩ => hc pins s1 σ H1 vs us Q I1 r1 q1) he hpl
theorem pe_callTy (hc : Jv X (.type T) r) (hg : Gl X x) (hm : X.mg x = none) (hv : bootBuiltins x = some (.type T)) (ha : PA X (e :: es) t) (hn : x ≠ "__name__" := by decide) (hdb : (x == ("__debug__" : Str)) = false := by decide)
   (he : starEach (e :: es) X.env = (false, eval e X.env) :: starEach es X.env := by rfl) (hpl : (backTo pos (starEach es X.env)).any (·.1) = false := by rfl) : PE X (.Call (.Name x p) (e :: es) [] pos) (tCB r t) := by
 intro pins s σ H Q I h
 refine wpAny_Call_Name_kw (ld_blt I hg hm hv ?_ hn hdb)
 exact PyProof.Rows.callWith_type1 (thn (ha pos pins s σ H _ I h) fun us s1 ⟨vs, H1, I1, r1, q1⟩ => hc pins s1 σ H1 vs us Q I1 r1 q1) he hpl
end
end L2
namespace HT
open PySem PyProof.Rows
section
variable {prog : Program} {w : World} {A : Around} {E : Value → Shared → Prop} {s : Shared}
def sIx (n d : Nat) : Option Int → Nat
 | none => d
 | some v => if v < 0 then (v + (n : Int)).toNat else min v.toNat n
theorem sIx_none (n d : Nat) : sIx n d none = d := rfl
theorem sIx_nat (n d k : Nat) : sIx n d (some (k : Int)) = min k n := by
 show (if (k : Int) < 0 then ((k : Int) + (n : Int)).toNat else min (k : Int).toNat n) = min k n
 rw [if_neg (by omega), Int.toNat_natCast]
end
end HT
namespace L2
open PySem PySem.Spec PyProof.Rows
abbrev TO := St → Hp → (Option Int → Hp → Prop) → Prop
def PO (X : Cx) (e : Option Expr) (t : TO) : Prop :=
 ∀ (pins : List (Addr × Obj)) (s : Shared) (σ : St) (H : Hp) (Q : Option Int → Hp → Prop), Inv X pins σ H s → t σ H Q →
   wpAny (model X.prog X.w) X.A (evalPart e X.env) (fun u s' => ∃ o H', Inv X pins σ H' s' ∧ IsPart u o ∧ Q o H') X.xe s
def tNoPart : TO := fun _ H Q => Q none H
def tPart (t : TE) : TO := fun σ H Q => t σ H fun x H1 => ∃ i, x = .int i ∧ Q (some i) H1
theorem intsAre_of {ns : List Int} : ∀ {us : List Value}, Vals (ns.map V.int) us → IntsAre us ns := by
 induction ns with
 | nil => intro us r; rw [List.map_nil] at r; cases r; exact .nil
 | cons n ns ih =>
   intro us r
   rw [List.map_cons] at r
   cases r with
   | cons r1 r2 =>
     obtain ⟨t, e⟩ := r1
     subst e
     exact .cons n t (ih r2)
section
variable {X : Cx} {e : Expr} {te : TE} {lo hi : Option Expr} {tl th : TO} {pos p2 : Pos}
theorem qJQ : PO X none tNoPart := by
 intro pins s σ H Q I h
 rw [evalPart_none]
 exact wpAny_pure ⟨none, H, I, .none, h⟩
theorem qZJ (h : PE X e te) : PO X (some e) (tPart te) := by
 intro pins s σ H Q I hw
 rw [evalPart_some]
 refine thn (h pins s σ H _ I hw) fun u s1 ⟨x, H1, I1, r1, q1⟩ => ?_
 obtain ⟨i, rfl, q⟩ := q1
 obtain ⟨t, rfl⟩ := r1
 exact ⟨some i, H1, I1, .int i t, q⟩
def SlR (X : Cx) (r : V → Option Int → Option Int → Hp → VK → Prop) : Prop :=
 ∀ (pins : List (Addr × Obj)) (s : Shared) (σ : St) (H : Hp) (x : V) (v vl vu : Value) (lo hi : Option Int) (sl : Addr) (Q : VK), Inv X pins σ H s → RelV x v → s.heap.IsSliceOf sl vl vu .none → IsPart vl lo → IsPart vu hi → r x lo hi H Q →
   ∃ T id, typeLookup (.type T) "__getitem__" = pure (some (.builtin id)) ∧ s.TypeIs v T ∧ wpAny (model X.prog X.w) X.A (getItem v (.ref sl)) (EP X pins σ Q) X.xe s
def tSl (r : V → Option Int → Option Int → Hp → VK → Prop) (te : TE) (tl th : TO) : TE := fun σ H Q => te σ H fun x H1 => tl σ H1 fun l H2 => th σ H2 fun u H3 => r x l u H3 Q
theorem Jy {r : V → Option Int → Option Int → Hp → VK → Prop} (hr : SlR X r) (he : PE X e te) (hl : PO X lo tl) (hu : PO X hi th) : PE X (.Subscript e (.Slice lo hi none p2) pos) (tSl r te tl th) := by
 intro pins s σ H Q I h
 refine Subscript_ (thn (he pins s σ H _ I h) fun v s1 ⟨x, H1, I1, r1, q1⟩ => ?_)
 refine wpAny_Slice (thn (hl pins s1 σ H1 _ I1 q1) fun vl s2 ⟨l, H2, I2, pl, q2⟩ => thn (hu pins s2 σ H2 _ I2 q2) fun vu s3 ⟨u, H3, I3, pu, q3⟩ => ?_)
 rw [evalPart_none]
 refine wpAny_pure ?_
 have I4 : Inv X pins σ H3 { s3 with heap := s3.heap.push { cls := .type "slice", data := .fields #[vl, vu, .none] } } := I3.kept (t' := s3.toks) fun b ob q => Heap.get?_push_of_some _ q
 obtain ⟨T, id, hT, ht, hg⟩ := hr pins { s3 with heap := s3.heap.push { cls := .type "slice", data := .fields #[vl, vu, .none] } } σ H3 x v vl vu l u s3.heap.objs.size Q I4 r1 (Heap.IsSliceOf.new ..) pl pu q3
 show wpAny (model X.prog X.w) X.A (subscriptTail e (.Slice lo hi none p2) v (.ref s3.heap.objs.size)) (EP X pins σ Q) X.xe { s3 with heap := s3.heap.push { cls := .type "slice", data := .fields #[vl, vu, .none] } }
 exact tail_any (ops := [.ref s3.heap.objs.size, v]) ht hT hg (by with_unfolding_all rfl)
def cutV (xs : List V) (lo hi : Option Int) : List V := (xs.drop (HT.sIx xs.length 0 lo)).take (HT.sIx xs.length xs.length hi - HT.sIx xs.length 0 lo)
theorem cutV_length (xs : List V) (lo hi : Option Int) : (cutV xs lo hi).length ≤ xs.length := by
 unfold cutV
 rw [List.length_take, List.length_drop]
 omega
end
end L2
namespace L2
open PySem PySem.Spec PyProof.Rows
def ixN (n : Nat) (i : Int) : Option Nat := if 0 ≤ i then (if i < n then some i.toNat else none) else if -(n : Int) ≤ i then some (i + n).toNat else none
def atI {α : Type} (xs : List α) (i : Int) : Option α := (ixN xs.length i).bind fun j => xs[j]?
theorem ixN_seq {n : Nat} {i : Int} {j : Nat} (h : ixN n i = some j) : seqIndex? i n = some j ∧ j < n ∧ -(n : Int) ≤ i ∧ i < n := by
 unfold ixN at h
 by_cases h0 : 0 ≤ i
 · rw [if_pos h0] at h
   by_cases h1 : i < n
   · rw [if_pos h1] at h
     have e : i.toNat = j := Option.some.inj h
     exact ⟨by rw [seqIndex_of h0 h1, e], by omega, by omega, h1⟩
   · rw [if_neg h1] at h; cases h
 · rw [if_neg h0] at h
   by_cases h1 : -(n : Int) ≤ i
   · rw [if_pos h1] at h
     have e : (i + n).toNat = j := Option.some.inj h
     exact ⟨by rw [seqIndex_neg (by omega) h1, e], by omega, h1, by omega⟩
   · rw [if_neg h1] at h; cases h
theorem atI_get {α : Type} {xs : List α} {i : Int} {v : α} (h : atI xs i = some v) : ∃ j, seqIndex? i xs.length = some j ∧ xs[j]? = some v ∧ j < xs.length ∧ -(xs.length : Int) ≤ i ∧ i < xs.length := by
 unfold atI at h
 cases e : ixN xs.length i with
 | none => rw [e] at h; cases h
 | some j =>
   rw [e] at h
   obtain ⟨h1, h2, h3, h4⟩ := ixN_seq e
   exact ⟨j, h1, h, h2, h3, h4⟩
theorem atI_nat {α : Type} {xs : List α} {j : Nat} {v : α} (h : xs[j]? = some v) : atI xs (j : Int) = some v := by
 have hj : j < xs.length := (List.getElem?_eq_some_iff.mp h).1
 have e : ixN xs.length (j : Int) = some j := by
   unfold ixN
   rw [if_pos (by omega), if_pos (by omega)]; simp
 unfold atI; rw [e]; exact h
theorem atI_last {α : Type} (xs : List α) (v : α) : atI (xs ++ [v]) (-1) = some v := by
 have hl : (xs ++ [v]).length = xs.length + 1 := by simp
 have e : ixN (xs ++ [v]).length (-1) = some xs.length := by
   unfold ixN
   rw [hl, if_neg (by decide), if_pos (by omega)]
   congr 1
   omega
 unfold atI
 rw [e]
 show (xs ++ [v])[xs.length]? = some v
 simp
def PlainIx (b : Expr) : Prop := ∀ o i, subscripted b false o i = operate [o, i] (getItem o i)
def IxR (X : Cx) (r : R2) : Prop :=
 ∀ (value slice : Expr) (pins : List (Addr × Obj)) (s : Shared) (σ : St) (H : Hp) (x y : V) (v u : Value) (Q : VK), Inv X pins σ H s → RelV x v → RelV y u → r x y H Q →
   subscripted slice false v u = operate [v, u] (getItem v u) → wpAny (model X.prog X.w) X.A (subscriptTail value slice v u) (EP X pins σ Q) X.xe s
def MtR (X : Cx) (id : String) (r : V → List V → Hp → VK → Prop) : Prop :=
 ∀ (pins : List (Addr × Obj)) (s : Shared) (σ : St) (H : Hp) (x : V) (xs : List V) (v : Value) (us : List Value) (Q : VK), Inv X pins σ H s → RelV x v → Vals xs us → r x xs H Q →
   wpAny (model X.prog X.w) X.A (call (.builtin id) (v :: us)) (EP X pins σ Q) X.xe s
section
variable {X : Cx} {a b : Expr} {ta tb : TE} {pos : Pos}
theorem qZQ {r : R2} (hr : IxR X r) (ha : PE X a ta) (hb : PE X b tb) (hs : PlainIx b) : PE X (.Subscript a b pos) (tOp r ta tb) := by
 intro pins s σ H Q I h
 exact Subscript_ (binT ha hb I h fun v u s2 x y H2 I2 rx ry q => hr a b pins s2 σ H2 x y v u Q I2 rx ry q (hs _ _))
def rIxL (K : W.Frag) : R2 := fun x y H Q => ∃ p xs i v, x = .ref p ∧ y = .int i ∧ SqL K H p xs ∧ atI xs i = some v ∧ Q v H
def rIxT (K : W.Frag) : R2 := fun x y H Q => ∃ p xs i v, x = .ref p ∧ y = .int i ∧ SqT K H p xs ∧ atI xs i = some v ∧ Q v H
def rIxS : R2 := fun x y H Q => ∃ z i c, x = .str z ∧ y = .int i ∧ z.length ≤ sizeLine ∧ atI z.cps.toList i = some c ∧ Q (.str ⟨#[c]⟩) H
theorem ix_list : IxR X (rIxL X.K) := by
 intro value slice pins s σ H x y v u Q I rx ry h hs
 obtain ⟨p, xs, i, z, rfl, rfl, hq, he, q⟩ := h
 cases rx
 obtain ⟨t, rfl⟩ := ry
 obtain ⟨its, r, pl, hz⟩ := I.list hq
 obtain ⟨j, h1, h2, h3, h4, h5⟩ := atI_get he
 obtain ⟨w, ew, rw'⟩ := r.get h2
 have hl := r.length
 have hn := line63
 have fin : EP X pins σ Q w s := ⟨z, H, I, rw', q⟩
 by_cases h0 : 0 ≤ i
 · have hj : i.toNat = j := by
     rw [seqIndex_of h0 h5] at h1
     exact Option.some.inj h1
   exact item_listR pl.isList h0 (by omega) (by rw [hj]; simpa using ew) fin hs
 · have hj : (i + (its.toArray.size : Int)).toNat = j := by
     rw [seqIndex_neg (by omega) h4] at h1
     rw [List.size_toArray, ← hl]
     exact Option.some.inj h1
   exact subscriptTail_builtinR (x := w) pl.isList.typeIs slot_list_getitem.lookup
     (wpAny_getItem_list_neg (Q := fun r s' => r = w ∧ EP X pins σ Q r s') pl.isList (by omega) (by rw [List.size_toArray] <;> omega) (by omega) (by rw [hj]; simpa using ew) ⟨rfl, fin⟩) hs
theorem ix_tup : IxR X (rIxT X.K) := by
 intro value slice pins s σ H x y v u Q I rx ry h hs
 obtain ⟨p, xs, i, z, rfl, rfl, hq, he, q⟩ := h
 cases rx
 obtain ⟨t, rfl⟩ := ry
 obtain ⟨its, r, pl, hz⟩ := I.tuple hq
 obtain ⟨j, h1, h2, h3, h4, h5⟩ := atI_get he
 obtain ⟨w, ew, rw'⟩ := r.get h2
 have hl := r.length
 have hn := line63
 have fin : EP X pins σ Q w s := ⟨z, H, I, rw', q⟩
 exact subscriptTail_builtinR (x := w) pl.typeIs slot_tuple_getitem.lookup
   (getItem_tuple (j := j) (Q := fun r s' => r = w ∧ EP X pins σ Q r s') pl (by omega) (by omega) (by rw [List.size_toArray, ← hl]; exact h1) (by simpa using ew) ⟨rfl, fin⟩) hs
theorem ix_str : IxR X rIxS := by
 intro value slice pins s σ H x y v u Q I rx ry h hs
 obtain ⟨z, i, c, rfl, rfl, hz, he, q⟩ := h
 obtain ⟨t, rfl⟩ := rx
 obtain ⟨t', rfl⟩ := ry
 obtain ⟨j, h1, h2, h3, h4, h5⟩ := atI_get he
 have hl : z.cps.toList.length = z.length := by simp [Str.length]
 rw [hl] at h1 h4 h5
 have hn := line63
 exact tail_any (typeIs_str s z t) slot_str_getitem.lookup (getItem_str (c := c) (by
   have e1 : decide (i < -(2 ^ 63 : Int)) = false := decide_eq_false (by omega)
   have e2 : decide (i ≥ 2 ^ 63) = false := decide_eq_false (by omega)
   rw [e1, e2, Bool.or_false]) (by rw [h1]; simpa using h2) ⟨.str ⟨#[c]⟩, H, I.tok _, ⟨_, rfl⟩, q⟩) hs
theorem Inv.lst {pins : List (Addr × Obj)} {σ : St} {H : Hp} {s : Shared} {p : Addr} {xs : List V} (I : Inv X pins σ H s) (h : H p = some (.lst xs)) :
   ∃ (its : List Value) (n : Nat), Vals xs its ∧ s.heap.get? p = some { cls := .type "list", data := .seq its.toArray n } ∧ xs.length ≤ sizeLine := by
 obtain ⟨z, its, n, r, e⟩ := I.hok p _ h
 exact ⟨its, n, r, e, z⟩
theorem slice_bounds (lo hi : Option Int) (n : Nat) : (sliceBounds lo hi none n).1 = ((HT.sIx n 0 lo : Nat) : Int) ∧ (sliceBounds lo hi none n).2.1 = ((HT.sIx n n hi : Nat) : Int) ∧ (sliceBounds lo hi none n).2.2 = 1 := by
 refine ⟨?_, ?_, rfl⟩
 · cases lo with
   | none => simp [sliceBounds, HT.sIx]
   | some i =>
     simp only [sliceBounds, HT.sIx, Option.getD_none, show (1 : Int) > 0 by decide, if_true]
     by_cases h : i < 0
     · simp only [h, if_true] <;> omega
     · simp only [h, if_false] <;> omega
 · cases hi with
   | none => simp [sliceBounds, HT.sIx]
   | some i =>
     simp only [sliceBounds, HT.sIx, Option.getD_none, show (1 : Int) > 0 by decide, if_true]
     by_cases h : i < 0
     · simp only [h, if_true] <;> omega
     · simp only [h, if_false] <;> omega
theorem slicePick_cut (its : List Value) (lo hi : Option Int) : slicePick its.toArray lo hi none = ((its.drop (HT.sIx its.length 0 lo)).take (HT.sIx its.length its.length hi - HT.sIx its.length 0 lo)).toArray := by
 obtain ⟨h1, h2, h3⟩ := slice_bounds lo hi its.toArray.size
 unfold slicePick
 rw [h1, h2, h3]
 simp only [sliceRange_one, pick_run, List.size_toArray] <;> rfl
def rSlL (K : W.Frag) : V → Option Int → Option Int → Hp → VK → Prop := fun x lo hi H Q => ∃ a xs, x = .ref a ∧ SqL K H a xs ∧ ∀ p, H p = none → Q (.ref p) (upd H p (.lst (cutV xs lo hi)))
theorem sl_list : SlR X (rSlL X.K) := by
 intro pins s σ H x v vl vu lo hi sl Q I rx hs pl pu h
 obtain ⟨a, xs, rfl, hx, q⟩ := h
 cases rx
 obtain ⟨its, r, ht, hz⟩ := I.list hx
 have hlen := r.length
 refine ⟨"list", _, slot_list_getitem.lookup, ht.isList.typeIs, ?_⟩
 refine wpAny_getItem_list_slice ht.isList hs pl pu .none (by simp) ?_ (by rw [List.size_toArray] <;> omega)
 rw [slicePick_cut, ← hlen]
 refine ⟨.ref s.heap.objs.size, _, I.laid (t' := s.toks) (o := .lst (cutV xs lo hi)) (fun b ob q => Heap.get?_push_of_some _ q) (Nat.le_refl _) ?_, rfl, q _ (I.hok.fresh (Nat.le_refl _))⟩
 exact ⟨Nat.le_trans (cutV_length xs lo hi) hz, _, 0, (r.drop (HT.sIx xs.length 0 lo)).take (HT.sIx xs.length xs.length hi - HT.sIx xs.length 0 lo), Heap.get?_push_size _ rfl⟩
def zYJ : V → Bool
 | .non => true
 | .bl _ => true
 | .int _ => true
 | .str _ => true
 | _ => false
def eqV : V → V → Bool
 | .non, .non => true
 | .bl a, .bl b => a == b
 | .bl a, .int b => (if a then 1 else 0) == b
 | .int a, .bl b => a == (if b then 1 else 0)
 | .int a, .int b => a == b
 | .str a, .str b => a == b
 | _, _ => false
theorem eqAt_V {A : Around} {s : Shared} {y x : V} {u v : Value} (ry : RelV y u) (rx : RelV x v) (fy : zYJ y = true) (fx : zYJ x = true) : SeqAt.EqAt A s u v (eqV y x) := by
 cases y with
 | non =>
   cases ry
   cases x with
   | non => cases rx; exact SeqAt.EqAt.same _
   | bl b => cases rx; exact SeqAt.EqAt.none_bool b
   | int b => obtain ⟨t, rfl⟩ := rx; exact SeqAt.EqAt.none_int b t
   | str b => obtain ⟨t, rfl⟩ := rx; exact SeqAt.EqAt.none_str b t
   | _ => exact absurd (show false = true from fx) Bool.false_ne_true
 | bl a =>
   cases ry
   cases x with
   | non => cases rx; exact SeqAt.EqAt.bool_none a
   | bl b => cases rx; exact SeqAt.EqAt.bool_bool a b
   | int b => obtain ⟨t, rfl⟩ := rx; exact SeqAt.EqAt.bool_int a b t
   | str b => obtain ⟨t, rfl⟩ := rx; exact SeqAt.EqAt.bool_str a b t
   | _ => exact absurd (show false = true from fx) Bool.false_ne_true
 | int a =>
   obtain ⟨t', rfl⟩ := ry
   cases x with
   | non => cases rx; exact SeqAt.EqAt.int_none a t'
   | bl b => cases rx; exact SeqAt.EqAt.int_bool a t' b
   | int b => obtain ⟨t, rfl⟩ := rx; exact SeqAt.EqAt.int_int a t' b t
   | str b => obtain ⟨t, rfl⟩ := rx; exact SeqAt.EqAt.int_str a t' b t
   | _ => exact absurd (show false = true from fx) Bool.false_ne_true
 | str a =>
   obtain ⟨t', rfl⟩ := ry
   cases x with
   | non => cases rx; exact SeqAt.EqAt.str_none a t'
   | bl b => cases rx; exact SeqAt.EqAt.str_bool a t' b
   | int b => obtain ⟨t, rfl⟩ := rx; exact SeqAt.EqAt.str_int a t' b t
   | str b => obtain ⟨t, rfl⟩ := rx; exact SeqAt.EqAt.str_str a t' b t
   | _ => exact absurd (show false = true from fx) Bool.false_ne_true
 | _ => exact absurd (show false = true from fy) Bool.false_ne_true
def eqU (x : V) (u : Value) : Bool := match u with
 | .none => eqV .non x
 | .bool b => eqV (.bl b) x
 | .int i _ => eqV (.int i) x
 | .str z _ => eqV (.str z) x
 | _ => false
theorem eqU_of {x y : V} {u : Value} (r : RelV y u) (f : zYJ y = true) : eqU x u = eqV y x := by
 cases y with
 | non => cases r; rfl
 | bl b => cases r; rfl
 | int i => obtain ⟨t, rfl⟩ := r; rfl
 | str z => obtain ⟨t, rfl⟩ := r; rfl
 | _ => exact absurd (show false = true from f) Bool.false_ne_true
theorem any_eqU {x : V} : ∀ {xs : List V} {us : List Value}, Vals xs us → xs.all zYJ = true → us.any (eqU x) = xs.any fun y => eqV y x
 | _, _, .nil, _ => rfl
 | y :: xs, u :: us, .cons r t, f => by
   rw [List.all_cons, Bool.and_eq_true] at f
   rw [List.any_cons, List.any_cons, eqU_of r f.1, any_eqU t f.2]
theorem vYJ {A : Around} {s : Shared} {x : V} {v : Value} (rx : RelV x v) (fx : zYJ x = true) : ∀ {xs : List V} {us : List Value}, Vals xs us → xs.all zYJ = true → ∀ u ∈ us, SeqAt.EqAt A s u v (eqU x u)
 | _, _, .nil, _ => fun u hu => by cases hu
 | y :: xs, u :: us, .cons r t, f => fun u' hu => by
   rw [List.all_cons, Bool.and_eq_true] at f
   rcases List.mem_cons.mp hu with rfl | hu
   · rw [eqU_of r f.1]; exact eqAt_V r rx f.1 fx
   · exact vYJ rx fx t f.2 u' hu
def inV (x : V) (xs : List V) : Bool := xs.any fun y => eqV y x
def rIn (K : W.Frag) (neg : Bool) : R2 := fun x y H Q => ∃ p xs, y = .ref p ∧ (SqL K H p xs ∨ SqT K H p xs) ∧ zYJ x = true ∧ xs.all zYJ = true ∧ Q (.bl (if neg then !inV x xs else inV x xs)) H
theorem op_in_seq : OpR X (compareOp .In) (rIn X.K false) := by
 intro pins s σ H x y v u Q I rx ry h
 obtain ⟨p, xs, rfl, hq, fx, fs, q⟩ := h
 cases ry
 rcases hq with hq | hq
 · obtain ⟨its, r, pl, hz⟩ := I.list hq
   refine SeqAt.in_listAt (eqU x) pl.isList (fun w hw => vYJ rx fx r fs w (by simpa using hw)) ⟨.bl _, H, I, rfl, ?_⟩
   rw [show its.toArray.any (eqU x) = its.any (eqU x) by simp, any_eqU r fs]
   exact q
 · obtain ⟨its, r, pl, hz⟩ := I.tuple hq
   refine SeqAt.in_tupleAt (eqU x) pl (fun w hw => vYJ rx fx r fs w (by simpa using hw)) ⟨.bl _, H, I, rfl, ?_⟩
   rw [show its.toArray.any (eqU x) = its.any (eqU x) by simp, any_eqU r fs]
   exact q
theorem call_len_seq : Jv X (.builtin "len") (fun xs H Q => ∃ p ys, xs = [.ref p] ∧ (SqL X.K H p ys ∨ SqT X.K H p ys) ∧ Q (.int ys.length) H) := by
 intro pins s σ H xs us Q I r h
 obtain ⟨p, ys, rfl, hq, q⟩ := h
 obtain ⟨u, rfl, rx⟩ := vals1 r
 cases rx
 have hn := line63
 rcases hq with hq | hq
 · obtain ⟨its, r', pl, hz⟩ := I.list hq
   have hlen := r'.length
   exact Calls.call_len_list pl.isList (by simp only [List.size_toArray] <;> omega) ⟨.int ys.length, H, I.tok _, ⟨s.toks + 1, by rw [List.size_toArray, hlen]⟩, q⟩
 · obtain ⟨its, r', pl, hz⟩ := I.tuple hq
   have hlen := r'.length
   exact len_tuple pl (by simp only [List.size_toArray] <;> omega) ⟨.int ys.length, H, I.tok _, ⟨s.toks + 1, by rw [List.size_toArray, hlen]⟩, q⟩
theorem call_list_of : Jv X (.type "list") (fun xs H Q => ∃ p ys, xs = [.ref p] ∧ (SqL X.K H p ys ∨ SqT X.K H p ys) ∧ ∀ l, H l = none → Q (.ref l) (upd H l (.lst ys))) := by
 intro pins s σ H xs us Q I r h
 obtain ⟨p, ys, rfl, hq, q⟩ := h
 obtain ⟨u, rfl, rx⟩ := vals1 r
 cases rx
 have fin : ∀ (its : List Value), Vals ys its → ys.length ≤ sizeLine → ∀ (h' : Heap) (c' : Nat), (∀ b o', s.heap.get? b = some o' → h'.get? b = some o') →
     h'.get? s.heap.objs.size = some { cls := .type "list", dict := none, data := .seq its.toArray c', slots := #[] } → EP X pins σ Q (.ref s.heap.objs.size) { s with heap := h' } := fun its r' hz h' c' kp e =>
   ⟨.ref s.heap.objs.size, _, I.laid (t' := s.toks) kp (Nat.le_refl _) (show ObjOk X.prog X.w _ h' _ (.lst ys) from ⟨hz, its, c', r', e⟩), rfl, q _ (I.hok.fresh (Nat.le_refl _))⟩
 rcases hq with hq | hq
 · obtain ⟨its, r', pl, hz⟩ := I.list hq
   have hlen := r'.length
   obtain ⟨o, ho, hc, n, hd⟩ := pl.isList
   exact call_list_seq p (.inl rfl) ho hc hd (fun h' c' kp e => fin its r' hz h' c' kp e) (by simp only [List.size_toArray] <;> omega)
 · obtain ⟨its, r', pl, hz⟩ := I.tuple hq
   have hlen := r'.length
   obtain ⟨o, ho, hc, n, hd⟩ := pl
   exact call_list_seq p (.inr rfl) ho hc hd (fun h' c' kp e => fin its r' hz h' c' kp e) (by simp only [List.size_toArray] <;> omega)
def tyV (K : W.Frag) (T : String) (x : V) (H : Hp) : Prop := match x with
 | .str _ => T = "str"
 | .int _ => T = "int"
 | .ref p => (T = "list" ∧ ∃ xs, SqL K H p xs) ∨ (T = "tuple" ∧ ∃ o, K.lookup p = some o ∧ o.cls = .type "tuple" ∧ o.dict = none) ∨
     (T = "dict" ∧ ((∃ kvs, H p = some (.dK kvs)) ∨ ∃ kvs, H p = some (.dT kvs))) ∨ (T = "set" ∧ ∃ S n, H p = some (.set S n))
 | _ => False
theorem tyV_is {pins : List (Addr × Obj)} {σ : St} {H : Hp} {s : Shared} {T : String} {x : V} {v : Value} (I : Inv X pins σ H s) (r : RelV x v) (ty : tyV X.K T x H) :
   s.TypeIs v T ∧ ∀ a, v = .ref a → ∃ ob, s.heap.get? a = some ob ∧ ob.dict = none := by
 cases x with
 | str z =>
   obtain ⟨t, rfl⟩ := r
   cases (show T = "str" from ty)
   exact ⟨typeIs_str s z t, fun _ e => nomatch e⟩
 | int i =>
   obtain ⟨t, rfl⟩ := r
   cases (show T = "int" from ty)
   exact ⟨typeIs_int s i t, fun _ e => nomatch e⟩
 | ref p =>
   cases r
   rcases ty with ⟨rfl, xs, hq⟩ | ⟨rfl, o, hk, hc, hd⟩ | ⟨rfl, hk⟩ | ⟨rfl, S, n, hk⟩
   · obtain ⟨its, _, pl, _⟩ := I.list hq
     refine ⟨pl.isList.typeIs, fun a e => ?_⟩
     cases e
     obtain ⟨o, n, e, c, hd, _⟩ := pl
     exact ⟨o, e, hd⟩
   · refine ⟨⟨o, I.kIn p o hk, hc⟩, fun a e => ?_⟩
     cases e
     exact ⟨o, I.kIn _ o hk, hd⟩
   · have z : ∃ o, s.heap.get? p = some o ∧ o.ExactDict := by
       rcases hk with ⟨kvs, hk⟩ | ⟨kvs, hk⟩
       · obtain ⟨_, _, _, _, o, _, _, e, ex, _⟩ := I.hok p _ hk
         exact ⟨o, e, ex⟩
       · obtain ⟨_, _, _, _, o, _, _, e, ex, _⟩ := I.hok p _ hk
         exact ⟨o, e, ex⟩
     obtain ⟨o, e, ex⟩ := z
     refine ⟨⟨o, e, ex.1⟩, fun a e2 => ?_⟩
     cases e2
     exact ⟨o, e, ex.2.1⟩
   · obtain ⟨o, _, _, _, e, ex, _⟩ := I.hok p _ hk
     refine ⟨⟨o, e, ex.1⟩, fun a e2 => ?_⟩
     cases e2
     exact ⟨o, e, ex.2.1⟩
 | _ => exact False.elim ty
def tBM0 (K : W.Frag) (T : String) (r : V → List V → Hp → VK → Prop) (to : TE) : TE := fun σ H Q => to σ H fun x H1 => tyV K T x H1 ∧ r x [] H1 Q
def tBM (K : W.Frag) (T : String) (r : V → List V → Hp → VK → Prop) (to : TE) (t : TA) : TE := fun σ H Q => to σ H fun x H1 => tyV K T x H1 ∧ t σ H1 fun xs H2 => r x xs H2 Q
variable {o e : Expr} {es : List Expr} {to : TE} {t : TA} {name : Str} {apos cpos : Pos} {T id : String} {r : V → List V → Hp → VK → Prop}
theorem pe_bm0 (pa : PlainAttrs T) (slot : Slot T name id) (hty : typeOf (.builtin id) = pure (.type "method_descriptor")) (hm : MtR X id r) (ho : PE X o to)
   (hbase : attributeBase o name X.env (eval o X.env) = eval o X.env := by rfl) (hline : (apos.endLine == cpos.line) = true := by rfl) : PE X (.Call (.Attribute o name apos) [] [] cpos) (tBM0 X.K T r to) := by
 intro pins s σ H Q I h
 refine wpAny_Call_method0_late hbase hline (thn (ho pins s σ H _ I h) fun v s1 ⟨x, H1, I1, r1, ty, q1⟩ => ?_)
 obtain ⟨h1, h2⟩ := tyV_is I1 r1 ty
 exact ⟨T, id, pa, slot, hty, h1, h2, Calls.callWith_builtin rfl (PySem.evalArgs_none (hm pins s1 σ H1 x [] v [] Q I1 r1 .nil q1))⟩
theorem pe_bm (pa : PlainAttrs T) (slot : Slot T name id) (hty : typeOf (.builtin id) = pure (.type "method_descriptor")) (hm : MtR X id r) (ho : PE X o to) (ha : PA X (e :: es) t)
   (hbase : attributeBase o name X.env (eval o X.env) = eval o X.env := by rfl)
   (hfew : ((backTo cpos (starEach (e :: es) X.env)).all (fun x => !x.1) && (backToKw cpos (keywordEach [] X.env)).all (fun x => x.1.isSome)
     && decide ((e :: es).length + ([] : List Keyword).length + (if ([] : List Keyword).isEmpty then 0 else 1) < 30)) = true := by rfl)
   (hline : (apos.endLine == cpos.line) = true := by rfl) (hs : starEach (e :: es) X.env = (false, eval e X.env) :: starEach es X.env := by rfl) (hplain : (backTo cpos (starEach es X.env)).any (·.1) = false := by rfl) :
   PE X (.Call (.Attribute o name apos) (e :: es) [] cpos) (tBM X.K T r to t) := by
 intro pins s σ H Q I h
 refine wpAny_Call_method_late hbase hfew hline rfl (thn (ho pins s σ H _ I h) fun v s1 ⟨x, H1, I1, r1, ty, q1⟩ => ?_)
 obtain ⟨h1, h2⟩ := tyV_is I1 r1 ty
 refine ⟨T, id, pa, slot, hty, h1, h2, ?_⟩
 have hA := ha cpos pins s1 σ H1 _ I1 q1
 rw [hs] at hA ⊢
 refine Calls.callWith_builtin (by show (false || (backTo cpos (starEach es X.env)).any (·.1)) = false; rw [hplain] <;> rfl) (Calls.evalArgs_plain ?_)
 exact thn hA fun us s2 ⟨vs, H2, I2, r2, q2⟩ => hm pins s2 σ H2 x vs v us Q I2 r1 r2 q2
end
end L2
namespace L2
open PySem PySem.Spec PyProof.Rows
def MtM (X : Cx) (id : String) (r : V → List V → Hp → VK → Prop) : Prop :=
 ∀ (pins : List (Addr × Obj)) (s : Shared) (σ : St) (H : Hp) (x : V) (xs : List V) (v : Value) (us : List Value) (Q : VK), Inv X pins σ H s → RelV x v → Vals xs us → r x xs H Q →
   wpAny (model X.prog X.w) X.A (call (.builtin id) (v :: us)) (EP X pins σ Q) X.xe s
theorem Vals.one : ∀ {x : V} {us : List Value}, Vals [x] us → ∃ u, us = [u] ∧ RelV x u
 | _, _, .cons r .nil => ⟨_, rfl, r⟩
theorem Vals.two : ∀ {x y : V} {us : List Value}, Vals [x, y] us → ∃ u v, us = [u, v] ∧ RelV x u ∧ RelV y v
 | _, _, _, .cons r (.cons q .nil) => ⟨_, _, rfl, r, q⟩
theorem Vals.zero : ∀ {us : List Value}, Vals [] us → us = []
 | _, .nil => rfl
theorem Vals.eraseIdx : ∀ {xs : List V} {us : List Value} (i : Nat), Vals xs us → Vals (xs.eraseIdx i) (us.eraseIdx i)
 | _, _, _, .nil => .nil
 | _, _, 0, .cons _ t => t
 | _, _, i + 1, .cons r t => .cons r (Vals.eraseIdx i t)
theorem len_erase {α : Type} : ∀ (l : List α) (i : Nat), (l.eraseIdx i).length ≤ l.length
 | [], _ => Nat.le_refl _
 | _ :: _, 0 => Nat.le_succ _
 | _ :: r, i + 1 => Nat.succ_le_succ (len_erase r i)
section
variable {X : Cx} {pins : List (Addr × Obj)} {σ : St} {H : Hp} {s : Shared} {l b : Addr} {xs ys zs : List V}
theorem Inv.lset {its its' : List Value} {n : Nat} {f : Array Value → Array Value} {t' : Nat} (I : Inv X pins σ H s) (hH : H l = some (.lst xs))
   (e : s.heap.get? l = some { cls := .type "list", data := .seq its.toArray n }) (hf : f its.toArray = its'.toArray) (hv : Vals ys its') (hz : ys.length ≤ sizeLine) :
   Inv X pins σ (upd H l (.lst ys)) { s with heap := s.heap.update l (Obj.mapSeq f), toks := t' } := by
 have q := PySem.IsL.update e f
 rw [hf] at q
 refine I.write (x := l) (e := l) (by rw [hH]; exact trivial) (.inl rfl) (fun b' u hb hu => (Heap.get?_update_other s.heap (Obj.mapSeq f) (Ne.symm hb)).trans hu) ⟨_, q⟩ ?_
 exact ⟨hz, its', _, hv, q⟩
theorem Inv.lnew {its : List Value} {t' : Nat} (I : Inv X pins σ H s) (hv : Vals ys its) (hz : ys.length ≤ sizeLine) :
   Inv X pins σ (upd H s.heap.objs.size (.lst ys)) { s with heap := s.heap.push { cls := .type "list", data := .seq its.toArray }, toks := t' } :=
 I.laid (fun _ _ q => Heap.get?_push_of_some _ q) (Nat.le_refl _) ⟨hz, its, 0, hv, Heap.get?_push_size _ rfl⟩
theorem Inv.fresh (I : Inv X pins σ H s) : H s.heap.objs.size = none := I.hok.fresh (Nat.le_refl _)
theorem Inv.lstM (I : Inv X pins σ H s) (hH : H l = some (.lst xs)) : xs.length ≤ sizeLine ∧ ∃ (its : List Value) (n : Nat), Vals xs its ∧ xs.length = its.length ∧ s.heap.get? l = some { cls := .type "list", data := .seq its.toArray n } := by
 obtain ⟨z, its, n, r, e⟩ := I.hok l _ hH
 exact ⟨z, its, n, r, r.length, e⟩
theorem notLongL {n : Nat} (h : n ≤ sizeLine) : Builtin.List.listTooLong n = false := by
 unfold Builtin.List.listTooLong
 exact decide_eq_false (by omega)
end
section
variable {X : Cx}
def rAppend : V → List V → Hp → VK → Prop := fun x vs H Q => ∃ l xs y, x = .ref l ∧ vs = [y] ∧ H l = some (.lst xs) ∧ xs.length < sizeLine ∧ Q .non (upd H l (.lst (xs ++ [y])))
theorem UQ : MtM X "list.append" rAppend := by
 intro pins s σ H x vs v us Q I rx rv h
 obtain ⟨l, xs, y, rfl, rfl, hH, hz, q⟩ := h
 cases rx
 obtain ⟨u, rfl, ru⟩ := rv.one
 obtain ⟨z, its, n, r, hl, e⟩ := I.lstM hH
 refine call_meets F.slot_list_append ⟨_, e, rfl⟩ F.entry_list_append (F.args_list_append_2 _ _) (PySem.list_append l its.toArray n u (by rw [List.size_toArray]; omega)) ⟨e, ?_⟩
 refine ⟨.non, _, I.lset (its' := its ++ [u]) hH e (by simp) (r.append (.cons ru .nil)) ?_, rfl, q⟩
 rw [List.length_append, List.length_singleton]
 omega
def rExtend : V → List V → Hp → VK → Prop := fun x vs H Q => ∃ l b xs zs, x = .ref l ∧ vs = [.ref b] ∧ H l = some (.lst xs) ∧ H b = some (.lst zs) ∧ xs.length + zs.length ≤ sizeLine ∧ Q .non (upd H l (.lst (xs ++ zs)))
theorem yYZ : MtM X "list.extend" rExtend := by
 intro pins s σ H x vs v us Q I rx rv h
 obtain ⟨l, b, xs, zs, rfl, rfl, hH, hB, hz, q⟩ := h
 cases rx
 obtain ⟨u, rfl, ru⟩ := rv.one
 cases ru
 obtain ⟨z, its, n, r, hl, e⟩ := I.lstM hH
 obtain ⟨z2, its2, n2, r2, hl2, e2⟩ := I.lstM hB
 have hsz : its.toArray.size + its2.toArray.size ≤ sizeLine := by rw [List.size_toArray, List.size_toArray]; omega
 have hlong : ¬ (!its.toArray.isEmpty && Builtin.List.listTooLong (its.toArray.size + its2.toArray.size)) = true := by
   rw [notLongL hsz, Bool.and_false]
   exact Bool.false_ne_true
 refine call_meets F.slot_list_extend ⟨_, e, rfl⟩ F.entry_list_extend (F.args_list_extend_2 _ _)
   (AutoSeq1.list_extend_list_list_0 l its.toArray n b its2.toArray n2 hlong (by rw [List.size_toArray]; omega) (by omega)) ⟨e, e2, ?_⟩
 refine ⟨.non, _, I.lset (its' := its ++ its2) hH e (by simp) (r.append r2) ?_, rfl, q⟩
 rw [List.length_append]
 omega
def rPopAt : V → List V → Hp → VK → Prop := fun x vs H Q => ∃ l xs i k y, x = .ref l ∧ vs = [.int i] ∧ H l = some (.lst xs) ∧ -(2 ^ 63) ≤ i ∧ i < 2 ^ 63 ∧ seqIndex? i xs.length = some k ∧ xs[k]? = some y ∧ Q y (upd H l (.lst (xs.eraseIdx k)))
theorem mt_popAt : MtM X "list.pop" rPopAt := by
 intro pins s σ H x vs v us Q I rx rv h
 obtain ⟨l, xs, i, k, y, rfl, rfl, hH, h1, h2, hk, hy, q⟩ := h
 cases rx
 obtain ⟨u, rfl, ru⟩ := rv.one
 obtain ⟨t, rfl⟩ := ru
 obtain ⟨z, its, n, r, hl, e⟩ := I.lstM hH
 obtain ⟨w, hw, rw'⟩ := r.get hy
 refine call_meets F.slot_list_pop ⟨_, e, rfl⟩ F.entry_list_pop (F.args_list_pop_2 _ _)
   (MeetsSeq.list_pop_at l its.toArray n i t k w (fitsIndex_both h1 h2) (by rw [List.size_toArray, ← hl]; exact hk) (by rw [← Array.getElem?_toList]; exact hw) (by rw [List.size_toArray]; omega)) ⟨e, ?_⟩
 refine ⟨y, _, I.lset (its' := its.eraseIdx k) hH e ?_ (r.eraseIdx k) ?_, rw', q⟩
 · show its.toArray.eraseIdxIfInBounds k = (its.eraseIdx k).toArray
   rw [List.eraseIdxIfInBounds_toArray]
 · have := len_erase xs k
   omega
def rCat : R2 := fun x y H Q => ∃ l b xs zs, x = .ref l ∧ y = .ref b ∧ H l = some (.lst xs) ∧ H b = some (.lst zs) ∧ xs.length + zs.length ≤ sizeLine ∧ ∀ p, H p = none → Q (.ref p) (upd H p (.lst (xs ++ zs)))
theorem vYY : OpR X (binaryOp .Add) rCat := by
 intro pins s σ H x y v u Q I rx ry h
 obtain ⟨l, b, xs, zs, rfl, rfl, hH, hB, hz, q⟩ := h
 cases rx
 cases ry
 obtain ⟨z, its, n, r, hl, e⟩ := I.lstM hH
 obtain ⟨z2, its2, n2, r2, hl2, e2⟩ := I.lstM hB
 refine PySem.P.add_list e e2 ?_ (by rw [List.size_toArray, List.size_toArray]; omega)
 have ea : its.toArray ++ its2.toArray = (its ++ its2).toArray := by simp
 rw [ea]
 exact ⟨.ref _, _, I.lnew (t' := s.toks) (r.append r2) (by rw [List.length_append]; omega), rfl, q _ I.fresh⟩
end
end L2
namespace L2
open PySem PySem.Spec PyProof.Rows
section
variable {κ : Type} [DecidableEq κ]
def valV (kvs : List (κ × V)) (k : κ) : Option V := (kvs.find? fun kv => decide (kv.1 = k)).map (·.2)
def putK (kvs : List (κ × V)) (k : κ) (v : V) : List (κ × V) :=
 if (kvs.any fun kv => decide (kv.1 = k)) = true then kvs.map (fun kv => if kv.1 = k then (kv.1, v) else kv) else kvs ++ [(k, v)]
def UZ (kvs : List (κ × V)) (k : κ) : List (κ × V) := kvs.filter fun kv => decide (kv.1 ≠ k)
theorem yUJ {p : κ × V} {r : List (κ × V)} {k : κ} (e : p.1 = k) : valV (p :: r) k = some p.2 := by simp [valV, List.find?_cons, e]
theorem qYZ {p : κ × V} {r : List (κ × V)} {k : κ} (e : ¬ p.1 = k) : valV (p :: r) k = valV r k := by simp [valV, List.find?_cons, e]
theorem valV_any (k : κ) : ∀ kvs : List (κ × V), (kvs.any fun kv => decide (kv.1 = k)) = (valV kvs k).isSome
 | [] => rfl
 | p :: r => by
   rw [List.any_cons]
   by_cases e : p.1 = k
   · simp only [yUJ e, decide_eq_true e, Bool.true_or, Option.isSome_some]
   · rw [qYZ e, decide_eq_false e, Bool.false_or]; exact valV_any k r
theorem vZQ (kvs : List (κ × V)) (k : κ) (v : V) : (putK kvs k v).length ≤ kvs.length + 1 := by
 unfold putK
 split
 · rw [List.length_map]; omega
 · rw [List.length_append, List.length_cons, List.length_nil]; omega
theorem putK_new {kvs : List (κ × V)} {k : κ} (v : V) (h : valV kvs k = none) : putK kvs k v = kvs ++ [(k, v)] := by
 unfold putK
 rw [valV_any, h]
 exact if_neg (by decide)
theorem RelO.isSome_eq {o : Option V} {u : Option Value} (r : RelO o u) : o.isSome = u.isSome := by
 cases o with
 | none => cases u with
   | none => rfl
   | some _ => exact (show False from r).elim
 | some _ => cases u with
   | none => exact (show False from r).elim
   | some _ => rfl
theorem RelO.getD {o : Option V} {u : Option Value} {d : V} {d' : Value} (r : RelO o u) (rd : RelV d d') : RelV (o.getD d) (u.getD d') := by
 cases o with
 | none => cases u with
   | none => exact rd
   | some _ => exact (show False from r).elim
 | some _ => cases u with
   | none => exact (show False from r).elim
   | some _ => exact r
theorem KV.val {kvs : List (κ × V)} {vs : List (κ × Value)} (r : KV kvs vs) (k : κ) : RelO (valV kvs k) (valueAt vs k) := by
 unfold KV at r
 induction r with
 | nil => exact True.intro
 | @cons p q ps qs h t ih =>
   obtain ⟨h1, h2⟩ := h
   by_cases e : p.1 = k
   · have e' : q.1 = k := h1.symm.trans e
     have b : valueAt (q :: qs) k = some q.2 := by simp [valueAt, List.find?_cons, e']
     rw [yUJ e, b]; exact h2
   · have e' : ¬ q.1 = k := fun z => e (h1.trans z)
     have b : valueAt (q :: qs) k = valueAt qs k := by simp [valueAt, List.find?_cons, e']
     rw [qYZ e, b]; exact ih
theorem KV.any {kvs : List (κ × V)} {vs : List (κ × Value)} (r : KV kvs vs) (k : κ) : (kvs.any fun kv => decide (kv.1 = k)) = vs.any fun kv => decide (kv.1 = k) := by
 unfold KV at r
 induction r with
 | nil => rfl
 | cons h t ih => rw [List.any_cons, List.any_cons, ih, h.1]
theorem KV.repl {kvs : List (κ × V)} {vs : List (κ × Value)} (r : KV kvs vs) (k : κ) {y : V} {u : Value} (ry : RelV y u) :
   KV (kvs.map fun kv => if kv.1 = k then (kv.1, y) else kv) (vs.map fun kv => if kv.1 = k then (kv.1, u) else kv) := by
 unfold KV at r ⊢
 induction r with
 | nil => exact .nil
 | @cons p q ps qs h t ih =>
   rw [List.map_cons, List.map_cons]
   refine .cons ?_ ih
   obtain ⟨h1, h2⟩ := h
   by_cases e : p.1 = k
   · rw [if_pos e, if_pos (h1.symm.trans e)]; exact ⟨h1, ry⟩
   · rw [if_neg e, if_neg (fun z => e (h1.trans z))]; exact ⟨h1, h2⟩
theorem KV.put {kvs : List (κ × V)} {vs : List (κ × Value)} (r : KV kvs vs) (k : κ) {y : V} {u : Value} (ry : RelV y u) : KV (putK kvs k y) (stored vs k u) := by
 unfold putK stored
 rw [r.any k]
 by_cases e : (vs.any fun kv => decide (kv.1 = k)) = true
 · rw [if_pos e, if_pos e]; exact r.repl k ry
 · rw [if_neg e, if_neg e]; exact Paired.snoc r ⟨rfl, ry⟩
theorem KV.drop {kvs : List (κ × V)} {vs : List (κ × Value)} (r : KV kvs vs) (k : κ) : KV (UZ kvs k) (without vs k) := by
 unfold KV at r ⊢
 unfold UZ without
 induction r with
 | nil => exact .nil
 | @cons p q ps qs h t ih =>
   obtain ⟨h1, h2⟩ := h
   rw [List.filter_cons, List.filter_cons]
   by_cases e : p.1 = k
   · have a : ¬ decide (p.1 ≠ k) = true := by simp [e]
     have b : ¬ decide (q.1 ≠ k) = true := by simp [h1.symm.trans e]
     rw [if_neg a, if_neg b]; exact ih
   · have e' : ¬ q.1 = k := fun z => e (h1.trans z)
     have a : decide (p.1 ≠ k) = true := by simp [e]
     have b : decide (q.1 ≠ k) = true := by simp [e']
     rw [if_pos a, if_pos b]; exact .cons ⟨h1, h2⟩ ih
theorem KV.length {kvs : List (κ × V)} {vs : List (κ × Value)} (r : KV kvs vs) : kvs.length = vs.length := Paired.length r
theorem dropK_le (kvs : List (κ × V)) (k : κ) : (UZ kvs k).length ≤ kvs.length := List.length_filter_le _ _
end
theorem kV_is {P : Program} {w : World} {k : Key} {u : Value} (r : RelV (kV k) u) : (vB P w).is k u = true := by
 cases k with
 | inl i => obtain ⟨t, e⟩ := (show ∃ t, u = Value.int i t from r); subst e; exact mixKind_int P w i t
 | inr x => obtain ⟨t, e⟩ := (show ∃ t, u = Value.str x t from r); subst e; exact mixKind_str P w x t
theorem items_are {P : Program} {w : World} : ∀ {ks : List Key} {us : List Value}, Vals (ks.map kV) us → ItemsAre (vB P w) ks us
 | [], _, r => by rw [List.map_nil] at r; cases r; exact .nil
 | k :: ks, _, r => by
   rw [List.map_cons] at r
   cases r with
   | cons h t => exact .cons (kV_is h) (items_are t)
abbrev KT (H : Hp) : List (List Key × V) → List (List Key × Addr × Value) → Prop := Paired fun p q => p.1 = q.1 ∧ H q.2.1 = some (.tup (p.1.map kV)) ∧ RelV p.2 q.2.2
theorem KT.val {H : Hp} {kvs : List (List Key × V)} {xs : List (List Key × Addr × Value)} (r : KT H kvs xs) (k : List Key) : RelO (valV kvs k) ((atKey xs k).map (·.2)) := by
 induction r with
 | nil => exact True.intro
 | @cons p q ps qs h t ih =>
   obtain ⟨h1, _, h2⟩ := h
   by_cases e : p.1 = k
   · have e' : q.1 = k := h1.symm.trans e
     have b : atKey (q :: qs) k = some q.2 := by simp [atKey, List.find?_cons, e']
     rw [yUJ e, b]; exact h2
   · have e' : ¬ q.1 = k := fun z => e (h1.trans z)
     have b : atKey (q :: qs) k = atKey qs k := by simp [atKey, List.find?_cons, e']
     rw [qYZ e, b]; exact ih
theorem KT.repl {H : Hp} {kvs : List (List Key × V)} {xs : List (List Key × Addr × Value)} (r : KT H kvs xs) (k : List Key) {y : V} {u : Value} (ry : RelV y u) :
   KT H (kvs.map fun kv => if kv.1 = k then (kv.1, y) else kv) (xs.map (putAt k u)) := by
 induction r with
 | nil => exact .nil
 | @cons p q ps qs h t ih =>
   rw [List.map_cons, List.map_cons]
   refine .cons ?_ ih
   obtain ⟨h1, h2, h3⟩ := h
   unfold putAt
   by_cases e : p.1 = k
   · rw [if_pos e, if_pos (h1.symm.trans e)]; exact ⟨h1, h2, ry⟩
   · rw [if_neg e, if_neg (fun z => e (h1.trans z))]; exact ⟨h1, h2, h3⟩
theorem KT.put {H : Hp} {kvs : List (List Key × V)} {xs : List (List Key × Addr × Value)} (r : KT H kvs xs) (k : List Key) {b : Addr} {y : V} {u : Value} (hb : H b = some (.tup (k.map kV))) (ry : RelV y u) :
   KT H (putK kvs k y) (storedH xs k b u) := by
 have e : (kvs.any fun kv => decide (kv.1 = k)) = (atKey xs k).isSome := by
   rw [valV_any, (r.val k).isSome_eq, Option.isSome_map]
 unfold putK storedH
 rw [e]
 by_cases q : (atKey xs k).isSome = true
 · rw [if_pos q, if_pos q]; exact r.repl k ry
 · rw [if_neg q, if_neg q]; exact Paired.snoc r ⟨rfl, hb, ry⟩
theorem KT.keeps {H H' : Hp} {kvs : List (List Key × V)} {xs : List (List Key × Addr × Value)} (r : KT H kvs xs) (ht : ∀ b ys, H b = some (.tup ys) → H' b = some (.tup ys)) : KT H' kvs xs :=
 Paired.mapP r fun _ _ z => ⟨z.1, ht _ _ z.2.1, z.2.2⟩
section
variable {P : Program} {w : World} {H : Hp} {h : Heap} {a : Addr}
theorem rd_of {u : HO} (ok : HOk P w H h) (e : Rd H a u) : ObjOk P w H h a u := e.ok ok
theorem dk_rd {kvs : List (Key × V)} (ok : HOk P w H h) (e : Rd H a (.dK kvs)) : kvs.length ≤ sizeLine ∧ (a == sysModules) = false ∧ ∃ vs, KV kvs vs ∧ h.DictOf (vB P w) a vs :=
 show ObjOk P w H h a (.dK kvs) from rd_of ok e
theorem dk_of {kvs : List (Key × V)} (ok : HOk P w H h) (e : H a = some (.dK kvs)) : kvs.length ≤ sizeLine ∧ (a == sysModules) = false ∧ ∃ vs, KV kvs vs ∧ h.DictOf (vB P w) a vs := dk_rd ok (.inl e)
theorem key_of {ks : List Key} (ok : HOk P w H h) (e : H a = some (.tup (ks.map kV))) : (tupleKind (vB P w)).is h ks a := by
 obtain ⟨_, its, r, o, h1, h2, n, h3⟩ := (show ObjOk P w H h a (.tup (ks.map kV)) from ok a _ e)
 exact ⟨o, its.toArray, n, h1, h2, h3, by simpa using items_are r⟩
theorem dt_rd {kvs : List (List Key × V)} (ok : HOk P w H h) (e : Rd H a (.dT kvs)) : kvs.length ≤ sizeLine ∧ (a == sysModules) = false ∧
   ∃ xs, KT H kvs xs ∧ h.DictOfH (tupleKind (vB P w)) a xs := by
 obtain ⟨z, y, xs, r, o, es, ep, h1, h2, h3, h4, h5⟩ := (show ObjOk P w H h a (.dT kvs) from rd_of ok e)
 refine ⟨z, y, xs, r, o, es, ep, h1, h2, h3, h4, fun x hx => ?_, h5⟩
 have all : ∀ {l : List (List Key × V)} {m : List (List Key × Addr × Value)}, KT H l m → ∀ x ∈ m, (tupleKind (vB P w)).is h x.1 x.2.1 := by
   intro l m q
   induction q with
   | nil => intro x hx; exact nomatch hx
   | @cons p q ps qs hq t ih =>
     intro x hx
     rcases List.mem_cons.mp hx with e | hx
     · subst e
       exact key_of ok (by rw [← hq.1]; exact hq.2.1)
     · exact ih x hx
 exact all r x hx
theorem dt_of {kvs : List (List Key × V)} (ok : HOk P w H h) (e : H a = some (.dT kvs)) : kvs.length ≤ sizeLine ∧ (a == sysModules) = false ∧
   ∃ xs, KT H kvs xs ∧ h.DictOfH (tupleKind (vB P w)) a xs := dt_rd ok (.inl e)
end
def DGet (H : Hp) (a : Addr) (y : V) (r : Option V) : Prop :=
 (∃ kvs k, Rd H a (.dK kvs) ∧ y = kV k ∧ r = valV kvs k) ∨ ∃ kvs k b, Rd H a (.dT kvs) ∧ y = .ref b ∧ H b = some (.tup (k.map kV)) ∧ r = valV kvs k
def DPut (H : Hp) (a : Addr) (y v : V) (H' : Hp) : Prop :=
 (∃ kvs k, H a = some (.dK kvs) ∧ y = kV k ∧ kvs.length < sizeLine ∧ H' = upd H a (.dK (putK kvs k v))) ∨
 ∃ kvs k b, H a = some (.dT kvs) ∧ y = .ref b ∧ H b = some (.tup (k.map kV)) ∧ kvs.length < sizeLine ∧ H' = upd H a (.dT (putK kvs k v))
theorem DGet.k {H : Hp} {a : Addr} {kvs : List (Key × V)} {k : Key} (e : H a = some (.dK kvs)) : DGet H a (kV k) (valV kvs k) := .inl ⟨kvs, k, .inl e, rfl, rfl⟩
theorem DPut.k {H : Hp} {a : Addr} {kvs : List (Key × V)} {k : Key} {v : V} (e : H a = some (.dK kvs)) (hl : kvs.length < sizeLine) : DPut H a (kV k) v (upd H a (.dK (putK kvs k v))) := .inl ⟨kvs, k, e, rfl, hl, rfl⟩
section
variable {X : Cx} {pins : List (Addr × Obj)} {σ : St} {H : Hp} {s : Shared} {a : Addr} {y v : V} {u r : Value} {o : Option V} {A : Around} {E : Value → Shared → Prop}
theorem Inv.big (I : Inv X pins σ H s) : sysModules < s.heap.objs.size := by
 have h : mainGlobals < s.heap.objs.size := (I.mod.glob.keeps I.bk).lt
 exact Nat.lt_trans (by decide) h
theorem d_getItem {Q : Value → Shared → Prop} (hu : A.units + 1 < cLine) (I : Inv X pins σ H s) (g : DGet H a y (some v)) (ry : RelV y u) (h : ∀ w' s', Inv X pins σ H s' → RelV v w' → Q w' s') :
   wpAny (model X.prog X.w) A (getItem (.ref a) u) Q E s := by
 rcases g with ⟨kvs, k, e, ey, l⟩ | ⟨kvs, k, b, e, ey, eb, l⟩
 · subst ey
   obtain ⟨z, hd, vs, rel, dd⟩ := dk_rd I.hok e
   obtain ⟨w', hw, rw'⟩ := RelO.some_of (v := v) (o := valueAt vs k) (by rw [l]; exact rel.val k)
   exact wpAny_getItem_of (kV_is ry) dd.mapOf hw (h w' _ (I.tok _) rw')
 · subst ey
   cases (show u = Value.ref b from ry)
   obtain ⟨z, hd, xs, rel, dd⟩ := dt_rd I.hok e
   obtain ⟨w', hw, rw'⟩ := RelO.some_of (v := v) (o := (atKey xs k).map (·.2)) (by rw [l]; exact rel.val k)
   obtain ⟨p, hp, hp2⟩ := Option.map_eq_some_iff.mp hw
   refine wpAny_getItem_heap (tupleKind_room_in1 hu) (key_of I.hok eb) dd hp ?_
   rw [hp2]
   exact h w' _ (I.tok _) rw'
theorem d_in {Q : Value → Shared → Prop} (hu : A.units + 1 < cLine) (I : Inv X pins σ H s) (g : DGet H a y o) (ry : RelV y u) (h : ∀ s', Inv X pins σ H s' → Q (.bool o.isSome) s') :
   wpAny (model X.prog X.w) A (compareOp .In u (.ref a)) Q E s := by
 rcases g with ⟨kvs, k, e, ey, l⟩ | ⟨kvs, k, b, e, ey, eb, l⟩
 · subst ey
   obtain ⟨z, hd, vs, rel, dd⟩ := dk_rd I.hok e
   refine wpAny_in_of (kV_is ry) hd dd.mapOf ?_
   rw [← (rel.val k).isSome_eq, ← l]
   exact h _ (I.tok _)
 · subst ey
   cases (show u = Value.ref b from ry)
   obtain ⟨z, hd, xs, rel, dd⟩ := dt_rd I.hok e
   refine wpAny_in_heap (tupleKind_room_in1 hu) (key_of I.hok eb) hd dd ?_
   have q := (rel.val k).isSome_eq
   rw [Option.isSome_map] at q
   rw [← q, ← l]
   exact h _ (I.tok _)
theorem d_notIn {Q : Value → Shared → Prop} (hu : A.units + 1 < cLine) (I : Inv X pins σ H s) (g : DGet H a y o) (ry : RelV y u) (h : ∀ s', Inv X pins σ H s' → Q (.bool (!o.isSome)) s') :
   wpAny (model X.prog X.w) A (compareOp .NotIn u (.ref a)) Q E s := by
 rcases g with ⟨kvs, k, e, ey, l⟩ | ⟨kvs, k, b, e, ey, eb, l⟩
 · subst ey
   obtain ⟨z, hd, vs, rel, dd⟩ := dk_rd I.hok e
   refine wpAny_notIn_of (kV_is ry) hd dd.mapOf ?_
   rw [← (rel.val k).isSome_eq, ← l]
   exact h _ (I.tok _)
 · subst ey
   cases (show u = Value.ref b from ry)
   obtain ⟨z, hd, xs, rel, dd⟩ := dt_rd I.hok e
   refine wpAny_notIn_heap (tupleKind_room_in1 hu) (key_of I.hok eb) hd dd ?_
   have q := (rel.val k).isSome_eq
   rw [Option.isSome_map] at q
   rw [← q, ← l]
   exact h _ (I.tok _)
theorem d_write {h' : Heap} {t' : Nat} {ob : HO} (I : Inv X pins σ H s) (mu : Mut (H a)) (hs : Heap.SameBut a s.heap h') (he : ∃ q, h'.get? a = some q) (new : ObjOk X.prog X.w (upd H a ob) h' a ob) :
   Inv X pins σ (upd H a ob) { s with heap := h', toks := t' } :=
 I.write (x := a) (e := a) mu (.inl rfl) (fun b q hb z => (hs.2 b hb).trans z) he new
theorem dk_new {P : Program} {w : World} {H' : Hp} {h' : Heap} {kvs : List (Key × V)} {vs : List (Key × Value)} (z : kvs.length ≤ sizeLine) (hd : (a == sysModules) = false) (rel : KV kvs vs) (dd : h'.DictOf (vB P w) a vs) :
   ObjOk P w H' h' a (.dK kvs) := ⟨z, hd, vs, rel, dd⟩
theorem d_setItem {H' : Hp} {Q : Unit → Shared → Prop} (hu : A.units + 1 < cLine) (I : Inv X pins σ H s) (g : DPut H a y v H') (ry : RelV y u) (rv : RelV v r) (h : ∀ s', Inv X pins σ H' s' → Q () s') :
   wpAny (model X.prog X.w) A (setItem (.ref a) u r) Q E s := by
 rcases g with ⟨kvs, k, e, ey, l, eH⟩ | ⟨kvs, k, b, e, ey, eb, l, eH⟩
 · subst ey eH
   obtain ⟨z, hd, vs, rel, dd⟩ := dk_of I.hok e
   have hz : vs.length ≤ sizeLine := by rw [← rel.length]; exact z
   have hl : (putK kvs k v).length ≤ sizeLine := by have := vZQ kvs k v; omega
   refine wpAny_setItem_pairs (hsz := hz) (kV_is ry) dd fun h' dd' hs => h _ ?_
   have he : ∃ q, h'.get? a = some q := let ⟨q, _, _, hq, _⟩ := dd'; ⟨q, hq⟩
   exact d_write I (by rw [e]; exact True.intro) hs he (dk_new hl hd (rel.put k rv) dd')
 · subst ey eH
   cases (show u = Value.ref b from ry)
   obtain ⟨z, hd, xs, rel, dd⟩ := dt_of I.hok e
   have hz : xs.length ≤ sizeLine := by rw [← Paired.length rel]; exact z
   have hl : (putK kvs k v).length ≤ sizeLine := by have := vZQ kvs k v; omega
   refine wpAny_setItem_heap (hsz := hz) (tupleKind_room_in1 hu) (key_of I.hok eb) dd fun h' dd' hs => h _ ?_
   obtain ⟨q, es, ep, hq, h2, h3, h4, _, h5⟩ := dd'
   refine d_write I (by rw [e]; exact True.intro) hs ⟨q, hq⟩ ⟨hl, hd, _, (rel.put k eb rv).keeps fun c ys ec => ?_, q, es, ep, hq, h2, h3, h4, h5⟩
   rw [qY (zJ ec e (fun z => nomatch z))]
   exact ec
end
section
variable {X : Cx} {pins : List (Addr × Obj)} {σ : St} {H : Hp} {s : Shared} {a : Addr} {kvs : List (Key × V)} {k : Key} {u : Value} {A : Around} {E : Value → Shared → Prop}
theorem d_pop {v : V} {more : List Value} {Q : Value → Shared → Prop} (I : Inv X pins σ H s) (e : H a = some (.dK kvs)) (ry : RelV (kV k) u) (l : valV kvs k = some v) (hm : more = [] ∨ ∃ x, more = [x])
   (h : ∀ w' s', Inv X pins σ (upd H a (.dK (UZ kvs k))) s' → RelV v w' → Q w' s') : wpAny (model X.prog X.w) A (call (.builtin "dict.pop") (.ref a :: u :: more)) Q E s := by
 obtain ⟨z, hd, vs, rel, dd⟩ := dk_of I.hok e
 obtain ⟨w', hw, rw'⟩ := RelO.some_of (v := v) (o := valueAt vs k) (by rw [← l]; exact rel.val k)
 have hp : (keyPart u).isSome = true := by
   cases k with
   | inl i => obtain ⟨t, q⟩ := (show ∃ t, u = Value.int i t from ry); subst q; rfl
   | inr x => obtain ⟨t, q⟩ := (show ∃ t, u = Value.str x t from ry); subst q; rfl
 have ha : argsOk "dict.pop" ⟨.ref a :: u :: more, []⟩ := by
   rcases hm with q | ⟨x, q⟩
   · subst q; exact PySem.F.args_dict_pop_2 _ _
   · subst q; exact PySem.F.args_dict_pop_3 _ _ _
 refine call_meetsIn PySem.F.slot_dict_pop dd.typeIs PySem.F.entry_dict_pop ha (meets_dict_pop_there (vB X.prog X.w) a (kV_is ry) more hm hp)
   ⟨vs, w', dd, by rw [← rel.length]; exact z, hw, fun h' dd' hs => h w' _ ?_ rw'⟩
 have he : ∃ q, h'.get? a = some q := let ⟨q, _, _, hq, _⟩ := dd'; ⟨q, hq⟩
 exact d_write I (by rw [e]; exact True.intro) hs he (dk_new (Nat.le_trans (dropK_le kvs k) z) hd (rel.drop k) dd')
end
def NoSl (i : Expr) : Prop := ∀ ov iv, subscripted i false ov iv = operate [ov, iv] (getItem ov iv)
theorem subD_of {prog : Program} {w : World} {A : Around} {E : Value → Shared → Prop} {s : Shared} {env : Env} {value slice : Expr} {pos : Pos} {T id : String} {Q : Value → Shared → Prop}
   (hl : typeLookup (.type T) "__getitem__" = pure (some (.builtin id))) (hs : NoSl slice)
   (h : wpAny (model prog w) A (eval value env) (fun o s₁ => wpAny (model prog w) A (eval slice env) (fun i s₂ => s₂.TypeIs o T ∧ wpAny (model prog w) A (getItem o i) Q E s₂) E s₁) E s) :
   wpAny (model prog w) A (eval (.Subscript value slice pos) env) Q E s := by
 refine Subscript_ (wpAny_mono h (fun o s₁ h₁ => wpAny_mono h₁ (fun i s₂ h₂ => ?_) fun _ _ x => x) fun _ _ x => x)
 obtain ⟨hT, h₂⟩ := h₂
 unfold subscriptTail
 refine wpAny_bind ?_
 rw [getitemInPython_of_ne hT.not_modules]
 refine wpAny_bind (wpAny_specialOf hT hl ?_)
 have fin : wpAny (model prog w) A (subscripted slice false o i) (fun r s₃ => wpAny (model prog w) A (letTemporaryGo value o r >>= fun _ => pure r) Q E s₃) E s₂ := by
   rw [hs o i]
   exact wpAny_operating (wpAny_mono h₂ (fun r s₃ h₃ => wpAny_bind (wpAny_letTemporaryGo (wpAny_pure h₃))) fun _ _ x => x)
 first
   | exact wpAny_pure (wpAny_bind fin)
   | exact wpAny_bind (wpAny_pure (wpAny_bind fin))
   | exact wpAny_bind fin
theorem dict_typeIs {X : Cx} {pins : List (Addr × Obj)} {σ : St} {H : Hp} {s : Shared} {a : Addr} {y : V} {o : Option V} (I : Inv X pins σ H s) (g : DGet H a y o) : s.TypeIs (.ref a) "dict" := by
 rcases g with ⟨kvs, k, e, _, _⟩ | ⟨kvs, k, b, e, _, _, _⟩
 · obtain ⟨_, _, vs, _, dd⟩ := dk_rd I.hok e
   exact dd.typeIs
 · obtain ⟨_, _, xs, _, dd⟩ := dt_rd I.hok e
   exact dd.typeIs
def tDGet (td ty : TE) : TE := fun σ H Q => td σ H fun x H1 => ty σ H1 fun y H2 => ∃ a v, x = .ref a ∧ DGet H2 a y (some v) ∧ Q v H2
def tDIn (ty td : TE) : TE := fun σ H Q => ty σ H fun y H1 => td σ H1 fun x H2 => ∃ a o, x = .ref a ∧ DGet H2 a y o ∧ Q (.bl o.isSome) H2
def tDNotIn (ty td : TE) : TE := fun σ H Q => ty σ H fun y H1 => td σ H1 fun x H2 => ∃ a o, x = .ref a ∧ DGet H2 a y o ∧ Q (.bl (!o.isSome)) H2
def sDPut (td ty tv : TE) : TS := fun D σ H => tv σ H fun v H1 => td σ H1 fun x H2 => ty σ H2 fun y H3 => ∃ a H4, x = .ref a ∧ DPut H3 a y v H4 ∧ D.nx σ H4
section
variable {X : Cx} {o i e value : Expr} {pos pos' tpos : Pos} {td ty tv : TE}
theorem yy (hu : X.A.units + 1 < cLine) (ho : PE X o td) (hi : PE X i ty) (hs : NoSl i) : PE X (.Subscript o i pos) (tDGet td ty) := by
 intro pins s σ H Q I h
 refine subD_of PySem.F.slot_dict_getitem.lookup hs (thn (ho pins s σ H _ I h) fun u s1 ⟨x, H1, I1, rx, q1⟩ => thn (hi pins s1 σ H1 _ I1 q1) fun iv s2 ⟨y, H2, I2, ry, a, v, ex, g, q2⟩ => ?_)
 subst ex
 obtain rfl : u = Value.ref a := rx
 exact ⟨dict_typeIs I2 g, d_getItem hu I2 g ry fun w' s3 I3 rw' => ⟨v, H2, I3, rw', q2⟩⟩
theorem pc_din (hu : X.A.units + 1 < cLine) (hi : PE X i ty) (ho : PE X o td) : PC X .In i o (tDIn ty td) := by
 intro pins s σ H Q I h
 refine thn (hi pins s σ H _ I h) fun iv s1 ⟨y, H1, I1, ry, q1⟩ => thn (ho pins s1 σ H1 _ I1 q1) fun u s2 ⟨x, H2, I2, rx, a, ov, ex, g, q2⟩ => ?_
 subst ex
 obtain rfl : u = Value.ref a := rx
 exact d_in hu I2 g ry fun s3 I3 => ⟨.bl ov.isSome, H2, I3, rfl, q2⟩
theorem pc_dnotin (hu : X.A.units + 1 < cLine) (hi : PE X i ty) (ho : PE X o td) : PC X .NotIn i o (tDNotIn ty td) := by
 intro pins s σ H Q I h
 refine thn (hi pins s σ H _ I h) fun iv s1 ⟨y, H1, I1, ry, q1⟩ => thn (ho pins s1 σ H1 _ I1 q1) fun u s2 ⟨x, H2, I2, rx, a, ov, ex, g, q2⟩ => ?_
 subst ex
 obtain rfl : u = Value.ref a := rx
 exact d_notIn hu I2 g ry fun s3 I3 => ⟨.bl (!ov.isSome), H2, I3, rfl, q2⟩
theorem Yv (hu : X.A.units + 1 < cLine) (ho : PE X o td) (hi : PE X i ty) (hv : PE X value tv) (hs : swapsWith value (some (.Subscript o i pos')) pos.line X.env = pure false) :
   PS X (.Assign [.Subscript o i pos'] value pos) (sDPut td ty tv) := by
 intro pins s σ H D I h
 refine wpAny_Assign_Subscript (thn (hv pins s σ H _ I h) fun r s1 ⟨v, H1, I1, rv, q1⟩ => thn (ho pins s1 σ H1 _ I1 q1) fun u s2 ⟨x, H2, I2, rx, q2⟩ => thn (hi pins s2 σ H2 _ I2 q2) fun iv s3 ⟨y, H3, I3, ry, a, H4, ex, g, q3⟩ => ?_) hs
 subst ex
 obtain rfl : u = Value.ref a := rx
 exact d_setItem hu I3 g ry rv fun s4 I4 => ⟨σ, H4, I4, q3⟩
end
theorem dk_empty {P : Program} {w : World} {H : Hp} (h : Heap) (hb : sysModules < h.objs.size) : ObjOk P w H (h.push { cls := .type "dict", data := .dict #[] }) h.objs.size (.dK []) :=
 ⟨Nat.zero_le _, beq_eq_false_iff_ne.mpr (Ne.symm (Nat.ne_of_lt hb)), [], .nil, Heap.DictOf.new h⟩
def tDNewK : TE := fun _ H Q => ∀ p, H p = none → Q (.ref p) (upd H p (.dK []))
section
variable {X : Cx} {pos : Pos}
theorem Mq : PE X (.Dict [] [] pos) tDNewK := fun pins s σ H Q I h =>
 wpAny_Dict_empty ⟨.ref s.heap.objs.size, _, I.laid (a := s.heap.objs.size) (o := .dK []) (t' := s.toks) (fun _ _ q => Heap.get?_push_of_some _ q) (Nat.le_refl _) (dk_empty s.heap I.big), rfl, h _ (I.hok.fresh (Nat.le_refl _))⟩
end
def tPairs : List (TE × TE) → St → Hp → (List (V × V) → Hp → Prop) → Prop
 | [], _, H, Q => Q [] H
 | (tk, tv) :: r, σ, H, Q => tk σ H fun x H1 => tv σ H1 fun y H2 => tPairs r σ H2 fun ps H3 => Q ((x, y) :: ps) H3
abbrev VV : List (V × V) → List (Value × Value) → Prop := Paired fun p q => RelV p.1 q.1 ∧ RelV p.2 q.2
def PPs (X : Cx) (pos : Pos) (keys : List (Option Expr)) (values : List Expr) (trs : List (TE × TE)) : Prop :=
 ∀ (pins : List (Addr × Obj)) (s : Shared) (σ : St) (H : Hp) (Q : List (V × V) → Hp → Prop), Inv X pins σ H s → tPairs trs σ H Q →
   wpAny (model X.prog X.w) X.A (evalPairs (pairTrees keys values X.env pos)) (fun vs s' => ∃ ps H', Inv X pins σ H' s' ∧ VV ps vs ∧ Q ps H') X.xe s
theorem pps_nil {X : Cx} {pos : Pos} : PPs X pos [] [] [] := fun pins s σ H Q I h => pairTrees_nil_walk ⟨[], H, I, .nil, h⟩
theorem Jq {X : Cx} {pos : Pos} {k v : Expr} {ks : List (Option Expr)} {vs : List Expr} {tk tv : TE} {trs : List (TE × TE)} (hk : PE X k tk) (hv : PE X v tv) (hr : PPs X pos ks vs trs) :
   PPs X pos (some k :: ks) (v :: vs) ((tk, tv) :: trs) := fun pins s σ H Q I h =>
 pairTrees_cons_walk (thn (hk pins s σ H _ I h) fun u s1 ⟨x, H1, I1, rx, q1⟩ => thn (hv pins s1 σ H1 _ I1 q1) fun w2 s2 ⟨y, H2, I2, ry, q2⟩ =>
   thn (hr pins s2 σ H2 _ I2 q2) fun ws s3 ⟨ps, H3, I3, rel, q3⟩ => ⟨(x, y) :: ps, H3, I3, .cons ⟨rx, ry⟩ rel, q3⟩)
def zJZ (kvs more : List (Key × V)) : List (Key × V) := more.foldl (fun acc kv => putK acc kv.1 kv.2) kvs
theorem KV.merge : ∀ {more : List (Key × V)} {rs : List (Key × Value)} {kvs : List (Key × V)} {vs : List (Key × Value)}, KV more rs → KV kvs vs → KV (zJZ kvs more) (merged vs rs) := by
 intro more rs kvs vs r
 unfold KV at r
 induction r generalizing kvs vs with
 | nil => intro q; exact q
 | @cons p q ps qs h t ih =>
   intro r0
   have e : KV (putK kvs p.1 p.2) (stored vs q.1 q.2) := by
     have := r0.put p.1 h.2
     rw [← h.1]; exact this
   exact ih e
theorem zYQ : ∀ (more kvs : List (Key × V)), (zJZ kvs more).length ≤ kvs.length + more.length
 | [], kvs => by show kvs.length ≤ kvs.length + 0; omega
 | p :: r, kvs => by
   have h1 := zYQ r (putK kvs p.1 p.2)
   have h2 := vZQ kvs p.1 p.2
   show (zJZ (putK kvs p.1 p.2) r).length ≤ _
   rw [List.length_cons]; omega
theorem carries_of {P : Program} {w : World} : ∀ {kvs : List (Key × V)} {ws : List (Value × Value)}, VV (kvs.map fun kv => (kV kv.1, kv.2)) ws → ∃ rs, Carries (vB P w) ws rs ∧ KV kvs rs
 | [], _, r => by rw [List.map_nil] at r; cases r; exact ⟨[], True.intro, .nil⟩
 | p :: kvs, _, r => by
   rw [List.map_cons] at r
   cases r with
   | @cons a b as bs h t =>
     obtain ⟨rs, c, q⟩ := carries_of (P := P) (w := w) t
     obtain ⟨b1, b2⟩ := b
     exact ⟨(p.1, b2) :: rs, ⟨kV_is h.1, rfl, c⟩, .cons ⟨rfl, h.2⟩ q⟩
def tDisp (trs : List (TE × TE)) : TE := fun σ H Q => ∀ p, H p = none → tPairs trs σ (upd H p (.dK [])) fun ps H2 => H2 p = some (.dK []) ∧ ∃ kvs : List (Key × V), ps = kvs.map (fun kv => (kV kv.1, kv.2)) ∧ kvs.length ≤ 15 ∧ Q (.ref p) (upd H2 p (.dK (zJZ [] kvs)))
theorem pe_disp {X : Cx} {pos : Pos} {keys : List (Option Expr)} {values : List Expr} {trs : List (TE × TE)} (h : PPs X pos keys values trs) (hall : keys.all (·.isSome) = true) (hl : keys.length = values.length) (h0 : keys ≠ [])
   (h15 : keys.length ≤ 15) : PE X (.Dict keys values pos) (tDisp trs) := by
 intro pins s σ H Q I q
 have hn := I.hok.fresh (Nat.le_refl s.heap.objs.size)
 have I1 := I.laid (a := s.heap.objs.size) (o := .dK []) (h' := s.heap.push { cls := .type "dict", data := .dict #[] }) (t' := s.toks) (fun _ _ q => Heap.get?_push_of_some _ q) (Nat.le_refl _) (dk_empty s.heap I.big)
 refine wpAny_Dict_walk (knd := vB X.prog X.w) hall hl h0 h15 (thn (h pins _ σ _ _ I1 (q _ hn)) fun ws s2 ⟨ps, H2, I2, rel, e, kvs, ep, lk, q2⟩ => ?_)
 subst ep
 obtain ⟨rs, c, rk⟩ := carries_of (P := X.prog) (w := X.w) rel
 obtain ⟨z, hd, vs0, r0, dd⟩ := dk_of I2.hok e
 cases r0
 refine ⟨rs, c, dd, fun h' dd' hs => ⟨.ref s.heap.objs.size, _, ?_, rfl, q2⟩⟩
 have hz : (zJZ [] kvs).length ≤ sizeLine := by
   have h1 := zYQ kvs []
   rw [List.length_nil] at h1
   rw [sizeLine_eq]; omega
 have he : ∃ q, h'.get? s.heap.objs.size = some q := let ⟨q, _, _, hq, _⟩ := dd'; ⟨q, hq⟩
 exact d_write I2 (by rw [e]; exact True.intro) hs he (dk_new hz hd (rk.merge .nil) dd')
structure M1 (X : Cx) (o : Expr) (m : Str) (apos : Pos) (e : Expr) (cpos : Pos) : Prop where
 base : attributeBase o m X.env (eval o X.env) = eval o X.env
 few : ((backTo cpos (starEach [e] X.env)).all (fun x => !x.1) && (backToKw cpos (keywordEach [] X.env)).all (fun x => x.1.isSome)
   && decide (([e] : List Expr).length + ([] : List Keyword).length + (if ([] : List Keyword).isEmpty then 0 else 1) < 30)) = true
 line : (apos.endLine == cpos.line) = true
 trees : backTo cpos (starEach [e] X.env) = [(false, eval e X.env)]
structure M2 (X : Cx) (o : Expr) (m : Str) (apos : Pos) (e f : Expr) (cpos : Pos) : Prop where
 base : attributeBase o m X.env (eval o X.env) = eval o X.env
 few : ((backTo cpos (starEach [e, f] X.env)).all (fun x => !x.1) && (backToKw cpos (keywordEach [] X.env)).all (fun x => x.1.isSome)
   && decide (([e, f] : List Expr).length + ([] : List Keyword).length + (if ([] : List Keyword).isEmpty then 0 else 1) < 30)) = true
 line : (apos.endLine == cpos.line) = true
 trees : backTo cpos (starEach [e, f] X.env) = [(false, eval e X.env), (false, eval f X.env)]
def IsD (H : Hp) (a : Addr) : Prop := (∃ kvs, Rd H a (.dK kvs)) ∨ ∃ kvs, Rd H a (.dT kvs)
theorem isD_at {X : Cx} {pins : List (Addr × Obj)} {σ : St} {H : Hp} {s : Shared} {a : Addr} (I : Inv X pins σ H s) (d : IsD H a) :
   s.TypeIs (.ref a) "dict" ∧ (∀ b, Value.ref a = .ref b → ∃ ob, s.heap.get? b = some ob ∧ ob.dict = none) ∧ (a == sysModules) = false := by
 rcases d with ⟨kvs, e⟩ | ⟨kvs, e⟩
 · obtain ⟨_, hd, vs, _, dd⟩ := dk_rd I.hok e
   refine ⟨dd.typeIs, fun b q => ?_, hd⟩
   cases q
   obtain ⟨ob, _, _, h1, h2, _⟩ := dd
   exact ⟨ob, h1, h2.2.1⟩
 · obtain ⟨_, hd, xs, _, dd⟩ := dt_rd I.hok e
   refine ⟨dd.typeIs, fun b q => ?_, hd⟩
   cases q
   obtain ⟨ob, _, _, h1, h2, _⟩ := dd
   exact ⟨ob, h1, h2.2.1⟩
section
variable {X : Cx} {pins : List (Addr × Obj)} {σ : St} {H : Hp} {s : Shared} {a : Addr} {y d : V} {u r : Value} {o : Option V} {A : Around} {E : Value → Shared → Prop}
theorem d_get2 {Q : Value → Shared → Prop} (hu : A.units + 1 < cLine) (I : Inv X pins σ H s) (g : DGet H a y o) (ry : RelV y u) (rd : RelV d r) (h : ∀ w' s', Inv X pins σ H s' → RelV (o.getD d) w' → Q w' s') :
   wpAny (model X.prog X.w) A (call (.builtin "dict.get") [.ref a, u, r]) Q E s := by
 rcases g with ⟨kvs, k, e, ey, l⟩ | ⟨kvs, k, b, e, ey, eb, l⟩
 · subst ey
   obtain ⟨z, hd, vs, rel, dd⟩ := dk_rd I.hok e
   refine call_meetsIn PySem.F.slot_dict_get dd.typeIs PySem.F.entry_dict_get (PySem.F.args_dict_get_3 _ _ _) (meets_dict_get_default (vB X.prog X.w) a (kV_is ry) hd r) ⟨_, dd.mapOf, h _ _ (I.tok _) ?_⟩
   rw [l]
   exact (rel.val k).getD rd
 · subst ey
   cases (show u = Value.ref b from ry)
   obtain ⟨z, hd, xs, rel, dd⟩ := dt_rd I.hok e
   refine call_meetsIn PySem.F.slot_dict_get dd.typeIs PySem.F.entry_dict_get (PySem.F.args_dict_get_3 _ _ _) (meetsH_dict_get_default (tupleKind (vB X.prog X.w)) a b hd r) ⟨tupleKind_room_in1 hu, k, xs, key_of I.hok eb, dd, h _ _ (I.tok _) ?_⟩
   rw [l]
   exact (rel.val k).getD rd
end
def tDGet2 (td ty tx : TE) : TE := fun σ H Q => td σ H fun x H1 => ∃ a, x = .ref a ∧ IsD H1 a ∧ ty σ H1 fun y H2 => tx σ H2 fun z H3 => ∃ o, DGet H3 a y o ∧ Q (o.getD z) H3
def tDPop1 (td ty : TE) : TE := fun σ H Q => td σ H fun x H1 => ∃ a, x = .ref a ∧ IsD H1 a ∧ ty σ H1 fun y H2 => ∃ kvs k v, H2 a = some (.dK kvs) ∧ y = kV k ∧ valV kvs k = some v ∧ Q v (upd H2 a (.dK (UZ kvs k)))
section
variable {X : Cx} {o e f : Expr} {apos cpos : Pos} {td ty tx : TE}
theorem pe_dget2 (hu : X.A.units + 1 < cLine) (ho : PE X o td) (he : PE X e ty) (hf : PE X f tx) (m : M2 X o "get" apos e f cpos) : PE X (.Call (.Attribute o "get" apos) [e, f] [] cpos) (tDGet2 td ty tx) := by
 intro pins s σ H Q I h
 refine wpAny_Call_method m.base m.few m.line PySem.F.plainAttrs_dict PySem.F.slot_dict_get PySem.F.type_dict_get (thn (ho pins s σ H _ I h) fun u s1 ⟨x, H1, I1, rx, a, ex, d, q1⟩ => ?_)
 subst ex
 obtain rfl : u = Value.ref a := rx
 obtain ⟨t1, t2, _⟩ := isD_at I1 d
 refine ⟨t1, t2, ?_⟩
 rw [m.trees]
 refine Calls.callWith_builtin rfl (Calls.evalArgs_plain (Calls.spliced_cons (thn (he pins s1 σ H1 _ I1 q1) fun iv s2 ⟨y, H2, I2, ry, q2⟩ =>
   Calls.spliced_cons (thn (hf pins s2 σ H2 _ I2 q2) fun fv s3 ⟨z, H3, I3, rz, ov, g, q3⟩ => Calls.spliced_nil ?_))))
 exact d_get2 hu I3 g ry rz fun w' s4 I4 rw' => ⟨_, H3, I4, rw', q3⟩
theorem vQJ (ho : PE X o td) (he : PE X e ty) (m : M1 X o "pop" apos e cpos) : PE X (.Call (.Attribute o "pop" apos) [e] [] cpos) (tDPop1 td ty) := by
 intro pins s σ H Q I h
 refine wpAny_Call_method m.base m.few m.line PySem.F.plainAttrs_dict PySem.F.slot_dict_pop PySem.F.type_dict_pop (thn (ho pins s σ H _ I h) fun u s1 ⟨x, H1, I1, rx, a, ex, d, q1⟩ => ?_)
 subst ex
 obtain rfl : u = Value.ref a := rx
 obtain ⟨t1, t2, _⟩ := isD_at I1 d
 refine ⟨t1, t2, ?_⟩
 rw [m.trees]
 refine Calls.callWith_builtin rfl (Calls.evalArgs_plain (Calls.spliced_cons (thn (he pins s1 σ H1 _ I1 q1) fun iv s2 ⟨y, H2, I2, ry, kvs, k, v, ea, ey, l, q2⟩ => Calls.spliced_nil ?_)))
 subst ey
 exact d_pop I2 ea ry l (.inl rfl) fun w' s3 I3 rw' => ⟨v, _, I3, rw', q2⟩
end
section
variable {X : Cx} {pins : List (Addr × Obj)} {σ : St} {H : Hp} {s : Shared} {a : Addr} {kvs : List (Key × V)} {A : Around} {E : Value → Shared → Prop}
theorem d_copyOf {Q : Value → Shared → Prop} (I : Inv X pins σ H s) (e : Rd H a (.dK kvs)) (h : ∀ p s', H p = none → Inv X pins σ (upd H p (.dK kvs)) s' → Q (.ref p) s') : wpAny (model X.prog X.w) A (call (.type "dict") [.ref a]) Q E s := by
 obtain ⟨z, hd, vs, rel, dd⟩ := dk_rd I.hok e
 refine kt_call_dict hd dd (by rw [← rel.length]; exact z) fun h' dd' hs => ?_
 refine h _ _ (I.hok.fresh (Nat.le_refl _)) (I.laid (a := s.heap.objs.size) (o := .dK kvs) (t' := s.toks) (fun b q hq => ?_) (Nat.le_refl _) (dk_new z (beq_eq_false_iff_ne.mpr (Ne.symm (Nat.ne_of_lt I.big))) rel dd'))
 exact (hs.2 b (Nat.ne_of_lt (Heap.lt_size hq))).trans (Heap.get?_push_of_some _ hq)
end
end L2
namespace Att
open PySem PySem.W PySem.Calls PyProof.Rows
theorem ints_of_wellAll {P : Params} {h : Heap} : ∀ (ns : List Int) (vs : List Value), WellAll P h vs (ns.map WData.int) → IntsAre vs ns := by
 intro ns
 induction ns with
 | nil =>
   intro vs w
   rw [List.map_nil] at w
   cases w
   exact .nil
 | cons n ns ih =>
   intro vs w
   rw [List.map_cons] at w
   cases w with
   | cons a b =>
     cases a
     exact .cons _ _ (ih _ b)
theorem script_of {l : OpenLaw} {n : Nat} (hn : l.most = some n) {P : Params} {h : Heap} {args : List WData} {vals : List Value}
   (hpre : l.row.toRowW.claim.pre args = true) (hwl : WellAll P h vals args) :
   ∃ a vs ns, vals = [Value.ref a] ∧ args = [WData.list (ns.map WData.int)] ∧ h.get? a = some { cls := .type "list", data := .seq vs.toArray } ∧ IntsAre vs ns ∧ ns.length ≤ n := by
 have hsh : WShape.hasAll [] args [.list .int] = true := (pre_splitW hpre).1
 have hc : l.pre.holds [] { args := args } = true := (pre_splitW hpre).2
 obtain ⟨d, r, rfl, h1, h2⟩ := hasAllW_cons hsh
 obtain rfl := hasAllW_nil h2
 obtain ⟨xs, rfl, h3⟩ := hasW_list h1
 obtain ⟨ns, rfl⟩ := items_int h3
 have hlen : ns.length ≤ n := by
   unfold OpenLaw.pre at hc
   have h4 : (WTm.not (.lt (.lit (.int (n : Int))) (.len (.arg 0)))).holds [] { args := [.list (ns.map .int)] } = true := by
     have h4 := (holds_andW hc).1
     rw [hn] at h4
     exact h4
   have h5 := condW_of h4 (w_not (w_lt w_lit (w_len_list (w_arg rfl))))
   rw [List.length_map] at h5
   refine Nat.le_of_not_lt fun q => ?_
   have q' : (n : Int) < ((ns.length : Nat) : Int) := by omega
   first
     | (rw [decide_eq_true q'] at h5; exact absurd h5 (by decide))
     | (simp at h5; omega)
 cases hwl with
 | cons w1 w2 =>
   cases w2
   cases w1 with
   | list ho hall => exact ⟨_, _, ns, rfl, rfl, ho, ints_of_wellAll ns _ hall, hlen⟩
theorem post_true (l : OpenLaw) (args : List WData) : l.row.toRowW.claim.post args (.bool true) args = true :=
 postW_of (r := l.row.toRowW) (X := (true == true))
   (show WShape.has [] (.bool true) .bool = true by first | rfl | decide | simp [WShape.has, WShape.arms, WShape.armsAll])
   (show (WTm.eq .res (.lit (.bool true))).value [] { args := args, res := some (.bool true), after := args } = some (.bool (true == true)) from w_eq_bool (w_res rfl) w_lit) rfl
theorem attach_call {l : OpenLaw} {n : Nat} {q : Program} {loose : List Str} {XP : (Str → Option Value) → Heap → Prop} {YP : World → Heap → Prop} {d : DefRec}
   (hn : l.most = some n) (hdf : d.params.defaults = [])
   (call : ∀ (w : World) (s₀ s₁ : Shared) (mg mb : Str → Option Value) (fa : Addr) (o : Obj) (pm cd doc : Value) (a : Addr) (vs : List Value) (ns : List Int),
     Ground q loose [] XP w s₀ mg mb s₁.heap → YP w s₁.heap →
     s₁.heap.get? fa = some o → o.data = .func (docDef d.name d.params d.body d.scope pm cd doc) → s₁.heap.CodeRec cd d.name → mg d.name = some (.ref fa) →
     s₁.heap.get? a = some { cls := .type "list", data := .seq vs.toArray } → IntsAre vs ns → ns.length ≤ n → s₁.gens = #[] →
     codeAny (model l.prog w) callerA (.call (.ref fa) ⟨[.ref a], []⟩) (fun r s' => r = .ok (.ret (.bool true)) ∧ OldK s₁.heap s'.heap ∧ s'.os = s₁.os ∧ AllBare s'.gens) s₁) :
   WalkO q loose XP YP l.row.toRowW d [] (fun f vs => PySem.call f vs) := by
 intro w s₀ s₁ mg mb G Y fa o pm cd doc dV kV ho hd hcd hD hmg hg args vals as hpre hlay hrd hwl hlo
 obtain rfl : dV = .none := Dflts.none hD hdf
 obtain rfl : kV = .none := Dflts.noKw hD
 obtain ⟨a, vs, ns, rfl, rfl, hobj, hints, hlen⟩ := script_of hn hpre hwl
 refine enter_call (codeAny_mono (call w s₀ s₁ mg mb fa o pm cd doc a vs ns G Y ho (fd_plain hd) hcd hmg hobj hints hlen hg) fun r s' hq => ?_)
 obtain ⟨rfl, h2, h3, h4⟩ := hq
 exact ⟨.inl ⟨.bool true, .bool true, [], rfl, fun _ => rfl, .bool true, post_true l _, fun _ => ⟨List.Pairwise.nil, fun _ hm => (nomatch hm)⟩⟩, h2, h3, h4⟩
end Att
namespace L2
open PySem PySem.Spec PyProof.Rows
theorem vals_ints : ∀ {vs : List Value} {ns : List Int}, IntsAre vs ns → Vals (ns.map V.int) vs
 | _, _, .nil => .nil
 | _, _, .cons n t h => .cons ⟨t, rfl⟩ (vals_ints h)
def Only (H : Hp) : Prop := ∀ b, H b = none ∨ ∃ o xs, H b = some (.frz o (.lst xs))
theorem law_call {P : Program} {w : World} {K : W.Frag} {mg mb : Str → Option Value} {CX : CXT} {k : Nat} {fa a : Addr} {fd : FuncData} {x : Str} {sp : Sp} {s₁ : Shared} {vs : List Value} {ns : List Int}
   (KX : K.In s₁.heap) (hns : s₁.heap.Ns mainGlobals mg) (hb : s₁.heap.Ns builtinsNs mb) (hbb : ∀ x : Str, x ≠ "__name__" → mb x = bootBuiltins x) (hlim : s₁.heap.NoLimit) (hg : s₁.gens = #[])
   (ha : s₁.heap.get? a = some { cls := .type "list", data := .seq vs.toArray }) (hi : IntsAre vs ns) (hl : ns.length ≤ sizeLine) (hr : Room k callerA)
   (F : ∀ base : Heap, K.In base → base.Ns mainGlobals mg → FnOk P w K mg base CX k fa fd [x] sp) (hbind : ∀ (s : Shared) (u : Value), BindsTo s fd ⟨[u], []⟩ [(x, u)])
   (hsp : ∀ H : Hp, Only H → SqL K H a (ns.map V.int) → sp [.ref a] H (fun v _ => v = .bl true) fun _ _ _ => False)
   (hCX : ∀ H e s', CX [] H s₁ (fun _ _ _ => False) e s' → False) :
   codeAny (model P w) callerA (.call (.ref fa) ⟨[.ref a], []⟩) (fun r s' => r = .ok (.ret (.bool true)) ∧ OldK s₁.heap s'.heap ∧ s'.os = s₁.os ∧ AllBare s'.gens) s₁ := by
 have rv := vals_ints hi
 have lenV := hi.length
 have core : ∀ H : Hp, Only H → SqL K H a (ns.map V.int) → HOk P w H s₁.heap → (∀ b, H b ≠ none → b = a) → (H a ≠ none → K.lookup a = none) →
     codeAny (model P w) callerA (.call (.ref fa) ⟨[.ref a], []⟩) (fun r s' => r = .ok (.ret (.bool true)) ∧ OldK s₁.heap s'.heap ∧ s'.os = s₁.os ∧ AllBare s'.gens) s₁ := by
   intro H hO hS hok hA hK
   have base_of : ∀ {b : Addr} {o : Obj}, s₁.heap.get? b = some o → H b = none → (hidT s₁.heap H).get? b = some o := fun e n => hidT_get e n
   have noA : ∀ {b : Addr} {o : Obj} {es : Array DictEntry} {ep : Nat}, s₁.heap.get? b = some o → o.data = .dict es ep → H b = none := fun {b o es ep} e d => by
     cases q : H b with
     | none => rfl
     | some u =>
       have e' : b = a := hA b (by rw [q]; simp)
       subst e'
       rw [ha] at e; cases e
       have d' : Data.seq vs.toArray _ = Data.dict es ep := d
       cases d'
   have nsK : ∀ {b : Addr} {m : Str → Option Value}, s₁.heap.Ns b m → (hidT s₁.heap H).Ns b m := fun {b m} ⟨o, es, ep, e, d, r⟩ => ⟨o, es, ep, base_of e (noA e d), d, r⟩
   have hKb : K.In (hidT s₁.heap H) := fun b o e => base_of (KX b o e) (by
     cases q : H b with
     | none => rfl
     | some u =>
       have e' : b = a := hA b (by rw [q]; simp)
       subst e'
       rw [hK (by rw [q]; simp)] at e; cases e)
   have hM : Mod K mg (hidT s₁.heap H) := ⟨hKb, nsK hns, ⟨mb, nsK hb, hbb⟩, let ⟨mc, h1, h2⟩ := hlim; ⟨mc, nsK h1, h2⟩⟩
   have e0 : Env0 P w K mg (hidT s₁.heap H) callerA [] s₁ H := ⟨rfl, hM, fun b o e => of_hidT e, Nat.le_of_eq (hidT_size _ _), trivial, fun b hb => absurd (show b ∈ ([] : List Addr) from hb) (by simp), hok, .of_eq hg⟩
   refine codeAny_mono ((F _ hKb (nsK hns)).run callerA [] s₁ H ⟨[.ref a], []⟩ [.ref a] [.ref a] _ _ hr e0 (hbind s₁ (.ref a)) (.cons rfl .nil) (hsp H hO hS)) fun r s' h => ?_
   cases r with
   | error e => exact (hCX H e s' h).elim
   | ok fl =>
     cases fl with
     | next => exact False.elim h
     | brk => exact False.elim h
     | cont => exact False.elim h
     | ret u =>
       obtain ⟨v, H', os, bare, un, hok', r', q⟩ := h
       have q' : v = .bl true := q
       subst q'
       obtain rfl : u = Value.bool true := r'
       refine ⟨rfl, OldK.of_keep fun b o e => ?_, os, bare⟩
       cases q : H b with
       | none => exact un.keep b o e q (by intro z; exact absurd (show b ∈ ([] : List Addr) from z) (by simp)) (by simp)
       | some u =>
         rcases hO b with z | ⟨ob, xs, z⟩
         · rw [q] at z; cases z
         · have z2 := un.frzs b ob _ z
           obtain ⟨e1, _⟩ := hok b _ z
           obtain ⟨e2, _⟩ := hok' b _ z2
           rw [e] at e1; cases e1
           exact e2
 cases hk : K.lookup a with
 | some o =>
   have e := KX a o hk
   rw [ha] at e
   cases e
   refine core (fun _ => none) (fun _ => .inl rfl) (.inr ⟨_, vs.toArray, _, hk, rfl, rfl, rfl, by rw [List.size_toArray, lenV]; exact hl, by simpa using rv⟩) (fun b u z => by have z' : (none : Option HO) = some u := z; cases z') (fun b z => absurd rfl z) fun z => absurd rfl z
 | none =>
   refine core (fun b => if b = a then some (.frz { cls := .type "list", data := .seq vs.toArray } (.lst (ns.map V.int))) else none) (fun b => ?_) (.inl (.inr ⟨{ cls := .type "list", data := .seq vs.toArray }, if_pos rfl⟩)) (fun b u z => ?_) (fun b z => ?_) fun _ => hk
   · by_cases hb : b = a
     · exact .inr ⟨_, _, if_pos hb⟩
     · exact .inl (if_neg hb)
   · by_cases hb : b = a
     · have z' := (if_pos hb).symm.trans z
       cases z'
       subst hb
       exact ⟨ha, by rw [List.length_map]; exact hl, vs, _, rv, ha⟩
     · have z' := (if_neg hb).symm.trans z
       cases z'
   · by_cases hb : b = a
     · exact hb
     · exact absurd (if_neg hb) z
end L2
namespace L2
open PySem PySem.Spec PyProof.Rows
theorem walk_of {l : W.OpenLaw} {n k : Nat} {q : Program} {loose : List Str} {XP : (Str → Option Value) → Heap → Prop} {YP : World → Heap → Prop} {d : DefRec} {K : Params → W.Frag} {CX : World → CXT} {sp : World → Sp} {x : Str}
   (hn : l.most = some n) (hn2 : n ≤ sizeLine) (hdf : d.params.defaults = []) (hr : Room k callerA)
   (hY : ∀ (w : World) (h : Heap), YP w h → (K w.params).In h)
   (F : ∀ (w : World) (mg : Str → Option Value) (fa : Addr) (h : Heap), (K w.params).In h → h.Ns mainGlobals mg → mg d.name = some (.ref fa) →
     ∃ fd : FuncData, (∀ (s : Shared) (u : Value), BindsTo s fd ⟨[u], []⟩ [(x, u)]) ∧
       ∀ base : Heap, (K w.params).In base → base.Ns mainGlobals mg → FnOk l.prog w (K w.params) mg base (CX w) k fa fd [x] (sp w))
   (hsp : ∀ (w : World) (H : Hp) (a : Addr) (ns : List Int), ns.length ≤ n → Only H → SqL (K w.params) H a (ns.map V.int) → sp w [.ref a] H (fun v _ => v = .bl true) fun _ _ _ => False)
   (hCX : ∀ (w : World) (H : Hp) (s : Shared) (e : Value) (s' : Shared), CX w [] H s (fun _ _ _ => False) e s' → False) :
   W.WalkO q loose XP YP l.row.toRowW d [] (fun f vs => PySem.call f vs) := by
 refine Att.attach_call hn hdf fun w s₀ s₁ mg mb fa o pm cd doc a vs ns G Y ho hd hcd hmg hobj hints hlen hg => ?_
 have KX := hY w _ Y
 obtain ⟨fd, hb, hF⟩ := F w mg fa _ KX G.T.g hmg
 exact law_call KX G.T.g G.T.b G.T.builtins G.T.nolimit hg hobj hints (Nat.le_trans hlen hn2) hr hF hb (fun H hO hS => hsp w H a ns hlen hO hS) fun H e s' => hCX w H s₁ e s'
end L2
namespace L2
open PySem PySem.Spec PyProof.Rows
def vQ (s : Stmt) (j : Nat) : Stmt := match s with
 | .ClassDef _ _ _ body _ _ _ _ _ _ _ => body.getD j (.Pass ⟨0, 0, 0, 0⟩)
 | _ => .Pass ⟨0, 0, 0, 0⟩
def qy (s : Stmt) : Arguments := match s with
 | .FunctionDef _ a _ _ _ _ _ _ _ _ => a
 | _ => { posonlyargs := [], args := [], vararg := none, kwonlyargs := [], kw_defaults := [], kwarg := none, defaults := [] }
def qD (s : Stmt) : List Stmt := match s with
 | .FunctionDef _ _ b _ _ _ _ _ _ _ => b
 | _ => []
def qZ (s : Stmt) : Scope := match s with
 | .FunctionDef _ _ _ _ _ _ sc _ _ _ => sc
 | _ => { kind := .function, names := [], isGenerator := false, isCoroutine := false }
abbrev CX0 : CXT := fun _ _ _ _ _ _ => False
abbrev E0 : XK := fun _ _ _ => False
theorem pass0 {X : Cx} : UJ CX0 X E0 := fun _ _ _ _ _ _ _ h => h.elim
structure Fun (K : W.Frag) (x qual : Str) (st : Stmt) (f : Addr) (fd : FuncData) : Prop where
 ex : ∃ (oc : Value) (od : Option Addr) (kV doc pm : Value) (an : Option Addr) (cdv ct : Value) (osl : Array (Option Value)),
   fd = W.fnOf x qual (qy st) (qD st) (qZ st) .none kV doc pm an cdv ct ∧ K.lookup f = some ⟨oc, od, .func fd, osl⟩ ∧ W.codeIn K cdv qual = true
 kp : W.keepIn K (.ref f) = true
section
variable {P : Program} {w : World} {K : W.Frag} {mg : Str → Option Value} {base : Heap}
theorem Fun.ok {x qual : Str} {st : Stmt} {f : Addr} {fd : FuncData} {N ps : List Str} {k : Nat} {sp : Sp} (F : Fun K x qual st f fd) (S : FnScope N ps (qZ st)) (len : ∀ vs H Q E, sp vs H Q E → vs.length = ps.length)
   (hbody : ∀ (cdv : Value) (A : Around) (outer : List Env) (s : Shared) (H : Hp) (vs : List V) (Q : VK) (E : XK), Room k (A.deeper (envOfC qual (qZ st) s.heap.objs.size f cdv)) → sp vs H Q E →
     ∃ t, PSs (cxOf CX0 P w K mg base N qual (qZ st) f cdv A outer s H E).nox (qD st) t ∧ t { nx := fun _ H' => Q .non H', rt := Q } (start N vs) H) : FnOk P w K mg base CX0 (k + 1) f fd ps sp := by
 obtain ⟨oc, od, kV, doc, pm, an, cdv, ct, osl, rfl, lk, hcd⟩ := F.ex
 refine fn_of lk hcd S len fun A outer s H vs Q E hr hsp => ?_
 obtain ⟨t, h, q⟩ := hbody cdv A outer s H vs Q E hr hsp
 exact ⟨t, h.nox, q⟩
theorem Fun.binds {x qual : Str} {st : Stmt} {f : Addr} {fd : FuncData} {ps : List Str} (F : Fun K x qual st f fd)
   (h : ∀ (kV doc pm : Value) (an : Option Addr) (cdv ct : Value) (us : List Value), us.length = ps.length → bindArgs (W.fnOf x qual (qy st) (qD st) (qZ st) .none kV doc pm an cdv ct) ⟨us, []⟩ = pure (ps.zip us)) : Binds K fd ps [] := by
 obtain ⟨oc, od, kV, doc, pm, an, cdv, ct, osl, rfl, lk, hcd⟩ := F.ex
 exact .all (h kV doc pm an cdv ct)
theorem yZ {x qual : Str} {st : Stmt} {f : Addr} {oc : Value} {od an : Option Addr} {osl : Array (Option Value)} {kV doc pm cdv ct : Value} (l : K.lookup f = some ⟨oc, od, .func (W.fnOf x qual (qy st) (qD st) (qZ st) .none kV doc pm an cdv ct), osl⟩)
   (c : W.codeIn K cdv qual = true) (k : W.keepIn K (.ref f) = true) : Fun K x qual st f (W.fnOf x qual (qy st) (qD st) (qZ st) .none kV doc pm an cdv ct) := ⟨⟨oc, od, kV, doc, pm, an, cdv, ct, osl, rfl, l, c⟩, k⟩
end
theorem yG {A : Around} {k : Nat} (hr : Room k A) : A.units + 1 < cLine := Nat.lt_of_le_of_lt (Nat.add_le_add_left (by decide : 1 ≤ 64) _) hr.units
section
variable {X : Cx}
theorem pv (i : Nat) {x : Str} {pos : Pos} (hN : X.N[i]? = some x := by rfl) (hv : Vis X.env.scope x := by first | exact Or.inl rfl | exact Or.inr (Or.inl rfl) | exact Or.inr (Or.inr rfl)) (hd : (x == ("__debug__" : Str)) = false := by decide)
   (hcd : (x == ("__classdict__" : Str)) = false := by decide) : PE X (.Name x pos) (tVar i) := pe_var hN hv hd hcd
end
theorem iteF {A B : Prop} (h : B) : if false = true then A else B := by
 rw [if_neg Bool.false_ne_true]
 exact h
theorem iteT {A B : Prop} (h : A) : if true = true then A else B := by
 rw [if_pos rfl]
 exact h
theorem ite2 {c A B : Prop} [Decidable c] (h1 : c → A) (h2 : ¬ c → B) : if c then A else B := by
 by_cases h : c
 · rw [if_pos h]
   exact h1 h
 · rw [if_neg h]
   exact h2 h
def Same (H H' : Hp) : Prop := ∀ b o, H b = some o → H' b = some o
theorem Same.refl (H : Hp) : Same H H := fun _ _ h => h
theorem Same.trans {H H1 H2 : Hp} (a : Same H H1) (b : Same H1 H2) : Same H H2 := fun c o h => b c o (a c o h)
theorem Same.free {H H' : Hp} (e : Same H H') {l : Addr} (h : H' l = Option.none) : H l = Option.none := by
 cases q : H l with
 | none => rfl
 | some o =>
   rw [e l o q] at h
   cases h
theorem Same.seq {K : W.Frag} {H H' : Hp} {a : Addr} {xs : List V} (e : Same H H') (h : SqL K H a xs) : SqL K H' a xs := by
 rcases h with (h | ⟨o, h⟩) | h
 · exact .inl (.inl (e _ _ h))
 · exact .inl (.inr ⟨o, e _ _ h⟩)
 · exact .inr h
end L2
set_option maxHeartbeats 4000000
namespace L2
open PySem PySem.Spec PyProof.Rows
def clOf (cells : List (Str × Addr)) : List (Str × NameKind) → List (Str × Addr) → List (Str × Addr)
 | [], acc => acc
 | (n, k) :: r, acc => if k == .free then clOf cells r ((n, (cells.lookup n).getD 0) :: acc) else clOf cells r acc
theorem closure_of {env : Env} {names : List (Str × NameKind)} (h : ∀ n, (n, NameKind.free) ∈ names → ∃ c, env.cells.lookup n = some c) :
   ∀ acc, (forIn names acc fun (x : Str × NameKind) (cs : List (Str × Addr)) => (match x with
     | (name, kind) => if (kind == NameKind.free) = true then do let c ← cellOf env name; pure (ForInStep.yield ((name, c) :: cs)) else pure (ForInStep.yield cs) : Sem (ForInStep (List (Str × Addr))))) = pure (clOf env.cells names acc) := by
 induction names with
 | nil => intro acc; rfl
 | cons x r ih =>
   intro acc
   obtain ⟨n, k⟩ := x
   have ih' := ih fun m hm => h m (List.mem_cons_of_mem _ hm)
   rw [List.forIn_cons]
   by_cases hk : k = .free
   · subst hk
     obtain ⟨c, hc⟩ := h n List.mem_cons_self
     have e : cellOf env n = pure c := by unfold cellOf; rw [hc]
     simp only [beq_self_eq_true, if_true, e, pure_bind]
     rw [ih']
     show _ = pure (clOf env.cells r ((n, (env.cells.lookup n).getD 0) :: acc))
     rw [hc]; rfl
   · have hb : (k == NameKind.free) = false := by simpa using hk
     simp only [hb, Bool.false_eq_true, if_false, pure_bind]
     rw [ih']
     show _ = pure (if (k == NameKind.free) = true then _ else clOf env.cells r acc)
     rw [hb]; rfl
theorem closureFor_of {scope : Scope} {env : Env} (h : ∀ n, (n, NameKind.free) ∈ scope.names → ∃ c, env.cells.lookup n = some c) : closureFor scope env = pure (clOf env.cells scope.names []) := by
 have e := closure_of h []
 unfold closureFor
 simp only [bind_pure_comp] at *
 first
   | exact e
   | (rw [show (forIn scope.names ([] : List (Str × Addr)) _) = _ from e]; rfl)
theorem cl_sub {cells : List (Str × Addr)} : ∀ {names : List (Str × NameKind)} {acc : List (Str × Addr)}, (∀ n, (n, NameKind.free) ∈ names → ∃ c, cells.lookup n = some c) → (∀ x c, acc.lookup x = some c → cells.lookup x = some c) →
   ∀ x c, (clOf cells names acc).lookup x = some c → cells.lookup x = some c
 | [], _, _, ha, x, c, e => ha x c e
 | (n, k) :: r, acc, h, ha, x, c, e => by
   by_cases hk : k = .free
   · subst hk
     obtain ⟨d, hd⟩ := h n List.mem_cons_self
     refine cl_sub (names := r) (acc := (n, (cells.lookup n).getD 0) :: acc) (fun m hm => h m (List.mem_cons_of_mem _ hm)) (fun y z q => ?_) x c e
     rw [List.lookup_cons] at q
     by_cases hy : y = n
     · subst hy
       simp only [beq_self_eq_true, hd, Option.getD_some] at q
       rw [hd]; exact q
     · have hb : (y == n) = false := beq_eq_false_iff_ne.mpr hy
       simp only [hb] at q
       exact ha y z q
   · have hb : (k == NameKind.free) = false := by simpa using hk
     have e' : (clOf cells r acc).lookup x = some c := by
       have : clOf cells ((n, k) :: r) acc = clOf cells r acc := by show (if (k == NameKind.free) = true then _ else _) = _; rw [hb]; rfl
       rw [← this]; exact e
     exact cl_sub (names := r) (fun m hm => h m (List.mem_cons_of_mem _ hm)) ha x c e'
theorem cl_has {cells : List (Str × Addr)} : ∀ {names : List (Str × NameKind)} {acc : List (Str × Addr)} {x : Str}, ((x, NameKind.free) ∈ names ∨ ∃ c, acc.lookup x = some c) → ∃ c, (clOf cells names acc).lookup x = some c
 | [], _, _, h => by
   rcases h with h | h
   · simp at h
   · exact h
 | (n, k) :: r, acc, x, h => by
   by_cases hk : k = .free
   · subst hk
     show ∃ c, (clOf cells r ((n, (cells.lookup n).getD 0) :: acc)).lookup x = some c
     refine cl_has (names := r) ?_
     by_cases hx : x = n
     · subst hx
       exact .inr ⟨_, by rw [List.lookup_cons]; simp only [beq_self_eq_true]; rfl⟩
     · have hb : (x == n) = false := beq_eq_false_iff_ne.mpr hx
       rcases h with h | ⟨c, h⟩
       · rcases List.mem_cons.mp h with q | q
         · exact absurd (Prod.mk.inj q).1 hx
         · exact .inl q
       · exact .inr ⟨c, by rw [List.lookup_cons]; simp only [hb]; exact h⟩
   · have hb : (k == NameKind.free) = false := by simpa using hk
     have : clOf cells ((n, k) :: r) acc = clOf cells r acc := by show (if (k == NameKind.free) = true then _ else _) = _; rw [hb]; rfl
     rw [this]
     refine cl_has (names := r) ?_
     rcases h with h | h
     · rcases List.mem_cons.mp h with q | q
       · exact absurd (Prod.mk.inj q).2.symm hk
       · exact .inl q
     · exact .inr h
def relK (env : Env) (x : Str) (k : NameKind) : NameKind := if (k == NameKind.free && env.scope.kind == .function && env.kindOf x == some .cell) = true then .cell else k
theorem vQQ {env : Env} {x : Str} : ∀ {names : List (Str × NameKind)},
   (names.map fun (n, k) => if (k == NameKind.free && env.scope.kind == .function && env.kindOf n == some .cell) then (n, NameKind.cell) else (n, k)).lookup x = (names.lookup x).map (relK env x)
 | [] => rfl
 | (n, k) :: r => by
   have ih := @vQQ env x r
   show List.lookup x ((if (k == NameKind.free && env.scope.kind == .function && env.kindOf n == some .cell) = true then (n, NameKind.cell) else (n, k)) :: _) = _
   by_cases hx : x = n
   · subst hx
     rw [List.lookup_cons]
     unfold relK
     by_cases hc : (k == NameKind.free && env.scope.kind == .function && env.kindOf x == some .cell) = true
     · rw [if_pos hc, List.lookup_cons]; simp only [beq_self_eq_true, Option.map_some]; rw [if_pos hc]
     · rw [if_neg hc, List.lookup_cons]; simp only [beq_self_eq_true, Option.map_some]; rw [if_neg hc]
   · have hb : (x == n) = false := beq_eq_false_iff_ne.mpr hx
     rw [List.lookup_cons (k := n)]
     by_cases hc : (k == NameKind.free && env.scope.kind == .function && env.kindOf n == some .cell) = true
     · rw [if_pos hc, List.lookup_cons]; simp only [hb]; exact ih
     · rw [if_neg hc, List.lookup_cons]; simp only [hb]; exact ih
theorem mem_of_lookup {κ β : Type} [BEq κ] [LawfulBEq κ] {x : κ} {b : β} : ∀ {l : List (κ × β)}, l.lookup x = some b → (x, b) ∈ l
 | [], h => by simp at h
 | (n, k) :: r, h => by
   rw [List.lookup_cons] at h
   cases hb : x == n with
   | true =>
     rw [hb] at h
     have e1 := LawfulBEq.eq_of_beq hb
     have e2 : k = b := by simpa using h
     subst e1 e2
     exact List.mem_cons_self
   | false =>
     rw [hb] at h
     exact List.mem_cons_of_mem _ (mem_of_lookup h)
def Cx.blk (X : Cx) (scope : Scope) (N' : List Str) (C : Addr) (s₂ : Shared) (H₂ : Hp) (ex : List Addr) : Cx :=
 { X with N := N', s₀ := s₂, H₀ := H₂, env := compEnvC scope (clOf X.env.cells scope.names []) C X.env, outer := X.stack, stack := X.stack, ex := ex, fn := fun _ => false, pn := [], xe := fun _ _ => False }
structure CompScope (X : Cx) (scope : Scope) (N' : List Str) (ix : List (Option Nat)) : Prop where
 kind : scope.kind = .function
 cell : ∀ y ∈ scope.names, y.2 ≠ .cell
 own : ∀ y ∈ scope.names, y.2 = .local → scope.names.lookup y.1 = some .local
 free : ∀ y ∈ scope.names, y.2 = .free → (X.env.kindOf y.1 = some .cell ∨ X.env.kindOf y.1 = some .free)
 once : ∀ x, (x, NameKind.local) ∈ scope.names → (x, NameKind.free) ∈ scope.names → False
 len : ix.length = N'.length
 out : ∀ (i j : Nat), ix[i]? = some (some j) → X.N[j]? = N'[i]? ∧ ∀ x, N'[i]? = some x → (x, NameKind.free) ∈ scope.names ∧ Vis X.env.scope x
def takes (ix : List (Option Nat)) (σ : St) : St := ix.map fun o => o.bind fun j => (σ[j]?).join
section
variable {X : Cx} {pins : List (Addr × Obj)} {σ : St} {H : Hp} {s : Shared} {scope : Scope} {N' : List Str} {ix : List (Option Nat)} {fp : List Addr}
theorem blk_free (I : Inv X pins σ H s) (S : CompScope X scope N' ix) : ∀ n, (n, NameKind.free) ∈ scope.names → ∃ c, X.env.cells.lookup n = some c := fun n hn => I.ok.has n (S.free _ hn rfl)
theorem zQY (I : Inv X pins σ H s) (S : CompScope X scope N' ix) : ∀ x c, (clOf X.env.cells scope.names []).lookup x = some c → X.env.cells.lookup x = some c :=
 cl_sub (blk_free I S) fun x c e => by simp at e
theorem blk_has (I : Inv X pins σ H s) (S : CompScope X scope N' ix) {x : Str} (h : (x, NameKind.free) ∈ scope.names) : ∃ c, (clOf X.env.cells scope.names []).lookup x = some c ∧ X.env.cells.lookup x = some c := by
 obtain ⟨c, e⟩ := cl_has (cells := X.env.cells) (acc := []) (.inl h)
 exact ⟨c, e, zQY I S x c e⟩
theorem blk_kind {C : Addr} (x : Str) : (compEnvC scope (clOf X.env.cells scope.names []) C X.env).kindOf x = (scope.names.lookup x).map (relK X.env x) := vQQ
theorem blk_ok {C : Addr} (I : Inv X pins σ H s) (S : CompScope X scope N' ix) (hC : s.heap.objs.size ≤ C) (hf : ∀ b ∈ fp, FpOk X pins H b) (hfo : ∀ b ∈ fp, b < C) : (X.blk scope N' C s H fp).Ok where
 mod := I.ok.mod
 kind := S.kind
 glob := I.ok.glob
 blt := I.ok.blt
 above := hC
 inj := fun x y c h1 h2 => I.ok.inj x y c (zQY I S x c h1) (zQY I S y c h2)
 has := fun x hx => by
   have hx' : (scope.names.lookup x).map (relK X.env x) = some .cell ∨ (scope.names.lookup x).map (relK X.env x) = some .free := by
     rw [← blk_kind (C := C)]; exact hx
   cases e : scope.names.lookup x with
   | none => rw [e] at hx'; rcases hx' with z | z <;> cases z
   | some k =>
     have hm := mem_of_lookup e
     have hk : k = .free := by
       rw [e] at hx'
       have h1 := S.cell _ hm
       unfold relK at hx'
       by_cases hc : (k == NameKind.free && X.env.scope.kind == .function && X.env.kindOf x == some .cell) = true
       · simp only [Bool.and_eq_true, beq_iff_eq] at hc
         exact hc.1.1
       · simp only [Option.map_some, hc, if_false, Bool.false_eq_true] at hx'
         rcases hx' with z | z
         · exact absurd (Option.some.inj z) h1
         · exact Option.some.inj z
     subst hk
     obtain ⟨c, h1, _⟩ := blk_has I S hm
     exact ⟨c, h1⟩
 cab := fun x c h => by cases h
 hd := I.ok.hd
 frames := I.ok.frames
 stk := .inl rfl
 exf := fun b hb => ⟨Nat.ne_of_lt (hfo b hb), fun x c e => (hf b hb).2.2.2.2.1 x c (zQY I S x c e)⟩
 bs := I.bs
 bsz := Nat.le_trans I.ok.bsz I.sz
 noex := fun b o e hb => by
   rcases (hf b hb).2.2.2.1 with z | z
   · exact I.ok.noex b o e z
   · exact absurd (Nat.lt_of_lt_of_le (Heap.lt_size e) (Nat.le_trans I.ok.bsz z)) (Nat.lt_irrefl _)
 exfs := fun b hb z => by
   rcases List.mem_cons.mp (I.stkSub b z) with q | q
   · exact (hf b hb).2.1 q
   · exact (hf b hb).2.2.1 q
 funs := I.stack
 frf := I.stkFree
theorem blk_inv {C : Addr} {h' : Heap} {t' : Nat} {m : Str → Option Value} (I : Inv X pins σ H s) (S : CompScope X scope N' ix) (hC : s.heap.objs.size ≤ C) (hf : ∀ b ∈ fp, FpOk X pins H b) (hfo : ∀ b ∈ fp, b < C)
   (k : ∀ b o, s.heap.get? b = some o → h'.get? b = some o) (hn : h'.Ns C m) : Inv (X.blk scope N' C s H fp) [] (takes ix σ) H { s with heap := h', toks := t' } where
 ok := blk_ok I S hC hf hfo
 os := rfl
 bare := I.bare
 base := Un.kept k
 loc := ⟨m, hn, fun i x v e1 e2 e3 => by
   have e2' : (ix[i]?).map (fun o => o.bind fun j => (σ[j]?).join) = some (some v) := by rw [← List.getElem?_map]; exact e2
   cases q : ix[i]? with
   | none => rw [q] at e2'; cases e2'
   | some o =>
     rw [q] at e2'
     cases o with
     | none => cases e2'
     | some j =>
       have e2'' : (σ[j]?).join = some v := by simpa using e2'
       have e4 : σ[j]? = some (some v) := by
         cases z : σ[j]? with
         | none => rw [z] at e2''; cases e2''
         | some y => rw [z] at e2''; exact congrArg some e2''
       obtain ⟨o1, o2⟩ := S.out i j q
       have e1' : N'[i]? = some x := e1
       obtain ⟨o3, o4⟩ := o2 x e1'
       obtain ⟨m0, hn0, hl⟩ := I.loc
       obtain ⟨u, r, l⟩ := hl j x v (o1.trans e1') e4 o4
       refine ⟨u, r, .inr ?_⟩
       obtain ⟨c, c1, c2⟩ := blk_has I S o3
       have fk := S.free _ o3 rfl
       have hcell : h'.IsCell c (some u) := by
         rcases l with ⟨lk, _⟩ | ⟨_, c', lc, lz⟩
         · rcases fk with z | z <;> (rw [lk] at z; cases z)
         · rw [c2] at lc; cases lc
           exact lz.keeps k
       refine ⟨?_, c, c1, hcell⟩
       have hkd : (scope.names.lookup x).map (relK X.env x) = some (relK X.env x ((scope.names.lookup x).getD .free)) := by
         cases z : scope.names.lookup x with
         | none =>
           exfalso
           have : ∀ {l : List (Str × NameKind)}, (x, NameKind.free) ∈ l → l.lookup x ≠ none := by
             intro l
             induction l with
             | nil => intro h; simp at h
             | cons y r ih =>
               intro h
               rw [List.lookup_cons]
               rcases List.mem_cons.mp h with q | q
               · rw [← q]; simp
               · cases hb : x == y.1 with
                 | true => simp
                 | false => exact ih q
           exact this o3 z
         | some k => rfl
       have hvis : Vis (compEnvC scope (clOf X.env.cells scope.names []) C X.env).scope x := e3
       have hkx : (compEnvC scope (clOf X.env.cells scope.names []) C X.env).kindOf x = some .local ∨ (compEnvC scope (clOf X.env.cells scope.names []) C X.env).kindOf x = some .cell ∨ (compEnvC scope (clOf X.env.cells scope.names []) C X.env).kindOf x = some .free := hvis
       rcases hkx with z | z
       · exfalso
         rw [blk_kind] at z
         cases w : scope.names.lookup x with
         | none => rw [w] at z; cases z
         | some k =>
           rw [w] at z
           have z' : relK X.env x k = .local := Option.some.inj z
           unfold relK at z'
           split at z'
           · cases z'
           · subst z'
             have := S.once x (mem_of_lookup w) o3
             exact this
       · exact z⟩
 cell := fun x c e => by
   obtain ⟨v, z⟩ := I.cell x c (zQY I S x c e)
   exact ⟨v, z.keeps k⟩
 free := I.hok.fresh hC
 freeC := fun x c e => I.freeC x c (zQY I S x c e)
 pin := fun p hp => nomatch hp
 hok := I.hok.kept k
 len := by
   show (takes ix σ).length = N'.length
   unfold takes
   rw [List.length_map]; exact S.len
theorem blk_back {C D : Addr} {h' : Heap} {s' : Shared} {H' : Hp} {σ' : St} {pins' : List (Addr × Obj)} {ys : List V} {its : List Value} {n : Nat} (I : Inv X pins σ H s) (hD : s.heap.objs.size ≤ D) (hDC : D < C) (hf : ∀ b ∈ fp, FpOk X pins H b)
   (I' : Inv (X.blk scope N' C s H (D :: fp)) pins' σ' H' s') (hs : Heap.SameBut C s'.heap h') (hDn : H' D = none) (hl : ys.length ≤ sizeLine) (rv : Vals ys its) (ho : s'.heap.get? D = some { cls := .type "list", data := .seq its.toArray n }) :
   Inv X pins σ (upd H' D (.lst ys)) { s' with heap := h' } := by
 have nD : ∀ b o, s.heap.get? b = some o → b ≠ D := fun b o e => Nat.ne_of_lt (Nat.lt_of_lt_of_le (Heap.lt_size e) hD)
 have nC : ∀ b o, s.heap.get? b = some o → b ≠ C := fun b o e => Nat.ne_of_lt (Nat.lt_trans (Nat.lt_of_lt_of_le (Heap.lt_size e) hD) hDC)
 have nt : ∀ b o, H b = some o → b ≠ D := fun b o e => Nat.ne_of_lt (Nat.lt_of_lt_of_le (I.hok.lt e) hD)
 have nx : ∀ b o, s.heap.get? b = some o → b ∉ fp → b ∉ D :: fp := fun b o e hb z => by
   rcases List.mem_cons.mp z with q | q
   · exact nD b o e q
   · exact hb q
 have ho' : h'.get? D = some { cls := .type "list", data := .seq its.toArray n } := (hs.2 D (Nat.ne_of_lt hDC)).trans ho
 have hbase : Un (frs X.stack) (D :: fp) H H' s.heap s'.heap := I'.base
 have hfreeC : H' C = none := I'.free
 refine I.call' (ch := fp) (s' := { s' with heap := h' }) I'.os ⟨fun b o e n hb hx => ?_, fun b o e n hb hx => ?_, fun b o e n hx => ?_, fun b o e hx => ?_, fun b xs e => ?_, fun b o u e => ?_, fun b ps e => ?_⟩ (fun b u e => ?_) I'.bare (fun b hb => ?_)
 · exact (hs.2 b (nC b o e)).trans (hbase.keep b o e n hb (nx b o e hx))
 · obtain ⟨sl, q⟩ := hbase.slot b o e n hb (nx b o e hx)
   exact ⟨sl, (hs.2 b (nC b o e)).trans q⟩
 · rw [qY (nD b o e)]; exact hbase.free b o e n (nx b o e hx)
 · obtain ⟨o', q⟩ := hbase.there b o e (nx b o e hx)
   exact ⟨o', (hs.2 b (nC b o e)).trans q⟩
 · rw [qY (nt b _ e)]; exact hbase.tups b xs e
 · rw [qY (nt b _ e)]; exact hbase.frzs b o u e
 · rw [qY (nt b _ e)]; exact hbase.tbls b ps e
 · by_cases hb : b = D
   · subst hb
     rw [qQ] at e; cases e
     exact ⟨hl, its, n, rv, ho'⟩
   · rw [qY hb] at e
     refine (I'.hok b u e).stay (fun c v hc q => (hs.2 c ?_).trans q) (fun c q => ?_) fun c xs q => ?_
     · rintro rfl
       rcases hc with z | z
       · subst z; rw [hfreeC] at e; cases e
       · rw [hfreeC] at z; cases z
     · rw [qY (qB q hDn)]; exact q
     · rw [qY (qB q hDn)]; exact q
 · exact ⟨(hf b hb).2.2.2.1, (hf b hb).2.1, (hf b hb).2.2.2.2.1, (hf b hb).2.2.2.2.2⟩
end
def PIfs (X : Cx) (ifs : List Expr) (tc : TT) : Prop :=
 ∀ (pins : List (Addr × Obj)) (s : Shared) (σ : St) (H : Hp) (Q : Bool → Hp → Prop), Inv X pins σ H s → tc σ H Q →
   wpAny (model X.prog X.w) X.A (forIn ifs true fun c r => if r = true then do let ok ← isTrue c X.env (eval c X.env); pure (ForInStep.yield ok) else pure (ForInStep.yield r)) (TP X pins σ Q) X.xe s
def tYes : TT := fun _ H Q => Q true H
theorem pifs_nil {X : Cx} : PIfs X [] tYes := fun _ _ _ H _ I h => wpAny_tests_nil ⟨H, I, h⟩
theorem vQZ {X : Cx} {c : Expr} {tc : TT} (hc : PT X c tc) : PIfs X [c] tc := fun pins s σ H Q I h => wpAny_tests_one (hc pins s σ H Q I h)
def TgOwn (g : TG) (own : List Nat) : Prop := ∀ v σ H (Q : St → Hp → Prop), g v σ H Q → g v σ H fun σ' H' => Q σ' H' ∧ σ'.length = σ.length ∧ ∀ k, k ∉ own → σ'[k]? = σ[k]?
theorem qZY {i : Nat} : TgOwn (gName i) [i] := fun v σ H Q h => ⟨h, List.length_set, fun k hk => List.getElem?_set_ne (fun e => hk (by simp [e]))⟩
def tComp (wi : TI) (ix : List (Option Nat)) (g : TG) (tc : TT) (te : TE) : TE := fun σ H Q => wi σ H fun J H1 => ∃ (n : Nat) (Pv : Nat → List V → Hp → Prop), n ≤ sizeLine ∧ Pv 0 [] H1 ∧
 (∀ i ys H2, i < n → Pv i ys H2 → J.go i H2 ∧ ∀ x H3, J.yld i H2 x H3 → g x (takes ix σ) H3 fun σ4 H4 => tc σ4 H4 fun b H5 => if b = true then te σ4 H5 fun y H6 => Pv (i + 1) (ys ++ [y]) H6 else Pv (i + 1) ys H5) ∧
 ∀ ys H2, Pv n ys H2 → J.stop n H2 ∧ ∀ D, H2 D = none → Q (.ref D) (upd H2 D (.lst ys))
section
variable {X : Cx} {elt iter tg : Expr} {ifs : List Expr} {scope : Scope} {pos : Pos} {N' : List Str} {ix : List (Option Nat)} {own : List Nat} {wi : TI} {g : TG} {tc : TT} {te : TE}
theorem comp_core {use : Option (Value → Sem Unit)} {QQ : Value → Shared → Prop} (hcalm : X.calm = true) (S : CompScope X scope N' ix) (hown : ∀ k ∈ own, ix[k]? = some none) (hi : PI X tg iter wi)
   (hg : ∀ C s₂ H₂ ex, PG (X.blk scope N' C s₂ H₂ ex) tg g) (hgo : TgOwn g own) (hc : ∀ C s₂ H₂ ex, PIfs (X.blk scope N' C s₂ H₂ ex) ifs tc) (he : ∀ C s₂ H₂ ex, PE (X.blk scope N' C s₂ H₂ ex) elt te)
   (hs : ∀ x, foldedSetIterable iter X.env x = pure x) {pins : List (Addr × Obj)} {s : Shared} {σ : St} {H : Hp} {Q : VK} (I : Inv X pins σ H s) (h : tComp wi ix g tc te σ H Q)
   (hend : ∀ (s2 : Shared) (H2 : Hp) (fp : List Addr) (C D : Addr) (s4 : Shared) (H' : Hp) (ys : List V) (its : List Value) (k : Nat) (pins' : List (Addr × Obj)) (σ' : St), Inv X pins σ H2 s2 → s2.heap.objs.size ≤ D → D < C → (∀ b ∈ fp, FpOk X pins H2 b) →
     Inv (X.blk scope N' C s2 H2 (D :: fp)) pins' σ' H' s4 → H' D = none → ys.length ≤ sizeLine → Vals ys its → s4.heap.get? D = some { cls := .type "list", data := .seq its.toArray k } → Q (.ref D) (upd H' D (.lst ys)) →
     compPost (model X.prog X.w) X.A X.xe use QQ (.ref D) C (.ok .next) s4) (p' : Pos) :
   wpAny (model X.prog X.w) X.A (comprehension (.ListComp elt [⟨tg, iter, ifs, 0⟩] scope pos) scope X.env p' (newList []) false (eval iter X.env) use) QQ X.xe s := by
 refine wpAny_comprehension_free (use := use) (cl := clOf X.env.cells scope.names []) rfl hs (closureFor_of (blk_free I S)) S.kind S.own ?_
 refine thn (hi pins s σ H _ I h) fun v s1 h1 => thn h1 fun itv s2 h2 => ?_
 obtain ⟨it, fp, tn, J, H2, e, I2, T, st2, f2, n, Pv, hn, p0, turn, fin⟩ := h2
 subst e
 refine wpAny_newObj_type (wpAny_newFunctionEnv S.cell (by intro y hy; simp at hy) (fun h₁ hns₁ hsb₁ => ?_) S.kind)
 dsimp only at hns₁ hsb₁ ⊢
 generalize hH2 : s2.heap.push { cls := .type "list", dict := none, data := .seq ([] : List Value).toArray } = G2 at hns₁ hsb₁ ⊢
 have hC : G2.objs.size = s2.heap.objs.size + 1 := by rw [← hH2, Heap.size_push]
 have hDC : s2.heap.objs.size < G2.objs.size := by rw [hC]; exact Nat.lt_succ_self _
 have hCle : s2.heap.objs.size ≤ G2.objs.size := Nat.le_of_lt hDC
 have old : ∀ b o, s2.heap.get? b = some o → h₁.get? b = some o := fun b o e => hsb₁.extBut b o (Nat.ne_of_lt (Nat.lt_trans (Heap.lt_size e) hDC)) (Heap.get?_push_of_some _ (hH2 ▸ Heap.get?_push_of_some _ e))
 have hacc : h₁.get? s2.heap.objs.size = some { cls := .type "list", data := .seq #[] } := hsb₁.extBut _ _ (Nat.ne_of_lt hDC) (Heap.get?_push_of_some _ (hH2 ▸ Heap.get?_push_size _ rfl))
 have hDn : H2 s2.heap.objs.size = none := I2.hok.fresh (Nat.le_refl _)
 have fD : ∀ b ∈ s2.heap.objs.size :: fp, FpOk X pins H2 b := fun b hb => by
   rcases List.mem_cons.mp hb with q | q
   · rw [q]; exact I2.fpOk (Nat.le_refl _) hDn
   · exact f2 b q
 have lfp : ∀ b ∈ fp, b < s2.heap.objs.size := fun b hb => by
   obtain ⟨o, ho, _⟩ := T.obj 0 _ st2 b hb
   exact Heap.lt_size ho
 have lD : ∀ b ∈ s2.heap.objs.size :: fp, b < G2.objs.size := fun b hb => by
   rcases List.mem_cons.mp hb with q | q
   · rw [q]; exact hDC
   · exact Nat.lt_trans (lfp b q) hDC
 have I3 : Inv (X.blk scope N' G2.objs.size s2 H2 (s2.heap.objs.size :: fp)) [] (takes ix σ) H2 { s2 with heap := h₁, toks := s2.toks + ([] : List (Str × Value)).length } := blk_inv I2 S hCle fD lD old hns₁
 have st3 : tn 0 h₁ := T.keep 0 _ _ st2 fun b hb o e => old b o e
 have noxE : ∀ {α : Type} {t : Sem α} {Q' : α → Shared → Prop} {E' : Value → Shared → Prop} {s' : Shared}, wpAny (model X.prog X.w) X.A t Q' (fun _ _ => False) s' → wpAny (model X.prog X.w) X.A t Q' E' s' := fun w => wpAny_mono w (fun _ _ q => q) fun _ _ z => False.elim z
 have fpB : ∀ {H' : Hp} {pins' : List (Addr × Obj)}, (∀ b ∈ s2.heap.objs.size :: fp, H' b = none) → pins' = [] → ∀ b ∈ s2.heap.objs.size :: fp, FpOk (X.blk scope N' G2.objs.size s2 H2 (s2.heap.objs.size :: fp)) pins' H' b := by
   intro H' pins' hn' hp b hb
   subst hp
   have ok := I3.ok
   exact ⟨hn' b hb, (ok.exf b hb).1, ok.exfs b hb, .inl hb, (ok.exf b hb).2, fun p hp => nomatch hp⟩
 have loop : ∀ s3 : Shared, s3 = { s2 with heap := h₁, toks := s2.toks + ([] : List (Str × Value)).length } →
     codeAny (model X.prog X.w) X.A (.compLoop (.ListComp elt [⟨tg, iter, ifs, 0⟩] scope pos) 0 (.ref it) (.ref s2.heap.objs.size) (compEnvC scope (clOf X.env.cells scope.names []) G2.objs.size X.env))
       (compPost (model X.prog X.w) X.A X.xe use QQ (.ref s2.heap.objs.size) G2.objs.size) s3 := by
   rintro s3 rfl
   refine codeAny_loop rfl (fun mm s' => ∃ i ys its k H', mm = n - i ∧ i ≤ n ∧ ys.length ≤ i ∧ Inv (X.blk scope N' G2.objs.size s2 H2 (s2.heap.objs.size :: fp)) [] (takes ix σ) H' s' ∧ tn i s'.heap ∧
       (∀ b ∈ s2.heap.objs.size :: fp, H' b = none) ∧ Vals ys its ∧ s'.heap.get? s2.heap.objs.size = some { cls := .type "list", data := .seq its.toArray k } ∧ Pv i ys H') ?_ n
     ⟨0, [], [], _, H2, rfl, Nat.zero_le _, Nat.le_refl _, I3, st3, fun b hb => (fD b hb).1, .nil, hacc, p0⟩
   rintro mm s' ⟨i, ys, its, k, H', rfl, hin, hyl, I', st', fr', rv, hob, pv⟩
   show wpAny _ X.A ((compTurn (.ListComp elt [⟨tg, iter, ifs, 0⟩] scope pos) 0 (.ref it) (.ref s2.heap.objs.size) (compEnvC scope (clOf X.env.cells scope.names []) G2.objs.size X.env)).onRaise (fun x => do noteFrame x (compEnvC scope (clOf X.env.cells scope.names []) G2.objs.size X.env); theTreesLotGoes x)) _ _ s'
   refine wpAny_noted ?_
   rw [compTurn_list]
   refine wpAny_bind (wpAny_standAt (wpAny_bind ?_))
   have fpT : ∀ b ∈ fp, FpOk (X.blk scope N' G2.objs.size s2 H2 (s2.heap.objs.size :: fp)) [] H' b := fun b hb => fpB fr' rfl b (List.mem_cons_of_mem _ hb)
   by_cases hlt : i < n
   · obtain ⟨go, step⟩ := turn i ys H' hlt pv
     refine noxE (thn (T.item (X.blk scope N' G2.objs.size s2 H2 (s2.heap.objs.size :: fp)) rfl rfl rfl hcalm i [(s2.heap.objs.size, ({ cls := .type "list", data := .seq its.toArray k } : Obj))] s' _ H' (fun _ _ => False) (I'.pins_of fun p hp => ?_) (fun b hb => ?_) st' go) fun r s4 ⟨u, hr, h4⟩ => ?_)
     · obtain rfl := List.mem_singleton.mp hp
       refine ⟨hob, fr' _ List.mem_cons_self, Nat.ne_of_lt hDC, ?_, fun v z => ?_⟩
       · exact I3.ok.exfs _ List.mem_cons_self
       · have z' : Data.seq _ _ = Data.cell v := z
         cases z'
     · obtain ⟨f0, f1, f2', f3, f4, f5⟩ := fpT b hb
       refine ⟨f0, f1, f2', f3, f4, fun p hp => ?_⟩
       obtain rfl := List.mem_singleton.mp hp
       exact Nat.ne_of_gt (lfp b hb)
     · subst hr
       refine wpAny_bind (noxE (thn h4 fun _ s5 ⟨x, H5, I5, r5, y5, st5, fr5⟩ => ?_))
       have D5 := I5.pin (s2.heap.objs.size, ({ cls := .type "list", data := .seq its.toArray k } : Obj)) (by simp [Cx.blk])
       have fr5' : ∀ b ∈ s2.heap.objs.size :: fp, H5 b = none := fun b hb => by
         rcases List.mem_cons.mp hb with q | q
         · rw [q]; exact D5.2.1
         · exact fr5 b q
       have I5' : Inv (X.blk scope N' G2.objs.size s2 H2 (s2.heap.objs.size :: fp)) ([] ++ pinsAt (s2.heap.objs.size :: fp) s5.heap) (takes ix σ) H5 s5 :=
         (I5.pins_of (pins' := []) fun p hp => nomatch hp).pinned (fpB fr5' rfl) fun b hb => by
           rcases List.mem_cons.mp hb with q | q
           · subst q
             exact ⟨_, D5.1, D5.2.2.2.2⟩
           · exact T.obj _ _ st5 b q
       refine wpAny_bind (noxE (thn (hg _ _ _ _ _ s5 _ H5 x u _ I5' r5 (hgo _ _ _ _ (step x H5 y5))) fun _ s6 ⟨σ6, H6, I6, q6, l6, k6⟩ => ?_))
       refine wpAny_bind (noxE (thn (hc _ _ _ _ _ s6 σ6 H6 _ I6 q6) fun ok s7 ⟨H7, I7, q7⟩ => ?_))
       have back : ∀ {H8 : Hp} {s8 : Shared}, Inv (X.blk scope N' G2.objs.size s2 H2 (s2.heap.objs.size :: fp)) ([] ++ pinsAt (s2.heap.objs.size :: fp) s5.heap) σ6 H8 s8 →
           Inv (X.blk scope N' G2.objs.size s2 H2 (s2.heap.objs.size :: fp)) [] (takes ix σ) H8 s8 ∧ tn (i + 1) s8.heap ∧ (∀ b ∈ s2.heap.objs.size :: fp, H8 b = none) ∧ s8.heap.get? s2.heap.objs.size = some { cls := .type "list", data := .seq its.toArray k } := by
         intro H8 s8 I8
         have hp : ∀ b ∈ s2.heap.objs.size :: fp, ∀ o, s5.heap.get? b = some o → s8.heap.get? b = some o ∧ H8 b = none := fun b hb o e =>
           let z := I8.pin (b, o) (List.mem_append_right _ (List.mem_append_right _ (zJJ hb e)))
           ⟨z.1, z.2.1⟩
         refine ⟨(I8.pins_of (pins' := []) fun p hp => nomatch hp).weak (by rw [l6]) (fun j v ej => ?_), T.keep _ _ _ st5 (fun b hb o e => (hp b (List.mem_cons_of_mem _ hb) o e).1), fun b hb => ?_, (hp _ List.mem_cons_self _ D5.1).1⟩
         · by_cases hj : j ∈ own
           · exfalso
             have e1 : (ix[j]?).map (fun o => o.bind fun j => (σ[j]?).join) = some (some v) := by rw [← List.getElem?_map]; exact ej
             rw [hown j hj] at e1
             cases e1
           · rw [k6 j hj]; exact ej
         · rcases List.mem_cons.mp hb with q | q
           · rw [q]; exact (hp _ List.mem_cons_self _ D5.1).2
           · obtain ⟨o, ho, _⟩ := T.obj _ _ st5 b q
             exact (hp b hb o ho).2
       cases ok with
       | false =>
         have q7' : Pv (i + 1) ys H7 := by simpa using q7
         obtain ⟨b1, b2, b3, b4⟩ := back I7
         exact wpAny_pure ⟨rfl, n - (i + 1), by omega, i + 1, ys, its, k, H7, rfl, hlt, Nat.le_succ_of_le hyl, b1, b2, b3, rv, b4, q7'⟩
       | true =>
         have q7' : te σ6 H7 fun y H6 => Pv (i + 1) (ys ++ [y]) H6 := by simpa using q7
         refine wpAny_bind (wpAny_bind (noxE (thn (he _ _ _ _ _ s7 σ6 H7 _ I7 q7') fun z s8 ⟨y, H8, I8, r8, q8⟩ => ?_)))
         obtain ⟨b1, b2, b3, b4⟩ := back I8
         have hsz : its.toArray.size ≤ sizeLine := by rw [List.size_toArray, ← rv.length]; omega
         refine wpAny_bind (append_at (hsz := hsz) b4 fun h9 hs9 hD9 => ?_)
         · refine wpAny_pure (wpAny_pure ⟨rfl, n - (i + 1), by omega, i + 1, ys ++ [y], its ++ [z], k + 1, H8, rfl, hlt, ?_, ?_, ?_, b3, ?_, ?_, q8⟩)
           · rw [List.length_append, List.length_singleton]; exact Nat.succ_le_succ hyl
           · have fd := fpB b3 rfl _ List.mem_cons_self
             exact b1.turned (t' := s8.toks) (fun b o hb e => hs9.extBut b o hb e) fd.1 fd.2.1 fd.2.2.2.1 fd.2.2.2.2.1 fd.2.2.2.2.2
           · exact T.keep _ _ _ b2 fun b hb o e => hs9.extBut b o (Nat.ne_of_lt (lfp b hb)) e
           · exact rv.append (.cons r8 .nil)
           · rw [hD9]; simp
   · have hieq : i = n := by omega
     subst hieq
     obtain ⟨stop, qf⟩ := fin ys H' pv
     refine noxE (thn (T.done (X.blk scope N' G2.objs.size s2 H2 (s2.heap.objs.size :: fp)) rfl rfl rfl hcalm i [(s2.heap.objs.size, ({ cls := .type "list", data := .seq its.toArray k } : Obj))] s' _ H' (fun _ _ => False) (I'.pins_of fun p hp => ?_) (fun b hb => ?_) st' stop) fun r s4 ⟨hr, I4⟩ => ?_)
     · obtain rfl := List.mem_singleton.mp hp
       refine ⟨hob, fr' _ List.mem_cons_self, Nat.ne_of_lt hDC, ?_, fun v z => ?_⟩
       · exact I3.ok.exfs _ List.mem_cons_self
       · have z' : Data.seq _ _ = Data.cell v := z
         cases z'
     · obtain ⟨f0, f1, f2', f3, f4, f5⟩ := fpT b hb
       refine ⟨f0, f1, f2', f3, f4, fun p hp => ?_⟩
       obtain rfl := List.mem_singleton.mp hp
       exact Nat.ne_of_gt (lfp b hb)
     · subst hr
       have D4 := I4.pin (s2.heap.objs.size, ({ cls := .type "list", data := .seq its.toArray k } : Obj)) (by simp [Cx.blk])
       refine wpAny_pure ?_
       exact hend s2 H2 fp _ _ s4 H' ys its k _ _ I2 (Nat.le_refl _) hDC f2 I4 D4.2.1 (Nat.le_trans hyl hn) rv D4.1 (qf _ D4.2.1)
 refine codeAny_compStart_list (loop _ rfl) (T.self X.A 0 _ _ _ st3 (loop _ rfl))
theorem vUJ (hcalm : X.calm = true) (S : CompScope X scope N' ix) (hown : ∀ k ∈ own, ix[k]? = some none) (hi : PI X tg iter wi)
   (hg : ∀ C s₂ H₂ ex, PG (X.blk scope N' C s₂ H₂ ex) tg g) (hgo : TgOwn g own) (hc : ∀ C s₂ H₂ ex, PIfs (X.blk scope N' C s₂ H₂ ex) ifs tc) (he : ∀ C s₂ H₂ ex, PE (X.blk scope N' C s₂ H₂ ex) elt te)
   (hs : ∀ x, foldedSetIterable iter X.env x = pure x := by intro _; rfl) :
   PE X (.ListComp elt [⟨tg, iter, ifs, 0⟩] scope pos) (tComp wi ix g tc te) := by
 intro pins s σ H Q I h
 rw [eval_ListComp]
 refine comp_core (use := none) hcalm S hown hi hg hgo hc he hs I h (fun s2 H2 fp C D s4 H' ys its k pins' σ' I2 hD hDC f2 I4 hDn hl rv ho q => ?_) _
 obtain ⟨m4, hn4, _⟩ := id I4.loc
 exact ⟨m4, hn4, fun h' hs' => ⟨.ref D, upd H' D (.lst ys), blk_back I2 hD hDC f2 I4 hs' hDn hl rv ho, rfl, q⟩⟩
theorem ps_comp {i : Nat} {y : Str} {py spos : Pos} (hN : X.N.Nodup) (hyi : X.N[i]? = some y) (hyl : Loc X.env.scope y) (hcalm : X.calm = true) (S : CompScope X scope N' ix) (hown : ∀ k ∈ own, ix[k]? = some none) (hi : PI X tg iter wi)
   (hg : ∀ C s₂ H₂ ex, PG (X.blk scope N' C s₂ H₂ ex) tg g) (hgo : TgOwn g own) (hc : ∀ C s₂ H₂ ex, PIfs (X.blk scope N' C s₂ H₂ ex) ifs tc) (he : ∀ C s₂ H₂ ex, PE (X.blk scope N' C s₂ H₂ ex) elt te)
   (hsw : swapsWith (.ListComp elt [⟨tg, iter, ifs, 0⟩] scope pos) (some (.Name y py)) spos.line X.env = pure true := by rfl)
   (hs : ∀ x, foldedSetIterable iter X.env x = pure x := by intro _; rfl) (hf : X.fn y = true ∨ X.env.scope.names.lookup y = some .local := by first | exact .inl rfl | exact .inr rfl | assumption) :
   PS X (.Assign [.Name y py] (.ListComp elt [⟨tg, iter, ifs, 0⟩] scope pos) spos) (tAsg (tComp wi ix g tc te) (gName i)) := by
 intro pins s σ H D0 I h
 rw [exec_Assign_Name_used _ _ _ _ hsw]
 refine wpAny_bind (wpAny_standAt (wpAny_bind ?_))
 show wpAny _ X.A (do let _ ← comprehension (.ListComp elt [⟨tg, iter, ifs, 0⟩] scope pos) scope X.env _ (newList []) false (eval iter X.env) (some (assign (.Name y py) X.env))) _ _ s
 refine wpAny_bind (wpAny_mono (comp_core (use := some (assign (.Name y py) X.env)) (QQ := fun _ s' => SP X pins D0 .next s') hcalm S hown hi hg hgo hc he hs I h (fun s2 H2 fp C D s4 H' ys its k pins' σ' I2 hD hDC f2 I4 hDn hl rv ho q => ?_) _) (fun _ s' hq => wpAny_pure (wpAny_pure hq)) fun _ _ e => e)
 have J4 : Inv X pins σ (upd H' D (.lst ys)) s4 := blk_back I2 hD hDC f2 I4 (Heap.SameBut.refl C s4.heap) hDn hl rv ho
 obtain ⟨m4, hn4, _⟩ := id I4.loc
 have hCs : s2.heap.objs.size ≤ C := Nat.le_of_lt (Nat.lt_of_le_of_lt hD hDC)
 have cL : C ≠ X.env.locals := Nat.ne_of_gt (Nat.lt_of_lt_of_le I2.lt hCs)
 have cC : ∀ x c, X.env.cells.lookup x = some c → c ≠ C := fun x c e => by
   obtain ⟨v, q⟩ := I2.cell x c e
   exact Nat.ne_of_lt (Nat.lt_of_lt_of_le q.lt hCs)
 have cH : upd H' D (.lst ys) C = none := by rw [qY (Nat.ne_of_gt hDC)]; exact I4.free
 show wpAny _ X.A (assign (.Name y py) X.env (.ref D)) _ _ s4
 refine wpAny_assign_Name (store_ok2 (v := .ref D) J4 hN hyi hyl rfl (fun s5 I5 ⟨a, sb, ha⟩ => ?_) hf)
 have ca : C ≠ a := by
   rcases ha with z | z
   · rw [z]; exact cL
   · exact fun w => cC _ _ z w.symm
 refine ⟨m4, hn4.sameBut sb ca, fun h' hs' => ?_⟩
 refine ⟨σ.set i (some (.ref D)), upd H' D (.lst ys), ?_, q⟩
 exact I5.turned (t' := s5.toks) (fun b o hb e => hs'.extBut b o hb e) cH cL (.inr (Nat.le_trans I2.sz hCs)) cC (fun p hp z => by
   have := Heap.lt_size (I2.pin p hp).1
   rw [z] at this
   exact absurd (Nat.lt_of_lt_of_le this hCs) (Nat.lt_irrefl _))
end
end L2
namespace L2
open PySem PySem.Spec PyProof.Rows
section
variable {X : Cx} {tg : Expr}
theorem ty_one {n : String} : ∀ cv u, RelV cv (.type n) → RelV cv u → u = .type n := by
 intro cv u h1 h2
 cases cv with
 | ty m =>
   have e1 : Value.type n = Value.type m := h1
   have e2 : u = Value.type m := h2
   rw [e2, e1]
 | non => cases (show Value.type n = Value.none from h1)
 | bl b => cases (show Value.type n = Value.bool b from h1)
 | int i => obtain ⟨t, e⟩ := (show ∃ t, Value.type n = Value.int i t from h1); cases e
 | str x => obtain ⟨t, e⟩ := (show ∃ t, Value.type n = Value.str x t from h1); cases e
 | byt b => obtain ⟨t, e⟩ := (show ∃ t, Value.type n = Value.bytes b t from h1); cases e
 | flt b => obtain ⟨t, e⟩ := (show ∃ t, Value.type n = Value.float b t from h1); cases e
 | ref a => cases (show Value.type n = Value.ref a from h1)
end
end L2
namespace L2
open PySem PySem.Spec PyProof.Rows
mutual
def Has (H : Hp) : V → PyData → Prop
 | v, .none => v = .non
 | v, .bool b => v = .bl b
 | v, .int i => v = .int i
 | v, .str x => v = .str x
 | v, .list ds => ∃ a xs, v = .ref a ∧ H a = some (.lst xs) ∧ HasL H xs ds
 | v, .tuple ds => ∃ a xs, v = .ref a ∧ H a = some (.tup xs) ∧ HasL H xs ds
 | _, .dict _ => False
def HasL (H : Hp) : List V → List PyData → Prop
 | xs, [] => xs = []
 | xs, d :: ds => ∃ x r, xs = x :: r ∧ Has H x d ∧ HasL H r ds
end
mutual
theorem Has.same {H H' : Hp} (e : Same H H') : ∀ {v : V} {d : PyData}, Has H v d → Has H' v d
 | v, .none, h => by unfold Has at h ⊢; exact h
 | v, .bool b, h => by unfold Has at h ⊢; exact h
 | v, .int i, h => by unfold Has at h ⊢; exact h
 | v, .str x, h => by unfold Has at h ⊢; exact h
 | v, .list ds, h => by
   unfold Has at h ⊢
   obtain ⟨a, xs, h1, h2, h3⟩ := h
   exact ⟨a, xs, h1, e _ _ h2, HasL.same e h3⟩
 | v, .tuple ds, h => by
   unfold Has at h ⊢
   obtain ⟨a, xs, h1, h2, h3⟩ := h
   exact ⟨a, xs, h1, e _ _ h2, HasL.same e h3⟩
 | v, .dict kvs, h => by unfold Has at h; exact h.elim
theorem HasL.same {H H' : Hp} (e : Same H H') : ∀ {xs : List V} {ds : List PyData}, HasL H xs ds → HasL H' xs ds
 | xs, [], h => by unfold HasL at h ⊢; exact h
 | xs, d :: ds, h => by
   unfold HasL at h ⊢
   obtain ⟨x, r, h1, h2, h3⟩ := h
   exact ⟨x, r, h1, Has.same e h2, HasL.same e h3⟩
end
theorem HasL.length {H : Hp} : ∀ {xs : List V} {ds : List PyData}, HasL H xs ds → xs.length = ds.length
 | xs, [], h => by unfold HasL at h; subst h; rfl
 | xs, d :: ds, h => by
   unfold HasL at h
   obtain ⟨x, r, rfl, h2, h3⟩ := h
   simp [HasL.length h3]
theorem HasL.get {H : Hp} : ∀ {xs : List V} {ds : List PyData} {i : Nat} {d : PyData}, HasL H xs ds → ds[i]? = some d → ∃ x, xs[i]? = some x ∧ Has H x d
 | xs, [], i, d, h, e => by simp at e
 | xs, d' :: ds, 0, d, h, e => by
   unfold HasL at h
   obtain ⟨x, r, rfl, h2, h3⟩ := h
   simp at e; subst e
   exact ⟨x, rfl, h2⟩
 | xs, d' :: ds, i + 1, d, h, e => by
   unfold HasL at h
   obtain ⟨x, r, rfl, h2, h3⟩ := h
   obtain ⟨y, h4, h5⟩ := HasL.get (i := i) h3 (by simpa using e)
   exact ⟨y, by simpa using h4, h5⟩
theorem HasL.append {H : Hp} : ∀ {xs ys : List V} {ds es : List PyData}, HasL H xs ds → HasL H ys es → HasL H (xs ++ ys) (ds ++ es)
 | xs, ys, [], es, h, h' => by unfold HasL at h; subst h; simpa using h'
 | xs, ys, d :: ds, es, h, h' => by
   unfold HasL at h
   obtain ⟨x, r, rfl, h2, h3⟩ := h
   show HasL H (x :: (r ++ ys)) (d :: (ds ++ es))
   unfold HasL
   exact ⟨x, r ++ ys, rfl, h2, HasL.append h3 h'⟩
theorem Mz {H : Hp} : HasL H [] [] := by unfold HasL; rfl
theorem zV {H : Hp} {x : V} {xs : List V} {d : PyData} {ds : List PyData} (h : Has H x d) (t : HasL H xs ds) : HasL H (x :: xs) (d :: ds) := by unfold HasL; exact ⟨x, xs, rfl, h, t⟩
theorem has_none {H : Hp} : Has H .non .none := by unfold Has; rfl
theorem JD {H : Hp} (i : Int) : Has H (.int i) (.int i) := by unfold Has; rfl
theorem has_str {H : Hp} (x : Str) : Has H (.str x) (.str x) := by unfold Has; rfl
theorem Yw {H : Hp} {a : Addr} {xs : List V} {ds : List PyData} (h : H a = some (.lst xs)) (t : HasL H xs ds) : Has H (.ref a) (.list ds) := by unfold Has; exact ⟨a, xs, rfl, h, t⟩
theorem has_tup {H : Hp} {a : Addr} {xs : List V} {ds : List PyData} (h : H a = some (.tup xs)) (t : HasL H xs ds) : Has H (.ref a) (.tuple ds) := by unfold Has; exact ⟨a, xs, rfl, h, t⟩
section
variable {X : Cx} {pins : List (Addr × Obj)} {σ : St} {H : Hp} {s : Shared}
mutual
theorem yYJ (I : Inv X pins σ H s) : ∀ {v : V} {d : PyData} {u : Value}, Has H v d → RelV v u → ∃ as, Reads s.heap u d as
 | v, .none, u, h, r => by unfold Has at h; subst h; cases (show u = Value.none from r); exact ⟨_, .none⟩
 | v, .bool b, u, h, r => by unfold Has at h; subst h; cases (show u = Value.bool b from r); exact ⟨_, .bool b⟩
 | v, .int i, u, h, r => by unfold Has at h; subst h; obtain ⟨t, rfl⟩ := r; exact ⟨_, .int i t⟩
 | v, .str x, u, h, r => by unfold Has at h; subst h; obtain ⟨t, rfl⟩ := r; exact ⟨_, .str x t⟩
 | v, .list ds, u, h, r => by
   unfold Has at h
   obtain ⟨a, xs, rfl, h2, h3⟩ := h
   cases (show u = Value.ref a from r)
   obtain ⟨z, its, n, rv, e⟩ := (show ObjOk X.prog X.w H s.heap a (.lst xs) from I.hok a _ h2)
   obtain ⟨as, ra⟩ := zUY I h3 rv
   exact ⟨_, .list e rfl rfl (by simpa using ra)⟩
 | v, .tuple ds, u, h, r => by
   unfold Has at h
   obtain ⟨a, xs, rfl, h2, h3⟩ := h
   cases (show u = Value.ref a from r)
   obtain ⟨z, its, rv, p⟩ := (show ObjOk X.prog X.w H s.heap a (.tup xs) from I.hok a _ h2)
   obtain ⟨o, e, c, n, d⟩ := p
   obtain ⟨as, ra⟩ := zUY I h3 rv
   exact ⟨_, .tuple e c d (by simpa using ra)⟩
 | v, .dict kvs, u, h, r => by unfold Has at h; exact h.elim
theorem zUY (I : Inv X pins σ H s) : ∀ {xs : List V} {ds : List PyData} {us : List Value}, HasL H xs ds → Vals xs us → ∃ as, ReadsAll s.heap us ds as
 | xs, [], us, h, r => by
   unfold HasL at h
   subst h
   cases Vals.zero r
   exact ⟨_, .nil⟩
 | xs, d :: ds, us, h, r => by
   unfold HasL at h
   obtain ⟨x, rr, rfl, h2, h3⟩ := h
   cases r with
   | cons r1 r2 =>
     obtain ⟨as, a1⟩ := yYJ I h2 r1
     obtain ⟨bs, a2⟩ := zUY I h3 r2
     exact ⟨_, .cons a1 a2⟩
end
def rEqD : R2 := fun x y H Q => ∃ d e, Has H x d ∧ Has H y e ∧ SeqAt.shaped d = true ∧ SeqAt.shaped e = true ∧ Q (.bl (PyData.eqv d e)) H
def rNeD : R2 := fun x y H Q => ∃ d e, Has H x d ∧ Has H y e ∧ SeqAt.shaped d = true ∧ SeqAt.shaped e = true ∧ Q (.bl (!PyData.eqv d e)) H
theorem op_eqD (hu : X.A.units + 64 < cLine) : OpR X (compareOp .Eq) rEqD := by
 rintro pins s σ H x y v u Q I rx ry ⟨d, e, h1, h2, s1, s2, q⟩
 obtain ⟨as, r1⟩ := yYJ I h1 rx
 obtain ⟨bs, r2⟩ := yYJ I h2 ry
 exact eq_dataH r1 r2 s1 s2 hu ⟨.bl _, H, I, rfl, q⟩
theorem vYQ (hu : X.A.units + 64 < cLine) : OpR X (compareOp .NotEq) rNeD := by
 rintro pins s σ H x y v u Q I rx ry ⟨d, e, h1, h2, s1, s2, q⟩
 obtain ⟨as, r1⟩ := yYJ I h1 rx
 obtain ⟨bs, r2⟩ := yYJ I h2 ry
 exact ne_dataH r1 r2 s1 s2 hu ⟨.bl _, H, I, rfl, q⟩
end
structure Callee (P : Program) (w : World) (K : W.Frag) (mg : Str → Option Value) (base : Heap) (k : Nat) (x : Str) (ps : List Str) (sp : Sp) : Prop where
 ex : ∃ f fd, FnOk P w K mg base CX0 k f fd ps sp ∧ mg x = some (.ref f) ∧ W.keepIn K (.ref f) = true ∧ Binds K fd ps []
section
variable {X : Cx} {k : Nat} {x : Str} {ps : List Str} {sp : Sp} {e : Expr} {es : List Expr} {t : TA} {p pos : Pos}
theorem pe_fn (C : Callee X.prog X.w X.K X.mg X.base k x ps sp) (hr : Room k X.A) (ha : PA X (e :: es) t) (hg : Gl X x := by rfl) (hdb : (x == ("__debug__" : Str)) = false := by decide)
   (he : starEach (e :: es) X.env = (false, eval e X.env) :: starEach es X.env := by rfl) (hpl : (backTo pos (starEach es X.env)).any (·.1) = false := by rfl) :
   PE X (.Call (.Name x p) (e :: es) [] pos) (tCall sp [] E0 t) := by
 obtain ⟨f, fd, F, hm, hk, hb⟩ := C.ex
 exact pe_call F hr hg hm hk hb .nil pass0 ha hdb he hpl
theorem pe_fn0 (C : Callee X.prog X.w X.K X.mg X.base k x ps sp) (hr : Room k X.A) (hg : Gl X x := by rfl) (hdb : (x == ("__debug__" : Str)) = false := by decide) :
   PE X (.Call (.Name x p) [] [] pos) (tCall sp [] E0 tNil) := by
 obtain ⟨f, fd, F, hm, hk, hb⟩ := C.ex
 exact pe_call0 F hr hg hm hk hb .nil pass0 hdb
end
def visB (o : Option NameKind) : Bool := o == some .local || o == some .cell || o == some .free
def compOk (osc : Scope) (ON : List Str) (scope : Scope) (N' : List Str) (ix : List (Option Nat)) : Bool :=
 scope.kind == .function && scope.names.all (fun y => y.2 != .cell) && scope.names.all (fun y => y.2 != .local || scope.names.lookup y.1 == some .local) &&
 scope.names.all (fun y => y.2 != .free || (osc.names.lookup y.1 == some .cell || osc.names.lookup y.1 == some .free)) &&
 scope.names.all (fun y => y.2 != .local || !(scope.names.any fun z => z.1 == y.1 && z.2 == .free)) && ix.length == N'.length &&
 (List.range ix.length).all fun i => match ix[i]? with
   | some (some j) => ON[j]? == N'[i]? && (match N'[i]? with | some x => (scope.names.any fun z => z.1 == x && z.2 == .free) && visB (osc.names.lookup x) | none => true)
   | _ => true
theorem cs_of {X : Cx} {osc : Scope} {ON : List Str} {scope : Scope} {N' : List Str} {ix : List (Option Nat)} (h1 : X.env.scope = osc) (h2 : X.N = ON) (h : compOk osc ON scope N' ix = true) : CompScope X scope N' ix := by
 unfold compOk at h
 simp only [Bool.and_eq_true] at h
 obtain ⟨⟨⟨⟨⟨⟨a1, a2⟩, a3⟩, a4⟩, a5⟩, a6⟩, a7⟩ := h
 rw [List.all_eq_true] at a2 a3 a4 a5 a7
 refine ⟨eq_of_beq a1, fun y hy => by simpa using a2 y hy, fun y hy hl => ?_, fun y hy hl => ?_, fun x h3 h4 => ?_, eq_of_beq a6, fun i j hij => ?_⟩
 · have := a3 y hy
   rw [hl] at this
   simpa using this
 · have := a4 y hy
   rw [hl] at this
   have e : X.env.kindOf y.1 = osc.names.lookup y.1 := by rw [← h1]; rfl
   rw [e]
   simpa using this
 · have := a5 _ h3
   simp only [bne_self_eq_false, Bool.false_or, Bool.not_eq_true'] at this
   rw [List.any_eq_false] at this
   have z := this _ h4
   simp at z
 · have hi : i < ix.length := (List.getElem?_eq_some_iff.mp hij).1
   have := a7 i (List.mem_range.mpr hi)
   rw [hij] at this
   simp only [Bool.and_eq_true] at this
   obtain ⟨b1, b2⟩ := this
   refine ⟨by rw [h2]; exact eq_of_beq b1, fun x hx => ?_⟩
   rw [hx] at b2
   simp only [Bool.and_eq_true] at b2
   obtain ⟨c1, c2⟩ := b2
   obtain ⟨z, hz, hz2⟩ := List.any_eq_true.mp c1
   simp only [Bool.and_eq_true, beq_iff_eq] at hz2
   obtain ⟨z1, z2⟩ := z
   obtain ⟨rfl, rfl⟩ := hz2
   refine ⟨hz, ?_⟩
   unfold visB at c2
   simp only [Bool.or_eq_true, beq_iff_eq] at c2
   unfold Vis
   rw [h1]
   rcases c2 with (c2 | c2) | c2
   · exact .inl c2
   · exact .inr (.inl c2)
   · exact .inr (.inr c2)
theorem Same.new {H : Hp} {p : Addr} {o : HO} (h : H p = none) : Same H (upd H p o) := fun b u e => by rw [qY (qB e h)]; exact e
theorem Same.tup {K : W.Frag} {H H' : Hp} (e : Same H H') {a : Addr} {xs : List V} (h : SqT K H a xs) : SqT K H' a xs := by
 rcases h with (h | ⟨o, h⟩) | h
 · exact .inl (.inl (e _ _ h))
 · exact .inl (.inr ⟨o, e _ _ h⟩)
 · exact .inr h
theorem SqT.ofT {K : W.Frag} {H : Hp} {a : Addr} {xs : List V} (h : H a = some (.tup xs)) : SqT K H a xs := .inl (.inl h)
theorem SqL.ofL {K : W.Frag} {H : Hp} {a : Addr} {xs : List V} (h : H a = some (.lst xs)) : SqL K H a xs := .inl (.inl h)
theorem rd_yes {σ : St} {H : Hp} {Q : Bool → Hp → Prop} (h : Q true H) : tYes σ H Q := h
theorem Qv {i : Nat} {v : V} {σ : St} {H : Hp} {Q : St → Hp → Prop} (h : Q (σ.set i (some v)) H) : gName i v σ H Q := h
end L2
namespace L2
open PySem PySem.Spec PyProof.Rows
section
variable {X : Cx}
def rEq0 (K : W.Frag) : R2 := fun x y H Q => ∃ a b xs, x = .ref a ∧ y = .ref b ∧ SqL K H a xs ∧ SqL K H b [] ∧ Q (.bl xs.isEmpty) H
def rNe0 (K : W.Frag) : R2 := fun x y H Q => ∃ a b xs, x = .ref a ∧ y = .ref b ∧ SqL K H a xs ∧ SqL K H b [] ∧ Q (.bl (!xs.isEmpty)) H
theorem op_eq0 (hu : X.A.units < cLine) : OpR X (compareOp .Eq) (rEq0 X.K) := by
 rintro pins s σ H x y v u Q I rx ry ⟨a, b, xs, rfl, rfl, ha, hb, q⟩
 cases rx; cases ry
 obtain ⟨its, r1, p1, _⟩ := I.list ha
 obtain ⟨its2, r2, p2, _⟩ := I.list hb
 cases Vals.zero r2
 by_cases h : xs = []
 · subst h
   cases Vals.zero r1
   exact SeqAt.RcAt.lists (e := fun _ => true) p1.isList p2.isList rfl hu (fun j h1 _ => absurd h1 (by simp)) _ _ _ _ ⟨.bl true, H, I, rfl, q⟩
 · have e : xs.isEmpty = false := by simpa using h
   rw [e] at q
   have hl := r1.length
   refine SeqAt.RcAt.lists_lengths p1.isList p2.isList ?_ hu _ _ _ _ ⟨.bl false, H, I, rfl, q⟩
   have : xs.length ≠ 0 := fun z => h (List.length_eq_zero_iff.mp z)
   simp; intro z; subst z; simp at hl; exact this (by simpa using hl)
theorem op_ne0 (hu : X.A.units < cLine) : OpR X (compareOp .NotEq) (rNe0 X.K) := by
 rintro pins s σ H x y v u Q I rx ry ⟨a, b, xs, rfl, rfl, ha, hb, q⟩
 cases rx; cases ry
 obtain ⟨its, r1, p1, _⟩ := I.list ha
 obtain ⟨its2, r2, p2, _⟩ := I.list hb
 cases Vals.zero r2
 by_cases h : xs = []
 · subst h
   cases Vals.zero r1
   exact SeqAt.RcNeAt.lists (e := fun _ => true) p1.isList p2.isList rfl hu (fun j h1 _ => absurd h1 (by simp)) _ _ _ _ ⟨.bl false, H, I, rfl, q⟩
 · have e : xs.isEmpty = false := by simpa using h
   rw [e] at q
   have hl := r1.length
   refine SeqAt.RcNeAt.lists_lengths p1.isList p2.isList ?_ hu _ _ _ _ ⟨.bl true, H, I, rfl, q⟩
   have : xs.length ≠ 0 := fun z => h (List.length_eq_zero_iff.mp z)
   simp; intro z; subst z; simp at hl; exact this (by simpa using hl)
end
end L2
namespace L2
open PySem PySem.Spec PyProof.Rows
def plainE : Expr → Bool
 | .Starred _ _ => false
 | _ => true
theorem zVQ {e : Expr} {es : List Expr} {env : Env} (h : plainE e = true) : starEach (e :: es) env = (false, eval e env) :: starEach es env := by
 cases e <;> first | rfl | (exact absurd (show false = true from h) Bool.false_ne_true)
structure PAs (X : Cx) (es : List Expr) (t : TA) : Prop where
 pa : PA X es t
 st : ∀ env, starEach es env = es.map fun e => (false, eval e env)
section
variable {X : Cx} {e : Expr} {es : List Expr} {te : TE} {t : TA} {pos p : Pos} {x : Str} {k : Nat} {ps : List Str} {sp : Sp} {id T : String} {r : List V → Hp → VK → Prop}
theorem as_nil : PAs X [] tNil := ⟨YB, fun _ => rfl⟩
theorem qM (ha : PE X e te) (hr : PAs X es t) (hp : plainE e = true := by rfl) : PAs X (e :: es) (tCons te t) :=
 ⟨zq ha hr.pa (zVQ hp), fun env => by rw [zVQ hp, hr.st]; rfl⟩
theorem Mw (pos : Pos) (env : Env) : ∀ es : List Expr, (backTo pos (es.map fun e => (false, eval e env))).any (·.1) = false
 | [] => rfl
 | e :: es => by
   show (false || (backTo pos (es.map fun e => (false, eval e env))).any (·.1)) = false
   rw [Mw pos env es]; rfl
theorem PAs.he (h : PAs X (e :: es) t) (ht : ∀ env, starEach es env = es.map fun e => (false, eval e env)) : starEach (e :: es) X.env = (false, eval e X.env) :: starEach es X.env := by
 rw [h.st, ht]; rfl
structure PAt (X : Cx) (e : Expr) (es : List Expr) (t : TA) : Prop where
 all : PAs X (e :: es) t
 tl : ∀ env, starEach es env = es.map fun e => (false, eval e env)
theorem qU (ha : PE X e te) (hr : PAs X es t) (hp : plainE e = true := by rfl) : PAt X e es (tCons te t) := ⟨qM ha hr hp, hr.st⟩
theorem vw (h : PAs X es t) : PE X (.List es pos) (tLst t) := pe_lst h.pa
theorem Zz {x1} (h : PAs X es t) : PE X (.Tuple es x1 pos) (tTup t) := pe_tup h.pa
theorem zB (C : Callee X.prog X.w X.K X.mg X.base k x ps sp) (hr : Room k X.A) (ha : PAt X e es t) (hg : Gl X x := by rfl) (hdb : (x == ("__debug__" : Str)) = false := by decide) :
   PE X (.Call (.Name x p) (e :: es) [] pos) (tCall sp [] E0 t) := pe_fn C hr ha.all.pa hg hdb (ha.all.he ha.tl) (by rw [ha.tl]; exact Mw _ _ _)
theorem yJ (hc : Jv X (.builtin id) r) (hg : Gl X x) (hm : X.mg x = none) (hv : bootBuiltins x = some (.builtin id)) (ha : PAt X e es t) (hn : x ≠ "__name__" := by decide) (hdb : (x == ("__debug__" : Str)) = false := by decide) :
   PE X (.Call (.Name x p) (e :: es) [] pos) (tCB r t) := pe_callB hc hg hm hv ha.all.pa hn hdb (ha.all.he ha.tl) (by rw [ha.tl]; exact Mw _ _ _)
theorem yZY (hc : Jv X (.type T) r) (hg : Gl X x) (hm : X.mg x = none) (hv : bootBuiltins x = some (.type T)) (ha : PAt X e es t) (hn : x ≠ "__name__" := by decide) (hdb : (x == ("__debug__" : Str)) = false := by decide) :
   PE X (.Call (.Name x p) (e :: es) [] pos) (tCB r t) := pe_callTy hc hg hm hv ha.all.pa hn hdb (ha.all.he ha.tl) (by rw [ha.tl]; exact Mw _ _ _)
end
section
variable {X : Cx} {e a : Expr} {te : TE} {tg : Expr} (K : W.Frag)
theorem MD (h : X.K = K := by rfl) : SlR X (rSlL K) := h ▸ sl_list
theorem vVZ (h : X.K = K := by rfl) : IxR X (rIxL K) := h ▸ ix_list
theorem UM (h : X.K = K := by rfl) : IxR X (rIxT K) := h ▸ ix_tup
theorem k_in_seq (h : X.K = K := by rfl) : OpR X (compareOp .In) (rIn K false) := h ▸ op_in_seq
theorem vU (h : X.K = K := by rfl) : Jv X (.builtin "len") (fun xs H Q => ∃ p ys, xs = [.ref p] ∧ (SqL K H p ys ∨ SqT K H p ys) ∧ Q (.int ys.length) H) := h ▸ call_len_seq
theorem vVY (h : X.K = K := by rfl) : Jv X (.type "list") (fun xs H Q => ∃ p ys, xs = [.ref p] ∧ (SqL K H p ys ∨ SqT K H p ys) ∧ ∀ l, H l = none → Q (.ref l) (upd H l (.lst ys))) := h ▸ call_list_of
theorem k_eq0 (hu : X.A.units < cLine) (h : X.K = K := by rfl) : OpR X (compareOp .Eq) (rEq0 K) := h ▸ op_eq0 hu
theorem k_ne0 (hu : X.A.units < cLine) (h : X.K = K := by rfl) : OpR X (compareOp .NotEq) (rNe0 K) := h ▸ op_ne0 hu
theorem YG (he : PE X e te) (h : X.K = K := by rfl) : PI X tg e (iList K te) := h ▸ pi_list he
theorem k_it_tup (he : PE X e te) (h : X.K = K := by rfl) : PI X tg e (iTup K te) := h ▸ pi_tup he
theorem vJ {f : Str} {pos : Pos} (he : PE X e te) (hb : attributeBase e f X.env (eval e X.env) = eval e X.env) (h : X.K = K := by rfl) : PE X (.Attribute e f pos) (tFld K te f) := h ▸ pe_fld he hb
theorem k_bm {o : Expr} {es : List Expr} {to : TE} {t : TA} {name : Str} {apos cpos : Pos} {T id : String} {r : V → List V → Hp → VK → Prop} (pa : PlainAttrs T) (slot : Slot T name id) (hty : typeOf (.builtin id) = pure (.type "method_descriptor")) (hm : MtR X id r) (ho : PE X o to) (ha : PA X (e :: es) t) (h : X.K = K := by rfl)
   (hbase : attributeBase o name X.env (eval o X.env) = eval o X.env := by rfl)
   (hfew : ((backTo cpos (starEach (e :: es) X.env)).all (fun x => !x.1) && (backToKw cpos (keywordEach [] X.env)).all (fun x => x.1.isSome)
     && decide ((e :: es).length + ([] : List Keyword).length + (if ([] : List Keyword).isEmpty then 0 else 1) < 30)) = true := by rfl)
   (hline : (apos.endLine == cpos.line) = true := by rfl) (hs : starEach (e :: es) X.env = (false, eval e X.env) :: starEach es X.env := by rfl) (hplain : (backTo cpos (starEach es X.env)).any (·.1) = false := by rfl) :
   PE X (.Call (.Attribute o name apos) (e :: es) [] cpos) (tBM K T r to t) := h ▸ pe_bm pa slot hty hm ho ha hbase hfew hline hs hplain
end
end L2
namespace L2
open PySem PySem.Spec PyProof.Rows
section
variable {X : Cx} {pins : List (Addr × Obj)} {σ : St} {H : Hp} {s : Shared}
theorem Inv.track {D : Addr} {o : HO} (I : Inv X pins σ H s) (f : FpOk X pins H D) (ok : ObjOk X.prog X.w (upd H D o) s.heap D o) : Inv X pins σ (upd H D o) s := by
 obtain ⟨f0, f1, f2, f3, f4, f5⟩ := f
 have nt : ∀ b u, H b = some u → b ≠ D := fun b u e => qB e f0
 have r := I.step (H' := upd H D o) (h' := s.heap) (g' := s.gens) (d' := s.drawn) (t' := s.toks) (ch := [D]) (fun b hb => by
     obtain rfl : b = D := by simpa using hb
     exact ⟨f3, f1, f4, f5⟩) (fun b ob _ _ _ e _ => e) (fun b ob _ _ _ e _ => ⟨ob.slots, e⟩)
   (fun b ob hb _ n => by rw [qY (fun z => hb (by simp [z]))]; exact n) (fun b ob _ e => ⟨ob, e⟩) (fun b xs e => by rw [qY (nt b _ e)]; exact e) (fun b ob u e => by rw [qY (nt b _ e)]; exact e)
   (fun b ps e => ⟨#[], by rw [qY (nt b _ e), e]; simp⟩) (fun m hm => hm) (fun b u e => by
     by_cases hb : b = D
     · subst hb; rw [qQ] at e; cases e; exact ok
     · rw [qY hb] at e
       exact (I.hok b u e).stay (fun c v _ q => q) (fun c q => by rw [qY (nt c _ q)]; exact q) fun c xs q => by rw [qY (nt c _ q)]; exact q) I.bare
 exact r
end
end L2
namespace L2
open PySem PySem.Spec PyProof.Rows
def Coll (X : Cx) (x : V) (H : Hp) (xs : List V) : Prop :=
 ∀ (pins : List (Addr × Obj)) (s : Shared) (σ : St) (v : Value) (A : Around) (E : Value → Shared → Prop) (Q : List Value → Shared → Prop), Inv X pins σ H s → RelV x v → A.handled = none →
   (∀ vs s', Vals xs vs → Inv X pins σ H s' → Q vs s') → wpAny (model X.prog X.w) A (collect v) Q E s
section
variable {X : Cx}
theorem coll_list {a : Addr} {H : Hp} {xs : List V} (h : SqL X.K H a xs) : Coll X (.ref a) H xs := by
 intro pins s σ v A E Q I r hh hq
 cases r
 obtain ⟨its, rv, pl, hz⟩ := I.list h
 refine collect_list pl.isList (hq its _ rv ?_) (by rw [← rv.length]; exact hz)
 refine I.kept (t' := s.toks) fun b o e => ?_
 have hb : b ≠ s.heap.objs.size := Nat.ne_of_lt (Heap.lt_size e)
 exact (Heap.get?_update_other _ _ (Ne.symm hb)).trans (Heap.get?_push_of_some _ e)
def qZZ (p d : Addr) : HO := .ext fun h => h.IsValuesView p d
def rValues : V → List V → Hp → VK → Prop := fun x vs H Q => ∃ d kvs, x = .ref d ∧ vs = [] ∧ H d = some (.dK kvs) ∧ ∀ p, H p = none → Q (.ref p) (upd H p (qZZ p d))
theorem mt_values : MtM X "dict.values" rValues := by
 intro pins s σ H x vs v us Q I rx rv h
 obtain ⟨d, kvs, rfl, rfl, hd, q⟩ := h
 cases rx
 cases Vals.zero rv
 obtain ⟨hz, lo, ws, rk, hD⟩ := (show ObjOk X.prog X.w H s.heap d (.dK kvs) from I.hok d _ hd)
 refine call_meetsIn PySem.F.slot_dict_values hD.typeIs PySem.F.entry_dict_values (PySem.F.args_dict_values_1 _) (meets_dict_values (vB X.prog X.w) d lo) ⟨⟨ws, hD⟩, ?_⟩
 refine ⟨.ref s.heap.objs.size, _, I.laid (t' := s.toks) (o := qZZ s.heap.objs.size d) (fun b u e => Heap.get?_push_of_some _ e) (Nat.le_refl _) ?_, rfl, q _ (I.hok.fresh (Nat.le_refl _))⟩
 have e : (s.heap.push { cls := .type "dict_values", data := .fields #[.ref d] }).get? s.heap.objs.size = some { cls := .type "dict_values", data := .fields #[.ref d] } := Heap.get?_push_size _ rfl
 exact ⟨⟨_, e, rfl, rfl⟩, ⟨_, e⟩, fun h1 h2 ⟨o, e1, c, dd⟩ k => ⟨o, k o e1, c, dd⟩⟩
theorem kv_vals : ∀ {kvs : List (Key × V)} {ws : List (Key × Value)}, KV kvs ws → Vals (kvs.map (·.2)) (ws.map (·.2))
 | _, _, .nil => .nil
 | _, _, .cons r t => .cons r.2 (kv_vals t)
theorem view_at {pins : List (Addr × Obj)} {σ : St} {H : Hp} {s : Shared} {p d : Addr} {kvs : List (Key × V)} (I : Inv X pins σ H s) (hp : H p = some (qZZ p d)) (hd : H d = some (.dK kvs)) :
   ∃ ws ep, KV kvs ws ∧ kvs.length ≤ sizeLine ∧ s.heap.IsValuesView p d ∧ s.heap.DictAt (vB X.prog X.w) d ws ep := by
 obtain ⟨hz, lo, ws, rk, hD⟩ := (show ObjOk X.prog X.w H s.heap d (.dK kvs) from I.hok d _ hd)
 obtain ⟨hv, _, _⟩ := (show ObjOk X.prog X.w H s.heap p (qZZ p d) from I.hok p _ hp)
 obtain ⟨ep, hat⟩ := hD.dictAt
 exact ⟨ws, ep, rk, hz, hv, hat⟩
theorem items_vals {ws : List (Key × Value)} {acc : Array Value} (h : ItemsOf (fun i v => ∃ k, ws[i]? = some (k, v)) acc ws.length) : acc.toList = ws.map (·.2) :=
 W.kdl_vals_eq acc.toList (by rw [Array.length_toList]; exact h.1) fun j v e => h.2 j v (by rw [← Array.getElem?_toList]; exact e)
theorem coll_vals {p d : Addr} {H : Hp} {kvs : List (Key × V)} (hp : H p = some (qZZ p d)) (hd : H d = some (.dK kvs)) : Coll X (.ref p) H (kvs.map (·.2)) := by
 intro pins s σ v A E Q I r hh hq
 cases r
 obtain ⟨ws, ep, rk, hz, hv, hat⟩ := view_at I hp hd
 have hl : kvs.length = ws.length := Paired.length rk
 have kp : ∀ b o, s.heap.get? b = some o → (s.heap.push (seqObj "list" #[] 0)).get? b = some o := fun b o e => Heap.get?_push_of_some _ e
 have hv' : (s.heap.push (seqObj "list" #[] 0)).IsValuesView p d := let ⟨o, e, x⟩ := hv; ⟨o, kp _ _ e, x⟩
 have hat' : (s.heap.push (seqObj "list" #[] 0)).DictAt (vB X.prog X.w) d ws ep := hat.at' fun o e => kp _ _ e
 have lp : p < s.heap.objs.size := let ⟨o, e, _⟩ := hv; Heap.lt_size e
 have ld : d < s.heap.objs.size := hat.lt_size
 unfold collect
 refine wpAny_bind (wpAny_runValue (codeAny_builtin entry_proto_collect' ?_))
 show wpAny _ _ (do again (.builtin "list.__iadd__" ⟨[← newList [], .ref p], []⟩)) _ _ s
 refine wpAny_bind (wpAny_newList (wpAny_pure ⟨Code.quiet_builtin _ (by decide +kernel), codeAny_builtin entry_list_iadd' ?_⟩))
 show wpAny _ _ (Builtin.List.listExtendWith (.ref s.heap.objs.size) (.ref p) (.ref s.heap.objs.size)) _ _ { s with heap := s.heap.push (seqObj "list" #[] 0) }
 rw [Around.under_plainId (show plainId "list.__iadd__" = true by decide +kernel) _]
 have fin : ∀ s' : Shared, (∃ acc c, s'.heap.get? s.heap.objs.size = some { cls := .type "list", dict := none, data := .seq acc c, slots := #[] } ∧ acc.toList = ws.map (·.2) ∧ Inv X pins σ H s') →
     wpAny (model X.prog X.w) A (do
       let o ← load s.heap.objs.size
       match o.data with
       | .seq xs _ => pure xs.toList
       | _ => unsupported "internal:collect") Q E s' := by
   rintro s' ⟨acc, c, hS, e, I'⟩
   refine wpAny_bind (wpAny_load hS ?_)
   show wpAny _ _ (pure acc.toList) Q E _
   exact wpAny_pure (hq _ _ (by rw [e]; exact kv_vals rk) I')
 refine wpAny_mono (W.kdl_extend (R := fun r s' => r = .ok (.ret (.ref s.heap.objs.size)) ∧ ∃ acc c, s'.heap.get? s.heap.objs.size = some { cls := .type "list", dict := none, data := .seq acc c, slots := #[] } ∧ acc.toList = ws.map (·.2) ∧ Inv X pins σ H s')
   (s := { s with heap := s.heap.push (seqObj "list" #[] 0) }) (W.kdl_values (knd := vB X.prog X.w) (kvs := ws) (ep := ep)) hh ⟨hv', hat'⟩ s.heap.objs.size (Nat.ne_of_gt lp) (Nat.ne_of_gt ld) _ 0 (Heap.get?_push_size _ rfl) (fun h' tk acc c hk hS hacc => ?_) (show ws.length ≤ sizeLine by omega))
   (fun fi s' hf => ?_) (fun e s' he => nomatch he.1)
 · exact ⟨rfl, acc, c, hS, items_vals hacc, I.kept fun b o eb => hk b o (Nat.ne_of_lt (Heap.lt_size eb)) (kp b o eb)⟩
 · cases fi with
   | done f =>
     obtain ⟨e, g⟩ := hf
     cases e
     exact fin s' g
   | again c' =>
     refine ⟨hf.1, codeAny_mono hf.2 fun r s2 ⟨e, g⟩ => ?_⟩
     subst e
     exact fin s2 g
end
def yJQ (i : Nat) : Sp := fun vs H Q _ => ∃ a x y z, vs = [.ref a] ∧ H a = some (.tup [x, y, z]) ∧ Q ([x, y, z].getD i .non) H
def CollV (K : W.Frag) (x : V) (H : Hp) (xs : List V) : Prop :=
 (∃ a, x = .ref a ∧ SqL K H a xs) ∨ ∃ p d kvs, x = .ref p ∧ H p = some (qZZ p d) ∧ H d = some (.dK kvs) ∧ xs = kvs.map (·.2)
theorem CollV.coll {X : Cx} {x : V} {H : Hp} {xs : List V} (h : CollV X.K x H xs) : Coll X x H xs := by
 rcases h with ⟨a, rfl, h⟩ | ⟨p, d, kvs, rfl, hp, hd, rfl⟩
 · exact coll_list h
 · exact coll_vals hp hd
theorem Vals.back : ∀ {xs : List V} {vs : List Value} {i : Nat} {v : Value}, Vals xs vs → vs[i]? = some v → ∃ x, xs[i]? = some x ∧ RelV x v
 | _, _, _, _, .nil, e => by simp at e
 | _, _, 0, _, .cons r _, e => by simp at e; subst e; exact ⟨_, rfl, r⟩
 | _, _, i + 1, v, .cons _ t, e => by
   obtain ⟨u, h1, h2⟩ := Vals.back (i := i) (v := v) t (by simpa using e)
   exact ⟨u, by simpa using h1, h2⟩
end L2
namespace L2
open PySem
structure Msg where
 n : Int
 t : Str
 x : Str
deriving DecidableEq
def Rise (l : List Msg) : Prop := l.Pairwise fun p q => p.n < q.n
theorem Rise.nil : Rise [] := List.Pairwise.nil
theorem QYJ : ∀ {l r : List Msg}, Rise l → Rise r → (∀ m, m ∈ l ↔ m ∈ r) → l = r
 | [], [], _, _, _ => rfl
 | [], b :: r, _, _, h => absurd ((h b).mpr List.mem_cons_self) List.not_mem_nil
 | a :: l, [], _, _, h => absurd ((h a).mp List.mem_cons_self) List.not_mem_nil
 | a :: l, b :: r, h1, h2, h => by
   obtain ⟨a1, a2⟩ := List.pairwise_cons.mp h1
   obtain ⟨b1, b2⟩ := List.pairwise_cons.mp h2
   have e : a = b := by
     rcases List.mem_cons.mp ((h a).mp List.mem_cons_self) with e | e
     · exact e
     · rcases List.mem_cons.mp ((h b).mpr List.mem_cons_self) with e' | e'
       · exact e'.symm
       · have := a1 b e'; have := b1 a e; omega
   subst e
   refine congrArg (a :: ·) (QYJ a2 b2 fun m => ⟨fun hm => ?_, fun hm => ?_⟩)
   · rcases List.mem_cons.mp ((h m).mp (List.mem_cons_of_mem _ hm)) with e | e
     · subst e; have := a1 m hm; omega
     · exact e
   · rcases List.mem_cons.mp ((h m).mpr (List.mem_cons_of_mem _ hm)) with e | e
     · subst e; have := b1 m hm; omega
     · exact e
def Top (ms : List Msg) (m : Msg) : Prop := m ∈ ms ∧ ∀ k ∈ ms, k.t = m.t → k.n ≤ m.n
def Lasts (ms ls : List Msg) : Prop := Rise ls ∧ ∀ m, m ∈ ls ↔ Top ms m
theorem Top.perm {ms ms' : List Msg} {m : Msg} (h : ms.Perm ms') : Top ms m ↔ Top ms' m :=
 ⟨fun ⟨a, b⟩ => ⟨h.mem_iff.mp a, fun k hk => b k (h.mem_iff.mpr hk)⟩, fun ⟨a, b⟩ => ⟨h.mem_iff.mpr a, fun k hk => b k (h.mem_iff.mp hk)⟩⟩
theorem Lasts.perm {ms ms' ls : List Msg} (h : ms.Perm ms') (l : Lasts ms ls) : Lasts ms' ls := ⟨l.1, fun m => (l.2 m).trans (Top.perm h)⟩
theorem Lasts.uniq {ms l r : List Msg} (h1 : Lasts ms l) (h2 : Lasts ms r) : l = r := QYJ h1.1 h2.1 fun m => (h1.2 m).trans (h2.2 m).symm
def Diff (ms : List Msg) : Prop := (ms.map (·.n)).Nodup
theorem Rise.diff {l : List Msg} (h : Rise l) : Diff l := by
 unfold Diff List.Nodup
 rw [List.pairwise_map]
 exact h.imp fun hlt => Int.ne_of_lt hlt
theorem Diff.perm {l r : List Msg} (h : l.Perm r) (d : Diff l) : Diff r := (h.map _).nodup_iff.mp d
theorem Diff.eq : ∀ {ms : List Msg}, Diff ms → ∀ {a b : Msg}, a ∈ ms → b ∈ ms → a.n = b.n → a = b
 | [], _, a, b, ha, _, _ => absurd ha List.not_mem_nil
 | m :: ms, d, a, b, ha, hb, e => by
   unfold Diff at d
   rw [List.map_cons, List.nodup_cons] at d
   rcases List.mem_cons.mp ha with h1 | h1 <;> rcases List.mem_cons.mp hb with h2 | h2
   · rw [h1, h2]
   · exact absurd (List.mem_map.mpr ⟨b, h2, by rw [← e, h1]⟩) d.1
   · exact absurd (List.mem_map.mpr ⟨a, h1, by rw [e, h2]⟩) d.1
   · exact Diff.eq d.2 h1 h2 e
section
variable {α β : Type}
def putD (D : List (Str × α)) (t : Str) (d : α) : List (Str × α) := if D.any (fun p => decide (p.1 = t)) = true then D.map fun p => if p.1 = t then (p.1, d) else p else D ++ [(t, d)]
theorem len_putD (D : List (Str × α)) (t : Str) (d : α) : (putD D t d).length ≤ D.length + 1 := by
 unfold putD
 split
 · rw [List.length_map]; omega
 · rw [List.length_append]; exact Nat.le_refl _
def puts (D : List (Str × α)) (l : List (Str × α)) : List (Str × α) := l.foldl (fun D p => putD D p.1 p.2) D
theorem puts_snoc (D l : List (Str × α)) (p : Str × α) : puts D (l ++ [p]) = putD (puts D l) p.1 p.2 := by unfold puts; rw [List.foldl_append]; rfl
theorem len_puts : ∀ (l D : List (Str × α)), (puts D l).length ≤ D.length + l.length
 | [], D => by show D.length ≤ _; omega
 | p :: l, D => by
   have h1 := len_puts l (putD D p.1 p.2)
   have h2 := len_putD D p.1 p.2
   show (puts (putD D p.1 p.2) l).length ≤ _
   rw [List.length_cons]; omega
end
def kM (m : Msg) : Str × Msg := (m.t, m)
def Zq (ms : List Msg) : List (Str × Msg) := puts [] (ms.map kM)
theorem newest_snoc (ms : List Msg) (m : Msg) : Zq (ms ++ [m]) = putD (Zq ms) m.t m := by unfold Zq; rw [List.map_append, List.map_singleton, puts_snoc]; rfl
theorem newest_len (ms : List Msg) : (Zq ms).length ≤ ms.length := by
 have := len_puts (ms.map kM) []
 rw [List.length_map] at this
 simpa [Zq] using this
end L2
namespace L2
open PySem PySem.Spec PyProof.Rows PySem.W
section
variable {X : Cx}
theorem k_bm0 (K : W.Frag) {o : Expr} {to : TE} {name : Str} {apos cpos : Pos} {T id : String} {r : V → List V → Hp → VK → Prop} (pa : PlainAttrs T) (slot : Slot T name id) (hty : typeOf (.builtin id) = pure (.type "method_descriptor")) (hm : MtR X id r) (ho : PE X o to) (h : X.K = K := by rfl)
   (hbase : attributeBase o name X.env (eval o X.env) = eval o X.env := by rfl) (hline : (apos.endLine == cpos.line) = true := by rfl) : PE X (.Call (.Attribute o name apos) [] [] cpos) (tBM0 K T r to) := h ▸ pe_bm0 pa slot hty hm ho hbase hline
end
def mD (m : Msg) : PyData := .tuple [.int m.n, .str m.t, .str m.x]
def mT (m : Msg) : HO := .tup [.int m.n, .str m.t, .str m.x]
def mOk (m : Msg) : Prop := PyData.strOk m.t = true ∧ PyData.strOk m.x = true
theorem has_msg {H : Hp} {v : V} {m : Msg} (h : Has H v (mD m)) : ∃ c, v = .ref c ∧ H c = some (mT m) := by
 unfold mD Has at h
 obtain ⟨a, xs, rfl, h1, h2⟩ := h
 unfold HasL at h2
 obtain ⟨x1, r1, rfl, e1, h2⟩ := h2
 unfold HasL at h2
 obtain ⟨x2, r2, rfl, e2, h2⟩ := h2
 unfold HasL at h2
 obtain ⟨x3, r3, rfl, e3, h2⟩ := h2
 unfold HasL at h2
 subst h2
 unfold Has at e1 e2 e3
 subst e1 e2 e3
 exact ⟨a, rfl, h1⟩
theorem Mv {H : Hp} {c : Addr} {m : Msg} (h : H c = some (mT m)) : Has H (.ref c) (mD m) := has_tup h (zV (JD _) (zV (has_str _) (zV (has_str _) Mz)))
def Ms (H : Hp) (xs : List V) (ms : List Msg) : Prop := HasL H xs (ms.map mD)
theorem Ms.same {H H' : Hp} {xs : List V} {ms : List Msg} (h : Ms H xs ms) (e : Same H H') : Ms H' xs ms := HasL.same e h
theorem Ms.nil {H : Hp} : Ms H [] [] := Mz
theorem Ms.len {H : Hp} {xs : List V} {ms : List Msg} (h : Ms H xs ms) : xs.length = ms.length := by have := HasL.length h; rw [List.length_map] at this; exact this
theorem Ms.append {H : Hp} {xs ys : List V} {ms ns : List Msg} (h : Ms H xs ms) (h' : Ms H ys ns) : Ms H (xs ++ ys) (ms ++ ns) := by unfold Ms; rw [List.map_append]; exact HasL.append h h'
theorem Ms.one {H : Hp} {c : Addr} {m : Msg} (h : H c = some (mT m)) : Ms H [.ref c] [m] := zV (Mv h) Mz
theorem Ms.get {H : Hp} {xs : List V} {ms : List Msg} (h : Ms H xs ms) {i : Nat} (hi : i < ms.length) : ∃ c, xs[i]? = some (.ref c) ∧ H c = some (mT ms[i]) := by
 obtain ⟨x, e, hx⟩ := HasL.get (i := i) (d := mD ms[i]) h (by rw [List.getElem?_map, List.getElem?_eq_getElem hi]; rfl)
 obtain ⟨c, rfl, hc⟩ := has_msg hx
 exact ⟨c, e, hc⟩
theorem Ms.cons_iff {H : Hp} {x : V} {xs : List V} {ms : List Msg} : Ms H (x :: xs) ms ↔ ∃ m r, ms = m :: r ∧ Has H x (mD m) ∧ Ms H xs r := by
 cases ms with
 | nil =>
   constructor
   · intro h; unfold Ms at h; rw [List.map_nil] at h; unfold HasL at h; exact absurd h (by simp)
   · rintro ⟨m, r, e, _⟩; exact absurd e (by simp)
 | cons m r =>
   constructor
   · intro h
     unfold Ms at h; rw [List.map_cons] at h; unfold HasL at h
     obtain ⟨x', r', e, h1, h2⟩ := h
     cases e
     exact ⟨m, r, rfl, h1, h2⟩
   · rintro ⟨m', r', e, h1, h2⟩
     cases e
     exact zV h1 h2
theorem Ms.head {H : Hp} {x : V} {xs : List V} {m : Msg} {r : List Msg} (h : Ms H (x :: xs) (m :: r)) : Has H x (mD m) ∧ Ms H xs r := by
 obtain ⟨m', r', e, h1, h2⟩ := Ms.cons_iff.mp h
 cases e
 exact ⟨h1, h2⟩
theorem Ms.take {H : Hp} : ∀ {xs : List V} {ms : List Msg} (n : Nat), Ms H xs ms → Ms H (xs.take n) (ms.take n)
 | [], [], n, h => by simpa using Ms.nil
 | [], m :: r, n, h => by have := h.len; simp at this
 | x :: xs, [], n, h => by have := h.len; simp at this
 | x :: xs, m :: r, 0, h => by simpa using Ms.nil
 | x :: xs, m :: r, n + 1, h => zV h.head.1 (Ms.take n h.head.2)
theorem Ms.drop {H : Hp} : ∀ {xs : List V} {ms : List Msg} (n : Nat), Ms H xs ms → Ms H (xs.drop n) (ms.drop n)
 | [], [], n, h => by simpa using Ms.nil
 | [], m :: r, n, h => by have := h.len; simp at this
 | x :: xs, [], n, h => by have := h.len; simp at this
 | x :: xs, m :: r, 0, h => h
 | x :: xs, m :: r, n + 1, h => Ms.drop n h.head.2
theorem lay_ms : ∀ {ms : List Msg}, (∀ m ∈ ms, mOk m) → PyData.canLayAll0 (ms.map mD) = true
 | [], _ => by simp [PyData.canLayAll0]
 | m :: r, h => by
   obtain ⟨h1, h2⟩ := h m List.mem_cons_self
   simp [PyData.canLayAll0, PyData.canLay0, mD, h1, h2, lay_ms fun k hk => h k (List.mem_cons_of_mem _ hk)]
theorem depth_ms : ∀ ms : List Msg, PyData.depthAll (ms.map mD) ≤ 3
 | [] => by simp [PyData.depthAll]
 | m :: r => by
   have := depth_ms r
   simp only [List.map_cons, PyData.depthAll, PyData.depth, mD]
   omega
theorem qVQ {ms : List Msg} (h : ∀ m ∈ ms, mOk m) : SeqAt.shaped (.list (ms.map mD)) = true := by
 have h1 := depth_ms ms
 have h2 : PyData.depth (.list (ms.map mD)) ≤ 64 := by simp only [PyData.depth]; omega
 show (PyData.canLay0 (.list (ms.map mD)) && decide (PyData.depth (.list (ms.map mD)) ≤ 64)) = true
 rw [Bool.and_eq_true]
 exact ⟨by simp only [PyData.canLay0]; exact lay_ms h, decide_eq_true h2⟩
theorem eqv_ms {ms : List Msg} (h : ∀ m ∈ ms, mOk m) : PyData.eqv (.list (ms.map mD)) (.list (ms.map mD)) = true :=
 SeqAt.eqv_refl _ (by simp only [PyData.canLay0]; exact lay_ms h)
theorem ne_ms {H : Hp} {a b : Addr} {xs ys : List V} {ms : List Msg} {Q : VK} (ha : H a = some (.lst xs)) (hx : Ms H xs ms) (hb : H b = some (.lst ys)) (hy : Ms H ys ms) (ok : ∀ m ∈ ms, mOk m) (q : Q (.bl false) H) : rNeD (.ref a) (.ref b) H Q := by
 refine ⟨_, _, Yw ha hx, Yw hb hy, qVQ ok, qVQ ok, ?_⟩
 rw [eqv_ms ok]; exact q
theorem eq_ms {H : Hp} {a b : Addr} {xs ys : List V} {ms : List Msg} {Q : VK} (ha : H a = some (.lst xs)) (hx : Ms H xs ms) (hb : H b = some (.lst ys)) (hy : Ms H ys ms) (ok : ∀ m ∈ ms, mOk m) (q : Q (.bl true) H) : rEqD (.ref a) (.ref b) H Q := by
 refine ⟨_, _, Yw ha hx, Yw hb hy, qVQ ok, qVQ ok, ?_⟩
 rw [eqv_ms ok]; exact q
inductive DM (H : Hp) : List (Key × V) → List (Str × Msg) → Prop
 | nil : DM H [] []
 | cons {t : Str} {v : V} {m : Msg} {r : List (Key × V)} {D : List (Str × Msg)} : Has H v (mD m) → DM H r D → DM H ((Sum.inr t, v) :: r) ((t, m) :: D)
theorem DM.same {H H' : Hp} (e : Same H H') : ∀ {kvs : List (Key × V)} {D : List (Str × Msg)}, DM H kvs D → DM H' kvs D
 | _, _, .nil => .nil
 | _, _, .cons h t => .cons (h.same e) (DM.same e t)
theorem DM.len {H : Hp} : ∀ {kvs : List (Key × V)} {D : List (Str × Msg)}, DM H kvs D → kvs.length = D.length
 | _, _, .nil => rfl
 | _, _, .cons _ t => by rw [List.length_cons, List.length_cons, DM.len t]
theorem DM.ms {H : Hp} : ∀ {kvs : List (Key × V)} {D : List (Str × Msg)}, DM H kvs D → Ms H (kvs.map (·.2)) (D.map (·.2))
 | _, _, .nil => Ms.nil
 | _, _, .cons h t => zV h (DM.ms t)
theorem DM.any {H : Hp} (t : Str) : ∀ {kvs : List (Key × V)} {D : List (Str × Msg)}, DM H kvs D → (kvs.any fun kv => decide (kv.1 = Sum.inr t)) = D.any fun p => decide (p.1 = t)
 | _, _, .nil => rfl
 | _, _, .cons (t := t') h r => by
   rw [List.any_cons, List.any_cons, DM.any t r]
   congr 1
   exact decide_eq_decide.mpr ⟨fun z => Sum.inr.inj z, fun z => congrArg Sum.inr z⟩
theorem DM.repl {H : Hp} (t : Str) {v : V} {m : Msg} (h : Has H v (mD m)) : ∀ {kvs : List (Key × V)} {D : List (Str × Msg)}, DM H kvs D → DM H (kvs.map fun kv => if kv.1 = Sum.inr t then (kv.1, v) else kv) (D.map fun p => if p.1 = t then (p.1, m) else p)
 | _, _, .nil => .nil
 | _, _, .cons (t := t') h' r => by
   rw [List.map_cons, List.map_cons]
   by_cases e : t' = t
   · rw [if_pos (by rw [e]), if_pos e]; exact .cons h (DM.repl t h r)
   · rw [if_neg (fun z => e (by injection z)), if_neg e]; exact .cons h' (DM.repl t h r)
theorem DM.snoc {H : Hp} (t : Str) {v : V} {m : Msg} (h : Has H v (mD m)) : ∀ {kvs : List (Key × V)} {D : List (Str × Msg)}, DM H kvs D → DM H (kvs ++ [(Sum.inr t, v)]) (D ++ [(t, m)])
 | _, _, .nil => .cons h .nil
 | _, _, .cons h' r => .cons h' (DM.snoc t h r)
theorem DM.put {H : Hp} (t : Str) {v : V} {m : Msg} (h : Has H v (mD m)) {kvs : List (Key × V)} {D : List (Str × Msg)} (d : DM H kvs D) : DM H (putK kvs (Sum.inr t) v) (putD D t m) := by
 unfold putK putD
 rw [d.any t]
 split
 · exact d.repl t h
 · exact d.snoc t h
end L2
namespace L2
open PySem PySem.Spec PyProof.Rows PySem.W
theorem Same.put {H H' : Hp} (e : Same H H') {p : Addr} {o : HO} (h : H p = none) : Same H (upd H' p o) := fun b u hb => by
 rw [qY (fun z => by rw [z, h] at hb; cases hb)]; exact e b u hb
theorem flat_strs : ∀ l : List Str, (l.map V.str).all zYJ = true
 | [] => rfl
 | _ :: l => by rw [List.map_cons, List.all_cons, flat_strs l]; rfl
theorem in_strs (t : Str) : ∀ l : List Str, inV (.str t) (l.map V.str) = decide (t ∈ l)
 | [] => rfl
 | x :: l => by
   unfold inV
   rw [List.map_cons, List.any_cons]
   have ih := in_strs t l
   unfold inV at ih
   rw [ih]
   have e : eqV (.str x) (.str t) = decide (t = x) := by
     show (x == t) = _
     by_cases h : x = t
     · subst h; simp
     · rw [decide_eq_false (fun z => h z.symm)]; simpa using h
   rw [e]
   by_cases h1 : t = x <;> by_cases h2 : t ∈ l <;> simp [h1, h2]
theorem flt_succ {α : Type} {ms : List α} {i : Nat} (hi : i < ms.length) {b : α → Bool} : (ms.take (i + 1)).filter b = (ms.take i).filter b ++ if b ms[i] = true then [ms[i]] else [] := by
 rw [List.take_add_one, List.getElem?_eq_getElem hi, List.filter_append]
 show _ ++ List.filter b [ms[i]] = _
 rw [List.filter_cons]; rfl
def TopV (K : W.Frag) (H : Hp) (tv : V) (ts : Option (List Str)) : Prop := (tv = .non ∧ ts = none) ∨ ∃ b l, tv = .ref b ∧ SqL K H b (l.map V.str) ∧ ts = some l
theorem TopV.same {K : W.Frag} {H H' : Hp} {tv : V} {ts : Option (List Str)} (h : TopV K H tv ts) (e : Same H H') : TopV K H' tv ts := by
 rcases h with h | ⟨b, l, h1, h2, h3⟩
 · exact .inl h
 · exact .inr ⟨b, l, h1, e.seq h2, h3⟩
def ofT : Option (List Str) → List Msg → List Msg
 | none, ms => ms
 | some l, ms => ms.filter fun m => decide (m.t ∈ l)
def spOfT (K : W.Frag) : Sp := fun vs H Q _ => ∃ a xs ms tv ts, vs = [.ref a, tv] ∧ H a = some (.lst xs) ∧ Ms H xs ms ∧ ms.length < 64 ∧ TopV K H tv ts ∧
 ∀ p ys H', Same H H' → H p = none → H' p = some (.lst ys) → Ms H' ys (ofT ts ms) → Q (.ref p) H'
mutual
def noLst : PyData → Bool
 | .list _ => false
 | .dict _ => false
 | .tuple ds => vYZ ds
 | _ => true
def vYZ : List PyData → Bool
 | [] => true
 | d :: ds => noLst d && vYZ ds
end
theorem noLst_ms : ∀ ms : List Msg, vYZ (ms.map mD) = true
 | [] => by simp [vYZ]
 | m :: r => by simp [vYZ, noLst, mD, noLst_ms r]
end L2
namespace L2
open PySem PySem.Spec PyProof.Rows PySem.W
def Rows (ms : List Msg) : Prop := ∀ i (h : i < ms.length), ms[i].n = (i : Int) + 1
theorem Rows.nil : Rows [] := fun i h => absurd h (by simp)
theorem Rows.snoc {ms : List Msg} {m : Msg} (h : Rows ms) (e : m.n = (ms.length : Int) + 1) : Rows (ms ++ [m]) := by
 intro i hi
 rw [List.length_append, List.length_singleton] at hi
 by_cases hl : i < ms.length
 · rw [List.getElem_append_left hl]; exact h i hl
 · have e' : i = ms.length := by omega
   subst e'
   rw [List.getElem_append_right (Nat.le_refl _)]
   simpa using e
theorem Rows.rise {ms : List Msg} (h : Rows ms) : Rise ms := by
 refine List.pairwise_iff_getElem.mpr fun i j hi hj hij => ?_
 rw [h i hi, h j hj]; omega
end L2
namespace L2
open PySem PySem.Spec PyProof.Rows PySem.W
structure CalleeM (P : Program) (w : World) (K : W.Frag) (mg : Str → Option Value) (base : Heap) (k : Nat) (C : Addr) (m : Str) (ps : List Str) (sp : Sp) : Prop where
 ex : ∃ f fd, FnOk P w K mg base CX0 k f fd ps sp ∧ Meth K C m f ∧ Binds K fd ps []
structure CalleeI (P : Program) (w : World) (K : W.Frag) (mg : Str → Option Value) (base : Heap) (k : Nat) (C : Addr) (ps : List Str) (sp : Sp) : Prop where
 ex : ∃ f fd, FnOk P w K mg base CX0 k f fd ps sp ∧ Mk K C f ∧ Binds K fd ps []
section
variable {X : Cx} {k : Nat} {C : Addr} {m x : Str} {ps : List Str} {sp : Sp} {o e : Expr} {es : List Expr} {ta tv : TE} {t : TA} {p apos pos pos' : Pos}
theorem Qw {pl : Sem Bool} (M : CalleeM X.prog X.w X.K X.mg X.base k C m ps sp) (c : Cls X.K C) (hr : Room k X.A) (he : PE X o ta) (ha : PAt X e es t)
   (ht : eval (.Call (.Attribute o m apos) (e :: es) [] pos) X.env = (do
     let ov ← eval o X.env
     standAt apos.atName
     let (f, first) ← holding [ov] (getMethod ov m pl)
     callWith pos f first (backTo pos (starEach (e :: es) X.env)) (backToKw pos (keywordEach [] X.env))) := by rfl) :
   PE X (.Call (.Attribute o m apos) (e :: es) [] pos) (tMeth C m sp [] E0 ta t) := by
 obtain ⟨f, fd, F, hm, hb⟩ := M.ex
 exact pe_meth (pl := pl) he c hm F hr hb .nil pass0 ha.all.pa (ha.all.he ha.tl) (by rw [ha.tl]; exact Mw _ _ _) ht
theorem zz {pl : Sem Bool} (M : CalleeM X.prog X.w X.K X.mg X.base k C m ps sp) (c : Cls X.K C) (hr : Room k X.A) (he : PE X o ta)
   (ht : eval (.Call (.Attribute o m apos) [] [] pos) X.env = (do
     let ov ← eval o X.env
     standAt apos.atName
     let (f, first) ← holding [ov] (getMethod ov m pl)
     callWith pos f first (backTo pos (starEach [] X.env)) (backToKw pos (keywordEach [] X.env))) := by rfl) :
   PE X (.Call (.Attribute o m apos) [] [] pos) (tMeth C m sp [] E0 ta tNil) := by
 obtain ⟨f, fd, F, hm, hb⟩ := M.ex
 exact pe_meth0 (pl := pl) he c hm F hr hb .nil pass0 ht
theorem as_make (M : CalleeI X.prog X.w X.K X.mg X.base k C ps sp) (hr : Room (k + 1) X.A) (hm : X.mg x = some (.ref C)) (ha : PAt X e es t) (hg : Gl X x := by rfl) (hdb : (x == ("__debug__" : Str)) = false := by decide) :
   PE X (.Call (.Name x p) (e :: es) [] pos) (tMake C sp [] E0 t) := by
 obtain ⟨f, fd, F, hM, hb⟩ := M.ex
 exact pe_make hM F hr hg hm hb .nil pass0 ha.all.pa hdb (ha.all.he ha.tl) (by rw [ha.tl]; exact Mw _ _ _)
theorem as_make0 (M : CalleeI X.prog X.w X.K X.mg X.base k C ps sp) (hr : Room (k + 1) X.A) (hm : X.mg x = some (.ref C)) (hg : Gl X x := by rfl) (hdb : (x == ("__debug__" : Str)) = false := by decide) :
   PE X (.Call (.Name x p) [] [] pos) (tMake C sp [] E0 tNil) := by
 obtain ⟨f, fd, F, hM, hb⟩ := M.ex
 exact pe_make0 hM F hr hg hm hb .nil pass0 hdb
theorem zv (K : W.Frag) {value : Expr} {f : Str} (ha : PE X o ta) (hv : PE X value tv) (hs : swapsWith value (some (.Attribute o f pos')) pos.line X.env = pure false) (h : X.K = K := by rfl) : PS X (.Assign [.Attribute o f pos'] value pos) (sFld K ta tv f) := h ▸ ps_fld ha hv hs
end
theorem Zy {f : Str} {v : V} {r : List (Str × V)} : List.lookup f ((f, v) :: r) = some v := by simp [List.lookup]
theorem yQ {f g : Str} {v : V} {r : List (Str × V)} (h : ¬ f = g) : List.lookup f ((g, v) :: r) = List.lookup f r := by
 have hb : (f == g) = false := beq_eq_false_iff_ne.mpr h
 simp [List.lookup, hb]
theorem pf_hit {f : Str} {v x : V} {r : List (Str × V)} : putF f v ((f, x) :: r) = (f, v) :: r := by
 show (if f = f then _ else _) = _
 rw [if_pos rfl]
theorem yV {f g : Str} {v x : V} {r : List (Str × V)} (h : ¬ g = f) : putF f v ((g, x) :: r) = (g, x) :: putF f v r := by
 show (if g = f then _ else _) = _
 rw [if_neg h]
def Tups (H H' : Hp) : Prop := ∀ c xs, H c = some (.tup xs) → H' c = some (.tup xs)
theorem Same.tups {H H' : Hp} (e : Same H H') : Tups H H' := fun c xs h => e _ _ h
theorem Tups.refl (H : Hp) : Tups H H := fun _ _ h => h
theorem Tups.trans {H H' H'' : Hp} (a : Tups H H') (b : Tups H' H'') : Tups H H'' := fun c xs h => b _ _ (a _ _ h)
theorem Tups.put {H H' : Hp} (a : Tups H H') {g : Addr} {u o : HO} (h : H' g = some u) (hn : ∀ xs, u ≠ .tup xs) : Tups H (upd H' g o) := fun c xs hc => by
 have h1 := a _ _ hc
 rw [qY (fun e => by rw [e, h] at h1; exact hn xs (Option.some.inj h1))]; exact h1
theorem Tups.new {H H' : Hp} (a : Tups H H') {g : Addr} {o : HO} (h : H' g = none) : Tups H (upd H' g o) := fun c xs hc => by
 have h1 := a _ _ hc
 rw [qY (qB h1 h)]; exact h1
mutual
theorem Has.tups {H H' : Hp} (e : Tups H H') : ∀ {v : V} {d : PyData}, noLst d = true → Has H v d → Has H' v d
 | v, .none, _, h => by unfold Has at h ⊢; exact h
 | v, .bool b, _, h => by unfold Has at h ⊢; exact h
 | v, .int i, _, h => by unfold Has at h ⊢; exact h
 | v, .str x, _, h => by unfold Has at h ⊢; exact h
 | v, .list ds, n, h => by unfold noLst at n; cases n
 | v, .tuple ds, n, h => by
   unfold noLst at n
   unfold Has at h ⊢
   obtain ⟨a, xs, h1, h2, h3⟩ := h
   exact ⟨a, xs, h1, e _ _ h2, HasL.tups e n h3⟩
 | v, .dict kvs, n, h => by unfold noLst at n; cases n
theorem HasL.tups {H H' : Hp} (e : Tups H H') : ∀ {xs : List V} {ds : List PyData}, vYZ ds = true → HasL H xs ds → HasL H' xs ds
 | xs, [], _, h => by unfold HasL at h ⊢; exact h
 | xs, d :: ds, n, h => by
   unfold vYZ at n
   rw [Bool.and_eq_true] at n
   unfold HasL at h ⊢
   obtain ⟨x, r, h1, h2, h3⟩ := h
   exact ⟨x, r, h1, Has.tups e n.1 h2, HasL.tups e n.2 h3⟩
end
theorem Ms.tups {H H' : Hp} {xs : List V} {ms : List Msg} (h : Ms H xs ms) (e : Tups H H') : Ms H' xs ms := HasL.tups e (noLst_ms ms) h
theorem noLst_m (m : Msg) : noLst (mD m) = true := by simp [noLst, vYZ, mD]
theorem DM.tups {H H' : Hp} (e : Tups H H') : ∀ {kvs : List (Key × V)} {D : List (Str × Msg)}, DM H kvs D → DM H' kvs D
 | _, _, .nil => .nil
 | _, _, .cons h t => .cons (h.tups e (noLst_m _)) (DM.tups e t)
def But (ps : List Addr) (H H' : Hp) : Prop := ∀ c o, H c = some o → c ∉ ps → H' c = some o
def vZ (k : Int) (all : List Msg) : List Msg := all.drop (all.length - k.toNat)
theorem JM (k : Int) (all : List Msg) : (vZ k all).length = min all.length k.toNat := by unfold vZ; rw [List.length_drop]; omega
theorem lastK_small {k : Int} {all : List Msg} {m : Msg} (h : all.length + 1 ≤ k.toNat) : vZ k (all ++ [m]) = vZ k all ++ [m] := by
 unfold vZ
 rw [List.length_append, List.length_singleton, show all.length + 1 - k.toNat = 0 by omega, show all.length - k.toNat = 0 by omega]; rfl
theorem lastK_full {k : Int} {all : List Msg} {m : Msg} (h : k.toNat ≤ all.length) : vZ k (all ++ [m]) = (vZ k all ++ [m]).drop 1 := by
 unfold vZ
 rw [List.length_append, List.length_singleton]
 rw [← List.drop_append_of_le_length (by omega), List.drop_drop]
 congr 1
 omega
def tF (k r n : Int) (s d : Addr) : List (Str × V) := [("keep", .int k), ("turn", .int r), ("total", .int n), ("stored", .ref s), ("newest", .ref d)]
section
variable {k r n : Int} {s d : Addr}
theorem tF_keep : (tF k r n s d).lookup ("keep" : Str) = some (V.int k) := Zy
theorem qYJ : (tF k r n s d).lookup ("total" : Str) = some (V.int n) := (yQ (by decide +kernel)).trans ((yQ (by decide +kernel)).trans Zy)
theorem qUZ : (tF k r n s d).lookup ("stored" : Str) = some (V.ref s) := (yQ (by decide +kernel)).trans ((yQ (by decide +kernel)).trans ((yQ (by decide +kernel)).trans Zy))
theorem tF_newest : (tF k r n s d).lookup ("newest" : Str) = some (V.ref d) := (yQ (by decide +kernel)).trans ((yQ (by decide +kernel)).trans ((yQ (by decide +kernel)).trans ((yQ (by decide +kernel)).trans Zy)))
theorem tF_no {f : Str} (h1 : ¬ f = "keep") (h2 : ¬ f = "turn") (h3 : ¬ f = "total") (h4 : ¬ f = "stored") (h5 : ¬ f = "newest") : (tF k r n s d).lookup f = none :=
 (yQ h1).trans ((yQ h2).trans ((yQ h3).trans ((yQ h4).trans (yQ h5))))
theorem tF_make : putF "newest" (.ref d) (putF "stored" (.ref s) (putF "total" (.int n) (putF "turn" (.int r) (putF "keep" (.int k) [])))) = tF k r n s d := by
 show putF "newest" (.ref d) (putF "stored" (.ref s) (putF "total" (.int n) (putF "turn" (.int r) [("keep", .int k)]))) = _
 rw [yV (by decide +kernel)]
 show putF "newest" (.ref d) (putF "stored" (.ref s) (putF "total" (.int n) [("keep", .int k), ("turn", .int r)])) = _
 rw [yV (by decide +kernel), yV (by decide +kernel)]
 show putF "newest" (.ref d) (putF "stored" (.ref s) [("keep", .int k), ("turn", .int r), ("total", .int n)]) = _
 rw [yV (by decide +kernel), yV (by decide +kernel), yV (by decide +kernel)]
 show putF "newest" (.ref d) [("keep", .int k), ("turn", .int r), ("total", .int n), ("stored", .ref s)] = _
 rw [yV (by decide +kernel), yV (by decide +kernel), yV (by decide +kernel), yV (by decide +kernel)]
 rfl
theorem tF_setTotal {n' : Int} : putF "total" (.int n') (tF k r n s d) = tF k r n' s d := by
 unfold tF
 rw [yV (by decide +kernel), yV (by decide +kernel), pf_hit]
end
structure TAt (C : Addr) (H : Hp) (p : Addr) (k r : Int) (all : List Msg) (s d : Addr) : Prop where
 ob : ∃ dx, H p = some (.ins C dx (tF k r (all.length : Int) s d))
 st : ∃ ys, H s = some (.lst ys) ∧ Ms H ys (vZ k all)
 nw : ∃ kvs, H d = some (.dK kvs) ∧ DM H kvs (Zq all)
theorem TAt.same {C : Addr} {H H' : Hp} {p : Addr} {k r : Int} {all : List Msg} {s d : Addr} (h : TAt C H p k r all s d) (e : Same H H') : TAt C H' p k r all s d := by
 obtain ⟨⟨dx, h1⟩, ⟨ys, h2, h3⟩, ⟨kvs, h4, h5⟩⟩ := h
 exact ⟨⟨dx, e _ _ h1⟩, ⟨ys, e _ _ h2, h3.same e⟩, ⟨kvs, e _ _ h4, h5.same e⟩⟩
theorem TAt.but {C : Addr} {H H' : Hp} {p p' : Addr} {k r k' r' : Int} {all all' : List Msg} {s d s' d' : Addr} (h : TAt C H p k r all s d) (h' : TAt C H p' k' r' all' s' d') (hp : p ≠ p') (hs : s ≠ s') (hd : d ≠ d') (e : But [p', s', d'] H H') : TAt C H' p k r all s d := by
 obtain ⟨⟨dx, h1⟩, ⟨ys, h2, h3⟩, ⟨kvs, h4, h5⟩⟩ := h
 obtain ⟨⟨dx', g1⟩, ⟨ys', g2, g3⟩, ⟨kvs', g4, g5⟩⟩ := h'
 have tp : Tups H H' := fun c xs hc => e c _ hc (by
   have a1 := zJ hc g1 (by intro z; cases z)
   have a2 := zJ hc g2 (by intro z; cases z)
   have a3 := zJ hc g4 (by intro z; cases z)
   simp [a1, a2, a3])
 refine ⟨⟨dx, e _ _ h1 ?_⟩, ⟨ys, e _ _ h2 ?_, h3.tups tp⟩, ⟨kvs, e _ _ h4 ?_, h5.tups tp⟩⟩
 · have a2 := zJ h1 g2 (by intro z; cases z)
   have a3 := zJ h1 g4 (by intro z; cases z)
   simp [hp, a2, a3]
 · have a1 := zJ h2 g1 (by intro z; cases z)
   have a3 := zJ h2 g4 (by intro z; cases z)
   simp [a1, hs, a3]
 · have a1 := zJ h4 g1 (by intro z; cases z)
   have a2 := zJ h4 g2 (by intro z; cases z)
   simp [a1, a2, hd]
theorem TAt.tups {C : Addr} {H H' : Hp} {p : Addr} {k r : Int} {all : List Msg} {s d : Addr} (h : TAt C H p k r all s d) (e : But [p, s, d] H H') : Tups H H' := by
 obtain ⟨⟨dx, g1⟩, ⟨ys, g2, g3⟩, ⟨kvs, g4, g5⟩⟩ := h
 exact fun c xs hc => e c _ hc (by
   have a1 := zJ hc g1 (by intro z; cases z)
   have a2 := zJ hc g2 (by intro z; cases z)
   have a3 := zJ hc g4 (by intro z; cases z)
   simp [a1, a2, a3])
structure TellerC (K : W.Frag) (mg : Str → Option Value) (C : Addr) : Prop where
 cl_Teller : Cls K C
 mg_Teller : mg "Teller" = some (.ref C)
 n_keep : NoAttr K C "keep"
 n_turn : NoAttr K C "turn"
 n_total : NoAttr K C "total"
 n_stored : NoAttr K C "stored"
 n_newest : NoAttr K C "newest"
def spInitT (C : Addr) : Sp := fun vs H Q _ => ∃ (p dx : Addr) (k : Int), vs = [.ref p, .int k] ∧ H p = some (.ins C dx []) ∧
 ∀ s d H', H s = none → H d = none → TAt C H' p k 0 [] s d → (∀ b o, H b = some o → b ≠ p → H' b = some o) → Q .non H'
def spTell (C : Addr) : Sp := fun vs H Q _ => ∃ p t x k r all s d, vs = [.ref p, .str t, .str x] ∧ TAt C H p k r all s d ∧ all.length < 60 ∧ 0 ≤ k ∧
 ∀ H', TAt C H' p k r (all ++ [⟨(all.length : Int) + 1, t, x⟩]) s d → But [p, s, d] H H' → Q (.int ((all.length : Int) + 1)) H'
def spTold (C : Addr) : Sp := fun vs H Q _ => ∃ p k r all s d, vs = [.ref p] ∧ TAt C H p k r all s d ∧ Q (.int (all.length : Int)) H
def zVZ (C : Addr) : Sp := fun vs H Q _ => ∃ p k r all s d, vs = [.ref p] ∧ TAt C H p k r all s d ∧ Q (.int ((all.length : Int) - ((vZ k all).length : Int) + 1)) H
def spGreater : Sp := fun vs H Q _ => ∃ a xs ms n, vs = [.ref a, .int n] ∧ H a = some (.lst xs) ∧ Ms H xs ms ∧ ms.length < 64 ∧ ∀ p ys H', Same H H' → H p = none → H' p = some (.lst ys) → Ms H' ys (ms.filter fun m => decide (m.n > n)) → Q (.ref p) H'
def QM (k n : Int) (all : List Msg) : Int := if (all.length : Int) - ((vZ k all).length : Int) + 1 - 1 - n > 0 then (all.length : Int) - ((vZ k all).length : Int) + 1 - 1 - n else 0
def spBehind (K : W.Frag) (C : Addr) : Sp := fun vs H Q _ => ∃ p n tv ts k r all s d, vs = [.ref p, .int n, tv] ∧ TAt C H p k r all s d ∧ all.length < 64 ∧ 0 ≤ n ∧ n ≤ (all.length : Int) ∧ TopV K H tv ts ∧
 ∀ q l ys H', Same H H' → H q = none → H l = none → H' q = some (.tup [.ref l, .int (QM k n all)]) → H' l = some (.lst ys) → Ms H' ys (ofT ts ((vZ k all).filter fun m => decide (m.n > n))) → Q (.ref q) H'
theorem YV (f : Str) (v : V) : ∀ fs : List (Str × V), (putF f v fs).length ≤ fs.length + 1
 | [] => Nat.le_refl _
 | (g, x) :: r => by
   show (if g = f then (g, v) :: r else (g, x) :: putF f v r).length ≤ _
   have := YV f v r
   split
   · simp
   · simp only [List.length_cons]; omega
theorem But.same {ps : List Addr} {H0 H H' : Hp} (e : Same H0 H) (b : But ps H H') (hn : ∀ p ∈ ps, H0 p = none) : Same H0 H' := fun c o h => b c o (e _ _ h) fun hc => by rw [hn c hc] at h; cases h
end L2
namespace L2
open PySem PySem.Spec PyProof.Rows PySem.W
structure Fly (P : Program) (w : World) (outer : List Env) (H H' : Hp) (h : Heap) (a : Addr) (cls : Value) (h' : Heap) : Prop where
 ex : ∃ (B : Heap) (a0 : Value) (hr : Heap) (Ls : List Addr), Heap.FlyingW B outer a cls a0 h' ∧ Un (frs outer) [] H H' h hr ∧ HOk P w H' hr ∧ (∀ b o, hr.get? b = some o → b ∉ frs outer → b ∉ Ls → B.get? b = some o) ∧ (∀ L ∈ Ls, h.get? L = none ∧ H' L = none) ∧ hr.UpToSlots h' ∧ hr.get? a = none
def CXF (P : Program) (w : World) : CXT := fun outer H s E e s' => ∃ a cls H', e = .ref a ∧ s'.os = s.os ∧ AllBare s'.gens ∧ Fly P w outer H H' s.heap a cls s'.heap ∧ H' a = none ∧ E cls none H'
theorem obj_at {P : Program} {w : World} {H : Hp} {h : Heap} {a : Addr} {o : HO} (x : ObjOk P w H h a o) : ∃ ob, h.get? a = some ob := by
 cases o with
 | lst xs => obtain ⟨_, _, _, _, e⟩ := x; exact ⟨_, e⟩
 | tup xs => obtain ⟨_, _, _, ob, e, _⟩ := x; exact ⟨_, e⟩
 | dK kvs => obtain ⟨_, _, _, _, o, _, _, e, _⟩ := x; exact ⟨_, e⟩
 | dT kvs => obtain ⟨_, _, _, _, o, _, _, e, _⟩ := x; exact ⟨_, e⟩
 | set S n => obtain ⟨o, _, _, _, e, _⟩ := x; exact ⟨_, e⟩
 | ins C dx fs => obtain ⟨_, _, _, e, _⟩ := x; exact ⟨_, e⟩
 | own y => obtain ⟨_, e⟩ := x; exact ⟨_, e⟩
 | xd fs => obtain ⟨_, ⟨_, _, _, e, _⟩, _⟩ := x; exact ⟨_, e⟩
 | rng lo hi => obtain ⟨_, _, _, e⟩ := x; exact ⟨_, e⟩
 | frz ob u => obtain ⟨e, _⟩ := x; exact ⟨_, e⟩
 | tbl ps => exact ⟨_, show h.get? a = some _ from x⟩
 | met f y => exact ⟨_, show h.get? a = some _ from x⟩
 | ext φ => obtain ⟨_, ⟨_, e⟩, _⟩ := x; exact ⟨_, e⟩
theorem un_fly {P : Program} {w : World} {fs : List Addr} {H H' : Hp} {h hr h' B : Heap} {Ls : List Addr} (un : Un fs [] H H' h hr) (hok : HOk P w H' hr) (cov : ∀ b o, hr.get? b = some o → b ∉ fs → b ∉ Ls → B.get? b = some o) (hL : ∀ L ∈ Ls, h.get? L = none ∧ H' L = none)
   (st : B.StaysIn h') (sm : hr.UpToSlots h') (hf : ∀ b ∈ fs, H b = none ∧ ∀ o, h.get? b = some o → ∀ vs, o.data ≠ .fields vs) (hfH : ∀ b ∈ fs, H' b = none) : Un fs [] H H' h h' ∧ HOk P w H' h' := by
 have tr : ∀ b u o, H' b = some u → hr.get? b = some o → h'.get? b = some o := fun b u o hb ho => by
   refine st b o (cov b o ho (fun z => ?_) fun z => ?_)
   · rw [hfH b z] at hb; cases hb
   · rw [(hL b z).2] at hb; cases hb
 have ne : ∀ b o, h.get? b = some o → b ∉ Ls := fun b o e z => by rw [(hL b z).1] at e; cases e
 refine ⟨⟨fun b o e n hb hx => st b o (cov b o (un.keep b o e n hb hx) hb (ne b o e)), fun b o e n hb hx => ?_, un.free, fun b o e hx => ?_, un.tups, un.frzs, un.tbls⟩, fun b u e => ?_⟩
 · obtain ⟨sl, e1⟩ := un.slot b o e n hb hx
   obtain ⟨sl2, e2⟩ := sm b _ e1 ((hf b hb).2 o e)
   exact ⟨sl2, e2⟩
 · by_cases hb : b ∈ fs
   · obtain ⟨sl, e1⟩ := un.slot b o e (hf b hb).1 hb hx
     obtain ⟨sl2, e2⟩ := sm b _ e1 ((hf b hb).2 o e)
     exact ⟨_, e2⟩
   · obtain ⟨o', e1⟩ := un.there b o e hx
     exact ⟨o', st b o' (cov b o' e1 hb (ne b o e))⟩
 · refine (hok b u e).stay (fun c o hc ho => ?_) (fun _ q => q) fun _ _ q => q
   rcases hc with rfl | hc
   · exact tr _ _ _ e ho
   · exact tr _ _ _ hc ho
section
variable {X : Cx} {pins : List (Addr × Obj)} {σ : St} {H H' : Hp} {s : Shared}
theorem Inv.frNo (I : Inv X pins σ H s) : ∀ b ∈ frs X.stack, H b = none ∧ ∀ o, s.heap.get? b = some o → ∀ vs, o.data ≠ .fields vs := fun b hb => by
 refine ⟨I.stkFree b hb, fun o e vs hd => ?_⟩
 obtain ⟨_, o', ho, hn⟩ := I.stack.mem hb
 rw [e] at ho
 cases ho
 exact hn vs hd
theorem Inv.flown {g' : Array GenState} {t' : Nat} {d' : Drawn} {B hr h' : Heap} {Ls : List Addr} (I : Inv X pins σ H s) (un : Un (frs X.stack) [] H H' s.heap hr) (hok : HOk X.prog X.w H' hr) (cov : ∀ b o, hr.get? b = some o → b ∉ frs X.stack → b ∉ Ls → B.get? b = some o)
   (hL : ∀ L ∈ Ls, s.heap.get? L = none ∧ H' L = none) (st : B.StaysIn h') (sm : hr.UpToSlots h') (hg : AllBare g') : Inv X pins σ H' { s with heap := h', gens := g', drawn := d', toks := t' } := by
 have hfH : ∀ b ∈ frs X.stack, H' b = none := fun b hb => by
   obtain ⟨_, o, ho, _⟩ := I.stack.mem hb
   exact un.free b o ho (I.stkFree b hb) (by simp)
 obtain ⟨u, k⟩ := un_fly un hok cov hL st sm I.frNo hfH
 exact I.call (ch := []) u k hg (fun b z => absurd z (by simp))
end
structure Exc (K : W.Frag) (mg : Str → Option Value) (x : Str) (C : Addr) : Prop where
 at_ : mg x = some (.ref C)
 exc : W.excIn K C [.type "ValueError", .type "Exception", .type "BaseException", .type "object"] "ValueError.__new__" = true
theorem exc_own {K : W.Frag} {mg : Str → Option Value} {x : Str} {C : Addr} {h : Heap} {bmB : List Value} {newId : String} (X : K.In h) (e : mg x = some (.ref C)) (q : W.excIn K C bmB newId = true) : OwnCls x C bmB newId mg h := by
 refine ⟨e, ?_⟩
 unfold W.excIn at q
 split at q
 · rename_i dd cd sl ho
   split at q
   · rename_i C' bm k0 k1 k2 k3 n k5 hm hs
     simp only [Bool.and_eq_true, beq_iff_eq, Bool.not_eq_true'] at q
     obtain ⟨⟨⟨⟨⟨rfl, rfl⟩, hdel⟩, ht⟩, hok⟩, hni⟩ := q
     obtain ⟨nm, bs, mro, ns, qn, hd, sn, sub, ab, col, del⟩ := cd
     dsimp only at hm hdel hok hni
     subst hm hdel
     have hsl : sl = #[k0, k1, k2, k3, some (.builtin n), k5] := by
       obtain ⟨l⟩ := sl
       simp only at hs
       rw [hs]
     subst hsl
     exact ⟨bm, ns, nm, qn, bs, hd, sn, sub, ab, col, dd, k0, k1, k2, k3, k5, _, X _ _ ho, .of_isNs (W.isNs_of_in X hok), W.nsMap_none_of_in X hok hni, W.tail_of_in X ht⟩
   · cases q
 · cases q
def tRaise (C : Addr) (E : XK) (t : TA) : TS := fun _ σ H => t σ H fun vs H1 => vs.length ≤ sizeLine ∧ E (.ref C) none H1
section
variable {P : Program} {w : World} {K : W.Frag} {mg : Str → Option Value} {base : Heap} {N : List Str} {qual : Str} {scope : Scope} {f : Addr} {cd : Value} {A : Around} {outer : List Env} {s : Shared} {H : Hp} {E : XK}
theorem ps_raise {x : Str} {C : Addr} {np cpos pos : Pos} {e : Expr} {es : List Expr} {t : TA} (Z : Exc K mg x C) (ha : PAt (cxOf (CXF P w) P w K mg base N qual scope f cd A outer s H E) e es t)
   (hg : Gl (cxOf (CXF P w) P w K mg base N qual scope f cd A outer s H E) x := by rfl) (hd : (x == ("__debug__" : Str)) = false := by decide) :
   PS (cxOf (CXF P w) P w K mg base N qual scope f cd A outer s H E) (.Raise (some (.Call (.Name x np) (e :: es) [] cpos)) none pos) (tRaise C E t) := by
 intro pins s1 σ H1 D I h
 have X1 := I.kIn
 obtain ⟨tl, M, nm, q, bs, hdct, sn, sub, ab, col, dd, k0, k1, k2, k3, k5, mN, hC, hN, hni, T⟩ := (exc_own (h := (cxOf (CXF P w) P w K mg base N qual scope f cd A outer s H E).base) I.ok.mod.kin Z.at_ Z.exc).obj
 refine wpAny_Raise_call_subT (C := C) (nm := nm) (q := q) (N := M) (bs := bs) (bm := tl) (hdct := hdct) (sn := sn) (sub := sub) (ab := ab) (col := col) (dd := dd) (k0 := k0) (k1 := k1) (k2 := k2) (k3 := k3) (k5 := k5)
   PySem.F.excBase_ValueError (mN := mN) (T.hasType PySem.F.excBase_ValueError.hasBase) (I.ok.hd rfl) (by rw [ha.all.st]; exact Mw _ _ _) hni (qJY I hg Z.at_ ⟨rfl, ?_⟩ hd)
 have he := ha.all.he ha.tl
 have hsp := ha.all.pa cpos pins s1 σ H1 _ I h
 rw [he] at hsp ⊢
 refine Calls.evalArgs_plain (wpAny_mono hsp (fun us s2 h2 => ?_) fun _ _ y => y)
 obtain ⟨vs, H2, I2, rv, hlen, hE⟩ := h2
 refine ⟨rfl, by rw [← rv.length]; exact hlen, I2.bk _ _ hC, hN.keeps I2.bk, T.keeps I2.bk, fun h' ea hx => ?_⟩
 have fr := I2.stack
 have hin : ∀ env ∈ (cxOf (CXF P w) P w K mg base N qual scope f cd A outer s H E).stack, ∀ b, env.frame = some b → b ∈ frs (cxOf (CXF P w) P w K mg base N qual scope f cd A outer s H E).stack := fun env he b hb => List.mem_filterMap.mpr ⟨env, he, hb⟩
 refine wpAny_leaves_madeW (base := hideAll s2.heap (frs (cxOf (CXF P w) P w K mg base N qual scope f cd A outer s H E).stack)) (h := s2.heap) I2.ok.frames rfl (fun b o q => of_hideAll _ q) (funFrames_hide fr hin) hx fun h2 tt fl _ _ sm => ?_
 refine ⟨ea, .ref C, H2, rfl, I2.os, I2.bare, ⟨_, _, s2.heap, [s.heap.objs.size], fl, I2.base, I2.hok, fun b o ho hb hL => hideAll_get _ ho fun hm => ?_, fun L z => by rw [List.mem_singleton.mp z]; exact ⟨Heap.get?_none_of_le (Nat.le_refl _), I2.free⟩, (Heap.UpToSlots.of_keeps hx.keeps).trans sm, hx.new⟩, ?_, hE⟩
 · have hm' : b ∈ s.heap.objs.size :: frs outer := hm
   rcases List.mem_cons.mp hm' with z | z
   · exact hL (List.mem_singleton.mpr z)
   · exact hb z
 · cases q : H2 ea with
   | none => rfl
   | some u =>
     obtain ⟨o, ho⟩ := obj_at (I2.hok ea u q)
     have hn := hx.new
     rw [ho] at hn; cases hn
end
end L2
namespace L2
open PySem PySem.Spec PyProof.Rows PySem.W
section
variable {P : Program} {w : World} {K : W.Frag} {mg : Str → Option Value} {base : Heap}
theorem Fun.okX {x qual : Str} {st : Stmt} {f : Addr} {fd : FuncData} {N ps : List Str} {k : Nat} {sp : Sp} (F : Fun K x qual st f fd) (S : FnScope N ps (qZ st)) (len : ∀ vs H Q E, sp vs H Q E → vs.length = ps.length)
   (hbody : ∀ (cdv : Value) (A : Around) (outer : List Env) (s : Shared) (H : Hp) (vs : List V) (Q : VK) (E : XK), Room k (A.deeper (envOfC qual (qZ st) s.heap.objs.size f cdv)) → sp vs H Q E →
     ∃ t, PSs (cxOf (CXF P w) P w K mg base N qual (qZ st) f cdv A outer s H E) (qD st) t ∧ t { nx := fun _ H' => Q .non H', rt := Q } (start N vs) H) : FnOk P w K mg base (CXF P w) (k + 1) f fd ps sp := by
 obtain ⟨oc, od, kV, doc, pm, an, cdv, ct, osl, rfl, lk, hcd⟩ := F.ex
 exact fn_of lk hcd S len fun A outer s H vs Q E hr hsp => hbody cdv A outer s H vs Q E hr hsp
end
structure CalleeMX (P : Program) (w : World) (K : W.Frag) (mg : Str → Option Value) (base : Heap) (k : Nat) (C : Addr) (m : Str) (ps : List Str) (sp : Sp) : Prop where
 ex : ∃ f fd, FnOk P w K mg base (CXF P w) k f fd ps sp ∧ Meth K C m f ∧ Binds K fd ps []
section
variable {X : Cx} {k : Nat} {C : Addr} {m x : Str} {ps : List Str} {sp : Sp} {o e : Expr} {es : List Expr} {ta tv : TE} {t : TA} {p apos pos pos' : Pos} {E : XK}
theorem yD {pl : Sem Bool} (M : CalleeMX X.prog X.w X.K X.mg X.base k C m ps sp) (c : Cls X.K C) (hr : Room k X.A) (hx : UJ (CXF X.prog X.w) X E) (he : PE X o ta) (ha : PAt X e es t)
   (ht : eval (.Call (.Attribute o m apos) (e :: es) [] pos) X.env = (do
     let ov ← eval o X.env
     standAt apos.atName
     let (f, first) ← holding [ov] (getMethod ov m pl)
     callWith pos f first (backTo pos (starEach (e :: es) X.env)) (backToKw pos (keywordEach [] X.env))) := by rfl) :
   PE X (.Call (.Attribute o m apos) (e :: es) [] pos) (tMeth C m sp [] E ta t) := by
 obtain ⟨f, fd, F, hm, hb⟩ := M.ex
 exact pe_meth (pl := pl) he c hm F hr hb .nil hx ha.all.pa (ha.all.he ha.tl) (by rw [ha.tl]; exact Mw _ _ _) ht
end
theorem My {P : Program} {w : World} {K : W.Frag} {mg : Str → Option Value} {base : Heap} {N : List Str} {qual : Str} {scope : Scope} {f : Addr} {cd : Value} {A : Around} {outer : List Env} {s : Shared} {H : Hp} {E : XK} :
   UJ (CXF P w) (cxOf (CXF P w) P w K mg base N qual scope f cd A outer s H E) E := by
 intro pins σ H1 s1 e s2 I h
 obtain ⟨a, cls, H2, rfl, os, bare, ⟨B, a0, hr, Ls, fl, un, hok, cov, hL, sm, han⟩, ha, hE⟩ := h
 have hfH : ∀ b ∈ frs (cxOf (CXF P w) P w K mg base N qual scope f cd A outer s H E).stack, H2 b = none := fun b hb => by
   obtain ⟨_, o, ho, _⟩ := I.stack.mem hb
   exact un.free b o ho (I.stkFree b hb) (by simp)
 have I2 := I.call (ch := []) (g' := s2.gens) (d' := s2.drawn) (t' := s2.toks) un hok bare (fun b z => absurd z (by simp))
 have fl' : Heap.FlyingW B (envOfC qual scope s.heap.objs.size f cd :: outer) a cls a0 s2.heap := fl
 refine wpAny_leaves_onW (env := envOfC qual scope s.heap.objs.size f cd) (outer := outer) I.ok.frames rfl fl' fun h' fl2 sm2 => ?_
 refine ⟨a, cls, H2, rfl, os.trans I.os, bare, ⟨B, a0, hr, s.heap.objs.size :: Ls, fl2, I2.base, hok, fun b o ho hb hL2 => ?_, fun L z => ?_, sm.trans sm2, han⟩, ha, hE⟩
 · refine cov b o ho (fun hm => ?_) fun z => hL2 (List.mem_cons_of_mem _ z)
   have hm' : b ∈ s.heap.objs.size :: frs outer := hm
   rcases List.mem_cons.mp hm' with z | z
   · exact hL2 (by rw [z]; exact List.mem_cons_self)
   · exact hb z
 · rcases List.mem_cons.mp z with z | z
   · rw [z]; exact ⟨Heap.get?_none_of_le (Nat.le_refl _), I2.free⟩
   · refine ⟨?_, (hL L z).2⟩
     cases q : s.heap.get? L with
     | none => rfl
     | some o =>
       obtain ⟨o', e'⟩ := I.base.there L o q (fun y => by cases (show L ∈ ([] : List Addr) from y))
       rw [(hL L z).1] at e'; cases e'
abbrev Cx.tries (X : Cx) (pn : List (Addr × Obj)) (xe : Value → Shared → Prop) : Cx := { X with pn := pn, xe := xe }
abbrev Cx.held (X : Cx) (e : Value) : Cx := { X with A := X.A.mark (some e), calm := false, xe := fun _ _ => False }
section
variable {X : Cx} {pins : List (Addr × Obj)} {σ : St} {H H' : Hp} {s : Shared} {xe : Value → Shared → Prop} {e : Value}
theorem Inv.tries (I : Inv X pins σ H s) : Inv (X.tries (X.pn ++ pins) xe) [] σ H s :=
 ⟨⟨I.ok.mod, I.ok.kind, I.ok.glob, I.ok.blt, I.ok.above, I.ok.inj, I.ok.has, I.ok.cab, I.ok.hd, I.ok.frames, I.ok.stk, I.ok.exf, I.ok.bs, I.ok.bsz, I.ok.noex, I.ok.exfs, I.ok.funs, I.ok.frf⟩, I.os, I.bare, I.base, I.loc, I.cell, I.free, I.freeC,
   fun p hp => I.pin p (by rw [List.append_nil] at hp; exact hp), I.hok, I.len⟩
theorem Inv.untries {pins' : List (Addr × Obj)} (I : Inv (X.tries (X.pn ++ pins) xe) pins' σ H s) : Inv X pins σ H s :=
 ⟨⟨I.ok.mod, I.ok.kind, I.ok.glob, I.ok.blt, I.ok.above, I.ok.inj, I.ok.has, I.ok.cab, I.ok.hd, I.ok.frames, I.ok.stk, I.ok.exf, I.ok.bs, I.ok.bsz, I.ok.noex, I.ok.exfs, I.ok.funs, I.ok.frf⟩, I.os, I.bare, I.base, I.loc, I.cell, I.free, I.freeC,
   fun p hp => I.pin p (List.mem_append_left _ hp), I.hok, I.len⟩
theorem Inv.held (I : Inv X pins σ H s) : Inv (X.held e) pins σ H s :=
 ⟨⟨I.ok.mod, I.ok.kind, I.ok.glob, I.ok.blt, I.ok.above, I.ok.inj, I.ok.has, I.ok.cab, (fun z => by cases z), I.ok.frames, I.ok.stk, I.ok.exf, I.ok.bs, I.ok.bsz, I.ok.noex, I.ok.exfs, I.ok.funs, I.ok.frf⟩, I.os, I.bare, I.base, I.loc, I.cell, I.free, I.freeC, I.pin, I.hok, I.len⟩
theorem Inv.unheld (I : Inv (X.held e) pins σ H s) (hd : X.calm = true → X.A.handled = none) : Inv X pins σ H s :=
 ⟨⟨I.ok.mod, I.ok.kind, I.ok.glob, I.ok.blt, I.ok.above, I.ok.inj, I.ok.has, I.ok.cab, hd, I.ok.frames, I.ok.stk, I.ok.exf, I.ok.bs, I.ok.bsz, I.ok.noex, I.ok.exfs, I.ok.funs, I.ok.frf⟩, I.os, I.bare, I.base, I.loc, I.cell, I.free, I.freeC, I.pin, I.hok, I.len⟩
theorem Inv.trackN {D : Addr} {o : HO} (I : Inv X pins σ H s) (hn : H D = none) (h0 : X.s₀.heap.get? D = none) (hL : D ≠ X.env.locals) (hc : ∀ x c, X.env.cells.lookup x = some c → c ≠ D) (hp : ∀ p ∈ X.pn ++ pins, p.1 ≠ D) (ok : ObjOk X.prog X.w (upd H D o) s.heap D o) :
   Inv X pins σ (upd H D o) s := by
 refine ⟨I.ok, I.os, I.bare, ⟨I.base.keep, I.base.slot, fun b u e n hx => ?_, I.base.there, fun b xs q => ?_, fun b u xs q => ?_, fun b ps q => ?_⟩, I.loc, I.cell, ?_, fun x c e => ?_, fun p h => ?_, fun b u e => ?_, I.len⟩
 · rw [qY (fun z => by rw [z, h0] at e; cases e)]; exact I.base.free b u e n hx
 · have := I.base.tups b xs q
   rw [qY (qB this hn)]; exact this
 · have := I.base.frzs b u xs q
   rw [qY (qB this hn)]; exact this
 · obtain ⟨more, e⟩ := I.base.tbls b ps q
   exact ⟨more, by rw [qY (qB e hn)]; exact e⟩
 · rw [qY (Ne.symm hL)]; exact I.free
 · rw [qY (hc x c e)]; exact I.freeC x c e
 · obtain ⟨a, b, c⟩ := I.pin p h
   exact ⟨a, by rw [qY (hp p h)]; exact b, c⟩
 · by_cases hb : b = D
   · subst hb; rw [qQ] at e; cases e; exact ok
   · rw [qY hb] at e
     exact (I.hok b u e).stay (fun _ _ _ q => q) (fun c q => by rw [qY (qB q hn)]; exact q) fun c xs q => by rw [qY (qB q hn)]; exact q
theorem Inv.gone {h' : Heap} {m' : Str → Option Value} {t' : Nat} (I : Inv X pins σ H s) (hn' : h'.Ns X.env.locals m') (hs : Heap.SameBut X.env.locals s.heap h') : Inv X pins (List.replicate X.N.length none) H { s with heap := h', toks := t' } := by
 have ne : ∀ b o, X.s₀.heap.get? b = some o → b ≠ X.env.locals := fun b o e => Nat.ne_of_lt (Nat.lt_of_lt_of_le (Heap.lt_size e) I.ok.above)
 refine ⟨I.ok, I.os, I.bare, ⟨fun b o e n hb hx => (hs.2 b (ne b o e)).trans (I.base.keep b o e n hb hx), fun b o e n hb hx => ?_, I.base.free, fun b o e hx => ?_, I.base.tups, I.base.frzs, I.base.tbls⟩, ⟨_, hn', fun j y v' e1 e2 e3 => ?_⟩, fun y c e => ?_, I.free, I.freeC, fun p hp => ?_, fun b u e => ?_, by simp⟩
 · obtain ⟨sl, e1⟩ := I.base.slot b o e n hb hx
   exact ⟨sl, (hs.2 b (ne b o e)).trans e1⟩
 · obtain ⟨o', e1⟩ := I.base.there b o e hx
   exact ⟨o', (hs.2 b (ne b o e)).trans e1⟩
 · rw [List.getElem?_replicate] at e2
   split at e2 <;> cases e2
 · obtain ⟨w', z⟩ := I.cell y c e
   exact ⟨w', z.sameBut hs (I.cne y c e)⟩
 · obtain ⟨e, n, ne', nf, d⟩ := I.pin p hp
   exact ⟨(hs.2 p.1 ne').trans e, n, ne', nf, d⟩
 · refine (I.hok b u e).stay (fun c w' hc q => (hs.2 c ?_).trans q) (fun _ q => q) fun _ _ q => q
   rintro rfl
   have hfree := I.free
   rcases hc with rfl | hc
   · rw [hfree] at e; cases e
   · rw [hfree] at hc; cases hc
end
def ExcO (a : Addr) (cls : Value) : HO := .ext fun h => ∃ o, h.get? a = some o ∧ o.cls = cls
def tTryAs (K : W.Frag) (C : Addr) (E : XK) (i len : Nat) (tb ts : TS) : TS := fun D σ H => tb D σ H ∧ ∀ cls a H', E cls none H' → H' a = none → W.exmOne K cls (.ref C) = some true ∧
 ts { nx := fun _ H2 => D.nx (List.replicate len none) H2, rt := D.rt, bk := fun _ H2 => D.bk (List.replicate len none) H2, ct := fun _ H2 => D.ct (List.replicate len none) H2 } ((List.replicate len none).set i (some (.ref a))) (upd H' a (ExcO a cls))
section
variable {X : Cx} {body : List Stmt} {x n : Str} {b0 : Stmt} {suite : List Stmt} {np hpos pos : Pos} {tb ts : TS} {E : XK} {i : Nat} {C : Addr}
theorem ps_tryAs (K : W.Frag) (hb : ∀ pn xe, UJ (CXF X.prog X.w) (X.tries pn xe) E → PSs (X.tries pn xe) body tb) (hm : X.mg x = some (.ref C)) (hs : ∀ a, PSs (X.held (.ref a)) (b0 :: suite) ts) (hN : X.N.Nodup) (hi : X.N[i]? = some n) (hl : X.env.kindOf n = some .local)
   (hst : X.stack = X.env :: X.outer) (hfr : X.env.frame = some X.env.locals) (hex : X.ex = []) (hK : X.K = K := by rfl) (hg : Gl X x := by rfl) (hd : (x == ("__debug__" : Str)) = false := by decide) :
   PS X (.Try body [.ExceptHandler (some (.Name x np)) (some n) (b0 :: suite) hpos] [] [] pos) (tTryAs K C E i X.N.length tb ts) := by
 subst hK
 intro pins s σ H D I h
 obtain ⟨h1, h2⟩ := h
 have hp : UJ (CXF X.prog X.w) (X.tries (X.pn ++ pins) fun e s' => ∃ σ0 H0 s0, Inv X pins σ0 H0 s0 ∧ CXF X.prog X.w X.stack H0 s0 E e s') E := fun pins' σ' H' s' e s'' I' c => ⟨σ', H', s', I'.untries, c⟩
 have B := hb _ _ hp [] s σ H D I.tries h1
 refine wpAny_Try_except (wpAny_mono B (fun f s1 q => ?_) (fun e s1 q => ?_))
 · cases f with
   | next => obtain ⟨σ', H', I', q'⟩ := q; exact wpAny_execs_nil ⟨σ', H', I'.untries, q'⟩
   | brk => obtain ⟨σ', H', I', q'⟩ := q; exact ⟨σ', H', I'.untries, q'⟩
   | cont => obtain ⟨σ', H', I', q'⟩ := q; exact ⟨σ', H', I'.untries, q'⟩
   | ret u => obtain ⟨v, σ', H', I', r, q'⟩ := q; exact ⟨v, σ', H', I'.untries, r, q'⟩
 · obtain ⟨σ0, H0, s0, I0, a, cls, H', rfl, os, bare, ⟨B', a0, hr, Ls, fl, un, hok, cov, hL, sm, han⟩, ha, hE⟩ := q
   obtain ⟨hh, g, d, t, os'⟩ := s1
   obtain rfl : os' = s0.os := os
   have gone0 : ∀ b o, s0.heap.get? b = some o → b ≠ a := fun b o e z => by
     obtain ⟨o', e'⟩ := un.there b o e (by simp)
     rw [z, han] at e'; cases e'
   have fl' : Heap.FlyingW B' (X.env :: X.outer) a cls a0 hh := by rw [← hst]; exact fl
   refine wpAny_looks_onW (by rw [I0.ok.frames, hst]) hfr fl' fun h4 held4 sm4 => ?_
   refine wpAny_landsW held4 fun h5 fl5 sm5 => ?_
   have sm5' := sm.trans (sm4.trans sm5)
   have I5 := (I0.flown (g' := g) (d' := d) (t' := t) un hok cov hL fl5.1 sm5' bare).held (e := .ref a)
   obtain ⟨hx1, hsu⟩ := h2 cls a H' hE ha
   refine wpAny_handleBy_cons (codeAny_handlers_test (qJY (X := X.held (.ref a)) I5 hg hm ?_ hd)) (by intro q; cases q)
   obtain ⟨ob, hob, hobc⟩ := fl5.there
   have LT : Looks (model X.prog X.w) h5 (typeOf (.ref a)) cls := by rw [← hobc]; exact (Looks.ld hob).andThen .now
   refine (exm_one I5.kIn LT hx1).here ?_
   show codeAny _ _ _ _ _
   refine codeAny_handlers_suite_as ?_
   refine lands_againW fl5 fun h6 fl6 sm6 => ?_
   have sm6' := sm5'.trans sm6
   have I6 := (I0.flown (g' := g) (d' := d) (t' := t) un hok cov hL fl6.1 sm6' bare).held (e := .ref a)
   obtain ⟨ob6, hob6, hobc6⟩ := fl6.there
   have I7 := I6.weak (σ' := List.replicate X.N.length none) (by rw [List.length_replicate]; exact I6.len.symm) (fun j v z => by rw [List.getElem?_replicate] at z; split at z <;> cases z)
   have s0n : X.s₀.heap.get? a = none := by
     cases q : X.s₀.heap.get? a with
     | none => rfl
     | some o =>
       obtain ⟨o', e'⟩ := I0.base.there a o q (by rw [hex]; simp)
       exact absurd rfl (gone0 a o' e')
   have I8 := I7.trackN (D := a) (o := ExcO a cls) ha s0n (by
       obtain ⟨m, ⟨o, _, _, ho, _⟩, _⟩ := I0.loc
       exact (gone0 _ o ho).symm)
     (fun y c e => by
       obtain ⟨v, o, ho, _⟩ := I0.cell y c e
       exact gone0 _ o ho)
     (fun p hp => gone0 _ _ (I0.pin p hp).1)
     ⟨⟨ob6, hob6, hobc6⟩, ⟨ob6, hob6⟩, fun g1 g2 ⟨o, e1, e2⟩ k => ⟨o, k o e1, e2⟩⟩
   refine store_ok (X := X.held (.ref a)) I8 hN hi (.inl hl) (v := .ref a) rfl (fun s9 I9 => ?_) (.inr hl)
   refine wpAny_mono (hs a pins s9 _ _ _ I9 hsu) (fun f s10 q => ?_) (fun _ _ z => z.elim)
   have hcl : (X.env.scope.kind == .class || (X.env.scope.kind == .module && X.env.locals != X.env.globals)) = false := by rw [I.ok.kind]; rfl
   cases f with
   | next =>
     obtain ⟨σ', H2, I10, q'⟩ := q
     obtain ⟨m, hn, _⟩ := I10.loc
     exact wpAny_nameGoes hl hn hcl fun h11 m11 hn11 sb => ⟨_, H2, (I10.unheld I.ok.hd).gone hn11 sb, q'⟩
   | brk =>
     obtain ⟨σ', H2, I10, q'⟩ := q
     obtain ⟨m, hn, _⟩ := I10.loc
     exact wpAny_nameGoes hl hn hcl fun h11 m11 hn11 sb => ⟨_, H2, (I10.unheld I.ok.hd).gone hn11 sb, q'⟩
   | cont =>
     obtain ⟨σ', H2, I10, q'⟩ := q
     obtain ⟨m, hn, _⟩ := I10.loc
     exact wpAny_nameGoes hl hn hcl fun h11 m11 hn11 sb => ⟨_, H2, (I10.unheld I.ok.hd).gone hn11 sb, q'⟩
   | ret u =>
     obtain ⟨v, σ', H2, I10, r, q'⟩ := q
     obtain ⟨m, hn, _⟩ := I10.loc
     exact wpAny_nameGoes hl hn hcl fun h11 m11 hn11 sb => ⟨v, _, H2, (I10.unheld I.ok.hd).gone hn11 sb, r, q'⟩
end
end L2
namespace L2
open PySem PySem.Spec PyProof.Rows PySem.W
structure RoomH (k : Nat) (A : Around) : Prop where
 dp : A.depth + 3 * k + 5 < recursionLimit
 un : A.units + 16 * k + 200 < cLine
theorem RoomH.mono {j k : Nat} {A : Around} (r : RoomH k A) (h : j ≤ k) : RoomH j A := ⟨by have := r.dp; omega, by have := r.un; omega⟩
theorem RoomH.deeper {k : Nat} {A : Around} (r : RoomH (k + 1) A) (env : Env) : RoomH k (A.deeper env) := ⟨by have := r.dp; show A.depth + 1 + 3 * k + 5 < _; omega, by have := r.un; show A.units + 3 + 16 * k + 200 < _; omega⟩
theorem RoomH.depth {k : Nat} {A : Around} (r : RoomH k A) : A.depth < recursionLimit := by have := r.dp; omega
theorem RoomH.units {k : Nat} {A : Around} (r : RoomH k A) : A.units + 64 < cLine := by have := r.un; omega
theorem RoomH.units0 {k : Nat} {A : Around} (r : RoomH k A) : A.units < cLine := by have := r.un; omega
theorem Room.h {k : Nat} {A : Around} (r : Room k A) (e : Value) : RoomH k (A.mark (some e)) := ⟨r.dp, r.un⟩
structure FnOkH (P : Program) (w : World) (K : W.Frag) (mg : Str → Option Value) (base : Heap) (CX : CXT) (k : Nat) (f : Addr) (fd : FuncData) (ps : List Str) (sp : Sp) : Prop where
 len : ∀ vs H Q E, sp vs H Q E → vs.length = ps.length
 run : ∀ (A : Around) (outer : List Env) (s : Shared) (H : Hp) (args : Args) (us : List Value) (vs : List V) (Q : VK) (E : XK), RoomH k A → Env0 P w K mg base A outer s H → BindsTo s fd args (ps.zip us) → Vals vs us → sp vs H Q E →
   codeAny (model P w) A (.call (.ref f) args) (CR CX outer P w H s Q E) s
abbrev cxOfH (CX : CXT) (P : Program) (w : World) (K : W.Frag) (mg : Str → Option Value) (base : Heap) (N : List Str) (qual : Str) (scope : Scope) (f : Addr) (cd : Value) (A : Around) (outer : List Env) (s : Shared) (H : Hp) (E : XK) : Cx :=
 { cxOf CX P w K mg base N qual scope f cd A outer s H E with calm := false }
theorem inv_startH {CX : CXT} {P : Program} {w : World} {K : W.Frag} {mg : Str → Option Value} {base : Heap} {N ps : List Str} {qual : Str} {scope : Scope} {f : Addr} {cd : Value} {A : Around} {outer : List Env} {s s1 : Shared} {H : Hp} {E : XK} {us : List Value} {vs : List V}
   (S : FnScope N ps scope) (e0 : Env0 P w K mg base A outer s H) (hl : vs.length = ps.length) (r : Vals vs us)
   (x : InCallC s s.heap.objs.size (bindL (envOfC qual scope s.heap.objs.size f cd).kindOf (ps.zip us) fun _ => none) (cellsFrom (s.heap.objs.size + 1) scope.names []) (bindC (envOfC qual scope s.heap.objs.size f cd).kindOf (ps.zip us) fun _ => none) s1) :
   Inv (cxOfH CX P w K mg base N qual scope f cd A outer s H E) [] (start N vs) H s1 := by
 have I := inv_start (CX := CX) (N := N) (qual := qual) (scope := scope) (f := f) (cd := cd) (A := { A with handled := none }) (outer := outer) (E := E) S rfl ⟨e0.frames, e0.mod, e0.bs, e0.bsz, e0.funs, e0.frf, e0.hok, e0.bare⟩ hl r x
 exact ⟨⟨I.ok.mod, I.ok.kind, I.ok.glob, I.ok.blt, I.ok.above, I.ok.inj, I.ok.has, I.ok.cab, (fun z => by cases z), Around.frames_deeper e0.frames, I.ok.stk, I.ok.exf, I.ok.bs, I.ok.bsz, I.ok.noex, I.ok.exfs, I.ok.funs, I.ok.frf⟩, I.os, I.bare, I.base, I.loc, I.cell, I.free, I.freeC, I.pin, I.hok, I.len⟩
theorem fn_ofH {CX : CXT} {P : Program} {w : World} {K : W.Frag} {mg : Str → Option Value} {base : Heap} {k : Nat} {f : Addr} {name qual : Str} {params : Arguments} {body : List Stmt} {scope : Scope} {dV kV doc pm cdv ct oc : Value} {an od : Option Addr}
   {osl : Array (Option Value)} {N ps : List Str} {sp : Sp} (lk : K.lookup f = some ⟨oc, od, .func (W.fnOf name qual params body scope dV kV doc pm an cdv ct), osl⟩) (hcd : W.codeIn K cdv qual = true) (S : FnScope N ps scope)
   (len : ∀ vs H Q E, sp vs H Q E → vs.length = ps.length)
   (hbody : ∀ (A : Around) (outer : List Env) (s : Shared) (H : Hp) (vs : List V) (Q : VK) (E : XK), RoomH k (A.deeper (envOfC qual scope s.heap.objs.size f cdv)) → sp vs H Q E →
     ∃ t, PSs (cxOfH CX P w K mg base N qual scope f cdv A outer s H E) body t ∧ t { nx := fun _ H' => Q .non H', rt := Q } (start N vs) H) :
   FnOkH P w K mg base CX (k + 1) f (W.fnOf name qual params body scope dV kV doc pm an cdv ct) ps sp := by
 refine ⟨len, fun A outer s H args us vs Q E hr e0 hb r hsp => ?_⟩
 have hl := len _ _ _ _ hsp
 have KX : K.In s.heap := e0.mod.kin.keeps fun b o e => (e0.bs b o e).1
 have lim : s.heap.NoLimit := e0.mod.nolimit.keeps fun b o e => (e0.bs b o e).1
 have hkind : ∀ y ∈ ps.zip us, scope.names.lookup y.1 = some .local ∨ (scope.names.lookup y.1 = some .cell ∧ ((cellsFrom (s.heap.objs.size + 1) scope.names []).lookup y.1).isSome = true) := fun ⟨n, v⟩ hy => by
   rcases S.par n (List.of_mem_zip hy).1 with q | q
   · exact .inl q
   · exact .inr ⟨q, W.cellsFrom_some _ _ _ (.inl q)⟩
 refine codeAny_call_function hr.depth (KX _ _ lk) rfl S.co S.gen rfl (W.codeRec_of KX hcd) (hb _ _ _ _ ?_)
 refine wpAny_newFunctionEnv_cells S.kind hkind fun env he s1 x => ?_
 subst he
 refine ⟨lim.keeps x.toInCall.keep, codeAny_func ?_⟩
 obtain ⟨t, ht, hq⟩ := hbody A outer s H vs Q E (hr.deeper _) hsp
 have I : Inv (cxOfH CX P w K mg base N qual scope f cdv A outer s H E) [] (start N vs) H s1 := inv_startH S e0 hl r x
 refine wpAny_mono (ht [] s1 (start N vs) H _ I hq) (fun fl s' hs => ?_) fun e s' hs => hs
 have fin : ∀ {σ' : St} {H' : Hp} {v : V} {u : Value}, Inv (cxOfH CX P w K mg base N qual scope f cdv A outer s H E) [] σ' H' s' → RelV v u → Q v H' → CE outer P w H s Q u s' :=
   fun {σ' H' v u} J rv q => ⟨v, H', J.os, J.bare, J.base, J.hok, rv, q⟩
 cases fl with
 | ret u =>
   obtain ⟨v, σ', H', J, rv, q⟩ := hs
   exact fin J rv q
 | next =>
   obtain ⟨σ', H', J, q⟩ := hs
   exact fin (v := V.non) (u := Value.none) J rfl q
 | brk =>
   obtain ⟨_, _, _, q⟩ := hs
   exact False.elim q
 | cont =>
   obtain ⟨_, _, _, q⟩ := hs
   exact False.elim q
section
variable {P : Program} {w : World} {K : W.Frag} {mg : Str → Option Value} {base : Heap}
theorem Fun.okH {x qual : Str} {st : Stmt} {f : Addr} {fd : FuncData} {N ps : List Str} {k : Nat} {sp : Sp} (F : Fun K x qual st f fd) (S : FnScope N ps (qZ st)) (len : ∀ vs H Q E, sp vs H Q E → vs.length = ps.length)
   (hbody : ∀ (cdv : Value) (A : Around) (outer : List Env) (s : Shared) (H : Hp) (vs : List V) (Q : VK) (E : XK), RoomH k (A.deeper (envOfC qual (qZ st) s.heap.objs.size f cdv)) → sp vs H Q E →
     ∃ t, PSs (cxOfH CX0 P w K mg base N qual (qZ st) f cdv A outer s H E).nox (qD st) t ∧ t { nx := fun _ H' => Q .non H', rt := Q } (start N vs) H) : FnOkH P w K mg base CX0 (k + 1) f fd ps sp := by
 obtain ⟨oc, od, kV, doc, pm, an, cdv, ct, osl, rfl, lk, hcd⟩ := F.ex
 refine fn_ofH lk hcd S len fun A outer s H vs Q E hr hsp => ?_
 obtain ⟨t, h, q⟩ := hbody cdv A outer s H vs Q E hr hsp
 exact ⟨t, h.nox, q⟩
end
structure CalleeH (P : Program) (w : World) (K : W.Frag) (mg : Str → Option Value) (base : Heap) (k : Nat) (x : Str) (ps : List Str) (sp : Sp) : Prop where
 ex : ∃ f fd, FnOkH P w K mg base CX0 k f fd ps sp ∧ mg x = some (.ref f) ∧ W.keepIn K (.ref f) = true ∧ Binds K fd ps []
section
variable {X : Cx} {CX : CXT} {k : Nat} {f C : Addr} {fd : FuncData} {ps : List Str} {sp : Sp} {dvs : List V} {ds : List Value} {E : XK} {x m : Str} {p pos apos : Pos} {e o : Expr} {es : List Expr} {ta : TE} {t : TA}
theorem run_fnH {pins : List (Addr × Obj)} {σ : St} {H : Hp} {s : Shared} {Q : VK} {us : List Value} {vs : List V} (F : FnOkH X.prog X.w X.K X.mg X.base CX k f fd ps sp) (hr : RoomH k X.A) (hb : Binds X.K fd ps ds) (hd : Vals dvs ds) (hx : UJ CX X E)
   (I : Inv X pins σ H s) (r : Vals vs us) (h : sp (vs ++ dvs) H Q E) : wpAny (model X.prog X.w) X.A (call (.ref f) us) (EP X pins σ Q) X.xe s := by
 have r2 : Vals (vs ++ dvs) (us ++ ds) := r.append hd
 have hl : (us ++ ds).length = ps.length := by rw [← r2.length]; exact F.len _ _ _ _ h
 refine wpAny_call (codeAny_mono (F.run X.A X.stack s H ⟨us, []⟩ (us ++ ds) (vs ++ dvs) Q E hr I.env0 (hb s us I.kIn hl) r2 h) fun r s' hq => ?_)
 cases r with
 | error e => exact hx pins σ H s e s' I hq
 | ok fl =>
   cases fl with
   | ret u => exact I.after hq
   | next => exact False.elim hq
   | brk => exact False.elim hq
   | cont => exact False.elim hq
theorem pe_callH (F : FnOkH X.prog X.w X.K X.mg X.base CX k f fd ps sp) (hr : RoomH k X.A) (hg : Gl X x) (hm : X.mg x = some (.ref f)) (hk : W.keepIn X.K (.ref f) = true) (hb : Binds X.K fd ps ds) (hd : Vals dvs ds) (hx : UJ CX X E)
   (ha : PA X (e :: es) t) (hdb : (x == ("__debug__" : Str)) = false := by decide) (he : starEach (e :: es) X.env = (false, eval e X.env) :: starEach es X.env := by rfl) (hpl : (backTo pos (starEach es X.env)).any (·.1) = false := by rfl) :
   PE X (.Call (.Name x p) (e :: es) [] pos) (tCall sp dvs E t) := by
 intro pins s σ H Q I h
 refine wpAny_Call_Name_kw (qJY I hg hm ?_ hdb)
 refine W.callWith_K (h₀ := X.base) I.ok.mod.kin hk (thn (ha pos pins s σ H _ I h) fun us s1 ⟨vs, H1, I1, r, q⟩ => ⟨I1.kIn, ?_⟩) he hpl
 exact run_fnH F hr hb hd hx I1 r q
theorem as_fnH (C : CalleeH X.prog X.w X.K X.mg X.base k x ps sp) (hr : RoomH k X.A) (ha : PAt X e es t) (hg : Gl X x := by rfl) (hdb : (x == ("__debug__" : Str)) = false := by decide) :
   PE X (.Call (.Name x p) (e :: es) [] pos) (tCall sp [] E0 t) := by
 obtain ⟨f, fd, F, hm, hk, hb⟩ := C.ex
 exact pe_callH F hr hg hm hk hb .nil pass0 ha.all.pa hdb (ha.all.he ha.tl) (by rw [ha.tl]; exact Mw _ _ _)
end
end L2
namespace L2
open PySem PySem.Spec PySem.Calls PyProof.Rows PySem.W Builtin Builtin.ObjectAttr Builtin.Getset_descriptor
structure ExcCls (K : W.Frag) (C : Addr) : Prop where
 ga : W.findIn K (.ref C) "__getattribute__" = some (some (.builtin "BaseException.__getattribute__"))
 cl : W.findIn K (.ref C) "__class__" = some (some (.builtin "object.__class__"))
 no : W.findIn K (.ref C) "__getattr__" = some none
 ob : W.mroIn K C (.type "object") = some true
 be : W.mroIn K C (.type "BaseException") = some true
 ty : W.hasDictIn K C = true
section
variable {prog : Program} {w : World} {A : Around} {E : Value → Shared → Prop} {h : Heap} {g : Array GenState} {d : Drawn} {t : Nat} {os : OsState} {K : W.Frag} {C a : Addr} {o : Obj}
theorem ex_get {R : Result → Shared → Prop} {tp : Value} (Z : ExcCls K C) (X : K.In h) (ho : h.get? a = some o) (hc : o.cls = .ref C) (hq : R (.ok (.ret (.ref C))) ⟨h, g, d, t, os⟩) :
   codeAny (model prog w) A (.call (.builtin "getset_descriptor.__get__") ⟨[.builtin "object.__class__", .ref a, tp], []⟩) R ⟨h, g, d, t, os⟩ := by
 have L0 : Looks (model prog w) h (typeOf (.ref a)) (.ref C) := hc ▸ (Looks.ld ho).andThen .now
 have L1 := looks_mroIn (M := model prog w) X Z.ob
 refine codeAny_call_builtin (KF.slot_gs).plain (KF.entry_gs) (KF.slot_gs.check _ _ _ _ _ _ _ _ (KF.type_class) (KF.args_gs (.builtin "object.__class__") (.ref a) tp) ?_)
 unfold Builtin.«getset_descriptor.__get__» descrGet; rw [dga_obj]
 refine wpAny_bind (wpAny_pure ?_); unfold descrGetter descrCheckInstance descrNameAndClass isInstance; simp only [KF.owner_class]; repeat lk
 refine ⟨Code.quiet_builtin _ (by decide +kernel), codeAny_builtin (KF.entry_class) ?_⟩; unfold Builtin.«object.__class__» shownTypeOf; repeat lk
 exact hq
theorem ex_entry {tk : Tok} {Q : Fin → Shared → Prop} (Z : ExcCls K C) (X : K.In h) (ho : h.get? a = some o) (hc : o.cls = .ref C) (hq : Q (.done (.ret (.ref C))) ⟨h, g, d, t, os⟩) :
   wpAny (model prog w) A (Builtin.«object.__getattribute__» ⟨[.ref a, .str "__class__" tk], []⟩) Q E ⟨h, g, d, t, os⟩ := by
 have L0 : Looks (model prog w) h (typeOf (.ref a)) (.ref C) := hc ▸ (Looks.ld ho).andThen .now
 have L1 := looks_findIn (M := model prog w) X Z.cl
 have hT5 : (⟨h, g, d, t, os⟩ : Shared).TypeIs (.builtin "object.__class__") "getset_descriptor" := F.typeOf_object_class
 have f5 := F.typeOf_object_class
 have f6 := F.slot_gs_get.lookup
 have f7 := F.slot_gs_set.lookup
 repeat (any_goals (first | assumption | (with_reducible refine wpAny_loadPart_at ho ?_; rw [hc]) | with_reducible refine L1.at ?_ | wp_step))
 refine ex_get Z X ho hc ?_
 repeat (any_goals (first | assumption | wp_step))
theorem ex_check {M : Model} {nameV : Value} {Q : Unit → Shared → Prop} (Z : ExcCls K C) (X : K.In h) (ho : h.get? a = some o) (hc : o.cls = .ref C) (hq : Q () ⟨h, g, d, t, os⟩) :
   wpAny M A (checkBuiltinCall "BaseException.__getattribute__" ⟨[.ref a, nameV], []⟩) Q E ⟨h, g, d, t, os⟩ := by
 have L0 : Looks M h (typeOf (.ref a)) (.ref C) := hc ▸ (Looks.ld ho).andThen .now
 have L1 := looks_mroIn (M := M) X Z.be
 have k1 : builtinKind "BaseException.__getattribute__" = some .slot := by decide +kernel
 have k2 : splitId "BaseException.__getattribute__" = some ("BaseException", "__getattribute__") := by decide +kernel
 have k3 := F.args_bexc_ga (.ref a) nameV
 simp only [checkBuiltinCall, k1, k2]
 refine wpAny_bind ?_
 unfold isInstance
 repeat (first | lk | wp_step)
 exact hq
theorem ex_call {tk : Tok} {R : Result → Shared → Prop} (Z : ExcCls K C) (X : K.In h) (ho : h.get? a = some o) (hc : o.cls = .ref C) (hq : R (.ok (.ret (.ref C))) ⟨h, g, d, t, os⟩) :
   codeAny (model prog w) A (.call (.builtin "BaseException.__getattribute__") ⟨[.ref a, .str "__class__" tk], []⟩) R ⟨h, g, d, t, os⟩ :=
 codeAny_call_builtin PySem.F.attr_ValueError.ga.plain F.entry_bexc_ga (ex_check Z X ho hc (ex_entry Z X ho hc hq))
theorem ex_by {tk : Tok} {Q : Value → Shared → Prop} (Z : ExcCls K C) (X : K.In h) (ho : h.get? a = some o) (hc : o.cls = .ref C) (hq : Q (.ref C) ⟨h, g, d, t, os⟩) :
   wpAny (model prog w) A (getAttrBy (.ref a) (.str "__class__" tk) false) Q E ⟨h, g, d, t, os⟩ := by
 have L0 : Looks (model prog w) h (typeOf (.ref a)) (.ref C) := hc ▸ (Looks.ld ho).andThen .now
 have L1 := looks_findIn (M := model prog w) X Z.ga
 have L2 := looks_findIn (M := model prog w) X Z.no
 have f3 := PySem.F.attr_ValueError.ga.bind (.ref a)
 repeat (any_goals (first | assumption | with_reducible refine L0.at ?_ | with_reducible refine L1.at ?_ | with_reducible refine L2.at ?_ | (with_reducible refine wpAny_loadPart_at ho ?_; rw [hc]) | wp_step))
 refine ex_call Z X ho hc ?_
 repeat (any_goals (first | assumption | wp_step))
theorem ex_attr {Q : Option Value → Shared → Prop} (Z : ExcCls K C) (X : K.In h) (ho : h.get? a = some o) (hc : o.cls = .ref C) (hq : Q (some (.ref C)) ⟨h, g, d, t + 1, os⟩) : wpAny (model prog w) A (getAttr? (.ref a) "__class__") Q E ⟨h, g, d, t, os⟩ := by
 unfold getAttr? getAttrBy?
 repeat (any_goals (first | assumption | with_reducible apply ex_by Z X ho hc | wp_step))
theorem cls_at {K : W.Frag} {C : Addr} (e : W.hasDictIn K C = true) : ∃ c dd cd sl, K.lookup C = some ⟨c, dd, .cls cd, sl⟩ := by
 obtain ⟨cd, h, _⟩ := any_some e
 unfold clsIn at h
 split at h
 · rename_i q; exact ⟨_, _, _, _, q⟩
 · cases h
theorem kitx_exc (Z : ExcCls K C) : KitX K (.ref a) (.ref C) (fun h => ∃ o, h.get? a = some o ∧ o.cls = .ref C) where
 ty := fun M h _ ⟨o, ho, hc⟩ => hc ▸ (Looks.ld ho).andThen .now
 it := fun M h X _ => by
   obtain ⟨c, dd, cd, sl, q⟩ := cls_at Z.ty
   intro A Q E s k z
   unfold isType loadHead
   exact wpAny_bind (wpAny_loadPart (k _ _ (X _ _ q)) (wpAny_pure z))
 ne := fun h tp dd its n sl X htp => by
   obtain ⟨c, dd', cd, sl', q⟩ := cls_at Z.ty
   refine Bool.eq_false_iff.mpr fun z => ?_
   have e : C = tp := Value.ref.inj (beq_iff_eq.mp z)
   have w := X _ _ q
   rw [e, htp] at w
   cases w
 ca := fun {prog w A E Q s} X p k => by
   obtain ⟨h, g, d, t, os⟩ := s
   obtain ⟨o, ho, hc⟩ := p
   exact ex_attr Z X ho hc k
end
def rIsiX (K : W.Frag) (c : Value) : List V → Hp → VK → Prop := fun xs H Q => ∃ a C cv k, xs = [.ref a, cv] ∧ RelV cv c ∧ H a = some (ExcO a (.ref C)) ∧ ExcCls K C ∧ W.kitOne K (.ref C) c = some k ∧ Q (.bl k) H
section
variable {X : Cx}
theorem call_isiX {c : Value} (hu : ∀ cv u, RelV cv c → RelV cv u → u = c) : Jv X (.builtin "isinstance") (rIsiX X.K c) := by
 intro pins s σ H xs us Q I r h
 obtain ⟨a, C, cv, k, rfl, rc, ha, Z, e, q⟩ := h
 obtain ⟨u, u2, rfl, ru, rc2⟩ := r.two
 obtain rfl := hu cv u2 rc rc2
 cases (show u = Value.ref a from ru)
 obtain ⟨p, _, _⟩ := (show ObjOk X.prog X.w H s.heap a (ExcO a (.ref C)) from I.hok a _ ha)
 exact kia_one (kitx_exc Z) I.kIn p e (fun z => nomatch z) fun tk => ⟨.bl k, H, I.tok _, rfl, q⟩
theorem k_isiX (K : W.Frag) {c : Value} (hu : ∀ cv u, RelV cv c → RelV cv u → u = c) (h : X.K = K := by rfl) : Jv X (.builtin "isinstance") (rIsiX K c) := h ▸ call_isiX hu
theorem ref_one {C : Addr} : ∀ cv u, RelV cv (.ref C) → RelV cv u → u = .ref C := by
 intro cv u h1 h2
 cases cv with
 | ref m =>
   have e1 : Value.ref C = Value.ref m := h1
   have e2 : u = Value.ref m := h2
   rw [e2, e1]
 | non => cases (show Value.ref C = Value.none from h1)
 | bl b => cases (show Value.ref C = Value.bool b from h1)
 | int i => obtain ⟨t, e⟩ := (show ∃ t, Value.ref C = Value.int i t from h1); cases e
 | str x => obtain ⟨t, e⟩ := (show ∃ t, Value.ref C = Value.str x t from h1); cases e
 | byt x => obtain ⟨t, e⟩ := (show ∃ t, Value.ref C = Value.bytes x t from h1); cases e
 | flt x => obtain ⟨t, e⟩ := (show ∃ t, Value.ref C = Value.float x t from h1); cases e
 | ty n => cases (show Value.ref C = Value.type n from h1)
theorem count_eqU : ∀ {bs : List Bool} {us : List Value}, Vals (bs.map V.bl) us → us.countP (eqU (.bl true)) = bs.countP id
 | [], _, r => by cases Vals.zero r; rfl
 | b :: bs, _, r => by
   cases r with
   | cons r1 t =>
     rw [List.countP_cons, List.countP_cons, count_eqU t]
     cases (show _ = Value.bool b from r1)
     cases b <;> rfl
theorem flat_bls : ∀ bs : List Bool, (bs.map V.bl).all zYJ = true
 | [] => rfl
 | b :: bs => by rw [List.map_cons, List.all_cons, flat_bls bs]; rfl
def rCountB : V → List V → Hp → VK → Prop := fun x vs H Q => ∃ (l : Addr) (bs : List Bool), x = .ref l ∧ vs = [.bl true] ∧ H l = some (.lst (bs.map V.bl)) ∧ Q (.int (bs.countP id : Nat)) H
theorem mt_countB : MtM X "list.count" rCountB := by
 intro pins s σ H x vs v us Q I rx rv h
 obtain ⟨l, bs, rfl, rfl, hl, q⟩ := h
 cases (show v = Value.ref l from rx)
 obtain ⟨u, rfl, ru⟩ := rv.one
 cases (show u = Value.bool true from ru)
 obtain ⟨its, n, r, ho, hz⟩ := I.lst hl
 refine call_meets PySem.F.slot_list_count ⟨_, ho, rfl⟩ PySem.F.entry_list_count (PySem.F.args_list_count_2 _ _) (SeqAt.list_countAt l its.toArray n none #[] (.bool true) (eqU (.bl true))) ⟨ho, fun y hy => ?_, ?_⟩
 · exact vYJ (x := .bl true) (v := .bool true) rfl rfl r (flat_bls bs) y (by simpa using hy)
 · refine ⟨.int (bs.countP id : Nat), H, I.tok _, ⟨s.toks, ?_⟩, q⟩
   rw [show its.toArray.toList = its by simp, count_eqU r]
def rIndexB : V → List V → Hp → VK → Prop := fun x vs H Q => ∃ (l : Addr) (bs : List Bool) (j : Nat), x = .ref l ∧ vs = [.bl true] ∧ H l = some (.lst (bs.map V.bl)) ∧ bs[j]? = some true ∧ (∀ m, m < j → bs[m]? = some false) ∧ Q (.int (j : Nat)) H
theorem mt_indexB : MtM X "list.index" rIndexB := by
 intro pins s σ H x vs v us Q I rx rv h
 obtain ⟨l, bs, j, rfl, rfl, hl, hj, hb, q⟩ := h
 cases (show v = Value.ref l from rx)
 obtain ⟨u, rfl, ru⟩ := rv.one
 cases (show u = Value.bool true from ru)
 obtain ⟨its, n, r, ho, hz⟩ := I.lst hl
 have at_ : ∀ (m : Nat) (b : Bool), bs[m]? = some b → its[m]? = some (Value.bool b) := fun m b e => by
   obtain ⟨u, h1, h2⟩ := r.get (i := m) (x := .bl b) (by rw [List.getElem?_map, e]; rfl)
   cases (show u = Value.bool b from h2)
   exact h1
 have hjl : j < its.length := (List.getElem?_eq_some_iff.mp (at_ j true hj)).1
 have hlen := r.length
 have hz' : its.length ≤ sizeLine := by rw [← hlen]; exact hz
 rw [sizeLine_eq] at hz'
 refine call_meets PySem.F.slot_list_index ⟨_, ho, rfl⟩ PySem.F.entry_list_index (PySem.F.args_list_index_2 _ _) (SeqAt.list_indexAt l its.toArray n none #[] (.bool true) (eqU (.bl true)) j (by simpa using hjl) (by omega) ?_ (fun m hm hlt => ?_)) ⟨ho, fun y hy => ?_, ?_⟩
 · have e := (List.getElem?_eq_some_iff.mp (at_ j true hj)).2
   show eqU (.bl true) its.toArray[j] = true
   rw [List.getElem_toArray, e]; rfl
 · have e := (List.getElem?_eq_some_iff.mp (at_ m false (hb m hlt))).2
   show eqU (.bl true) its.toArray[m] = false
   rw [List.getElem_toArray, e]; rfl
 · exact vYJ (x := .bl true) (v := .bool true) rfl rfl r (flat_bls bs) y (by simpa using hy)
 · exact ⟨.int (j : Nat), H, I.tok _, ⟨s.toks, rfl⟩, q⟩
end
end L2
namespace L2
open PySem PySem.Spec PyProof.Rows PySem.W
theorem lay_of {d : PyData} (h : SeqAt.shaped d = true) : d.canLay0 = true := by
 unfold SeqAt.shaped at h
 exact (Bool.and_eq_true_iff.mp h).1
theorem eqv_m (a b : Msg) : PyData.eqv (mD a) (mD b) = decide (a = b) := by
 have e : PyData.eqv (mD a) (mD b) = ((a.n == b.n) && ((a.t == b.t) && ((a.x == b.x) && true))) := rfl
 rw [e]
 by_cases h1 : a.n = b.n <;> by_cases h2 : a.t = b.t <;> by_cases h3 : a.x = b.x
 all_goals
   first
   | (have z : a = b := by (cases a; cases b; simp_all)
      rw [decide_eq_true z]; simp [h1, h2, h3])
   | (have z : ¬ a = b := fun w => by (subst w; simp_all)
      rw [decide_eq_false z]; simp [h1, h2, h3])
theorem shaped_m {m : Msg} (h : mOk m) : SeqAt.shaped (mD m) = true := by
 obtain ⟨h1, h2⟩ := h
 have d : PyData.depth (mD m) ≤ 64 := by simp [mD, PyData.depth, PyData.depthAll]
 show (PyData.canLay0 (mD m) && decide (PyData.depth (mD m) ≤ 64)) = true
 rw [Bool.and_eq_true]
 exact ⟨by simp [mD, PyData.canLay0, PyData.canLayAll0, h1, h2], decide_eq_true d⟩
end L2
namespace L2
open PySem PySem.Spec PyProof.Rows PySem.W
theorem ne_D {H : Hp} {x y : V} {d : PyData} {Q : VK} (hx : Has H x d) (hy : Has H y d) (s : SeqAt.shaped d = true) (q : Q (.bl false) H) : rNeD x y H Q := by
 refine ⟨_, _, hx, hy, s, s, ?_⟩
 rw [SeqAt.eqv_refl _ (lay_of s)]; exact q
end L2
namespace L2
open PySem PySem.Spec PyProof.Rows PySem.W
structure Stp (ps : List Addr) (H : Hp) (ps' : List Addr) (H' : Hp) : Prop where
 but : But ps H H'
 tup : Tups H H'
 new : ∀ c ∈ ps', c ∈ ps ∨ H c = none
theorem Stp.free {ps ps' : List Addr} {H H' : Hp} (s : Stp ps H ps' H') {c : Addr} (h : H' c = none) (hc : c ∉ ps) : H c = none := by
 cases q : H c with
 | none => rfl
 | some o => rw [s.but c o q hc] at h; cases h
theorem Stp.free' {ps ps' : List Addr} {H H' : Hp} (s : Stp ps H ps' H') {c : Addr} (h : H' c = none) : c ∈ ps ∨ H c = none := by
 by_cases hc : c ∈ ps
 · exact .inl hc
 · exact .inr (s.free h hc)
theorem Stp.trans {ps ps' ps'' : List Addr} {H H' H'' : Hp} (s : Stp ps H ps' H') (t : Stp ps' H' ps'' H'') : Stp ps H ps'' H'' := by
 refine ⟨fun c o h hc => t.but c o (s.but c o h hc) fun hc' => ?_, s.tup.trans t.tup, fun c hc => ?_⟩
 · rcases s.new c hc' with z | z
   · exact hc z
   · rw [z] at h; cases h
 · rcases t.new c hc with z | z
   · exact s.new c z
   · exact s.free' z
theorem Stp.refl (ps : List Addr) (H : Hp) : Stp ps H ps H := ⟨fun _ _ h _ => h, Tups.refl H, fun _ h => .inl h⟩
theorem Same.step {H H' : Hp} (e : Same H H') (ps : List Addr) : Stp ps H ps H' := ⟨fun c o h _ => e c o h, e.tups, fun _ h => .inl h⟩
theorem Stp.weak {ps ps' qs qs' : List Addr} {H H' : Hp} (s : Stp ps H ps' H') (h : ∀ c ∈ ps, c ∈ qs) (h' : ∀ c ∈ qs', c ∈ ps' ∨ c ∈ qs) : Stp qs H qs' H' :=
 ⟨fun c o e hc => s.but c o e fun z => hc (h c z), s.tup, fun c hc => by
   rcases h' c hc with z | z
   · rcases s.new c z with y | y
     · exact .inl (h c y)
     · exact .inr y
   · exact .inl z⟩
theorem Stp.same {ps' : List Addr} {H H' : Hp} (s : Stp [] H ps' H') : Same H H' := fun c o h => s.but c o h List.not_mem_nil
theorem Stp.keep {ps ps' : List Addr} {H H' : Hp} (s : Stp ps H ps' H') {c : Addr} {o : HO} (h : H c = some o) (hc : c ∉ ps) : H' c = some o := s.but c o h hc
theorem Stp.out {ps ps' : List Addr} {H H' : Hp} (s : Stp ps H ps' H') {c : Addr} {o : HO} (h : H c = some o) (hc : c ∉ ps) : c ∉ ps' := fun z => by
 rcases s.new c z with y | y
 · exact hc y
 · rw [y] at h; cases h
theorem Stp.put {ps : List Addr} {H : Hp} {p : Addr} {u o : HO} (h : H p = some u) (hn : ∀ xs, u ≠ .tup xs) (hp : p ∈ ps) : Stp ps H ps (upd H p o) :=
 ⟨fun c o' e hc => by rw [qY (fun z => hc (by rw [z]; exact hp))]; exact e, (Tups.refl H).put h hn, fun _ z => .inl z⟩
theorem Stp.make {ps : List Addr} {H : Hp} {p : Addr} {o : HO} (h : H p = none) : Stp ps H (p :: ps) (upd H p o) :=
 ⟨fun c o' e hc => by rw [qY (qB e h)]; exact e, (Same.new h).tups, fun c z => by
   rcases List.mem_cons.mp z with rfl | z
   · exact .inr h
   · exact .inl z⟩
theorem Ms.step {ps ps' : List Addr} {H H' : Hp} {xs : List V} {ms : List Msg} (h : Ms H xs ms) (s : Stp ps H ps' H') : Ms H' xs ms := h.tups s.tup
theorem Stp.obj {H : Hp} {p dx : Addr} {o o' : HO} (np : H p = none) (nd : H dx = none) : Stp [] H [p] (upd (upd H dx o) p o') := by
 have e : Same H (upd (upd H dx o) p o') := fun b u h => by rw [qY (qB h np), qY (qB h nd)]; exact h
 exact ⟨fun c u h _ => e c u h, e.tups, fun c hc => by
   rw [List.mem_singleton] at hc
   rw [hc]; exact .inr np⟩
def tCut (t u : TS) : TS := fun D σ H => ∃ J : St → Hp → Prop, (∀ σ' H', J σ' H' → u D σ' H') ∧ t { D with nx := J } σ H
theorem pss_cut {X : Cx} {st : Stmt} {rest : List Stmt} {t u : TS} (h1 : PS X st t) (h2 : PSs X rest u) : PSs X (st :: rest) (tCut t u) := by
 intro pins s σ H D I h
 obtain ⟨J, hJ, h⟩ := h
 refine wpAny_execs_cons (thn (h1 pins s σ H { D with nx := J } I h) fun f s1 q => ?_)
 cases f with
 | next =>
   obtain ⟨σ', H', I', q⟩ := q
   exact h2 pins s1 σ' H' D I' (hJ _ _ q)
 | ret v => exact q
 | brk => exact q
 | cont => exact q
theorem hasL_ints {H : Hp} : ∀ ns : List Int, HasL H (ns.map V.int) (ns.map PyData.int)
 | [] => Mz
 | n :: r => zV (JD n) (hasL_ints r)
theorem lay_ints : ∀ ns : List Int, PyData.canLayAll0 (ns.map PyData.int) = true
 | [] => rfl
 | n :: r => by simp only [List.map_cons, PyData.canLayAll0, PyData.canLay0, lay_ints r, Bool.and_true]
theorem depth_ints : ∀ ns : List Int, PyData.depthAll (ns.map PyData.int) ≤ 3
 | [] => by simp [PyData.depthAll]
 | n :: r => by
   have := depth_ints r
   simp only [List.map_cons, PyData.depthAll, PyData.depth]; omega
theorem shaped_ints (ns : List Int) : SeqAt.shaped (.list (ns.map PyData.int)) = true := by
 have h1 := depth_ints ns
 have h2 : PyData.depth (.list (ns.map PyData.int)) ≤ 64 := by simp only [PyData.depth]; omega
 show (PyData.canLay0 (.list (ns.map PyData.int)) && decide (PyData.depth (.list (ns.map PyData.int)) ≤ 64)) = true
 rw [Bool.and_eq_true]
 exact ⟨by simp only [PyData.canLay0, lay_ints], decide_eq_true h2⟩
theorem eqv_ints (ns : List Int) : PyData.eqv (.list (ns.map PyData.int)) (.list (ns.map PyData.int)) = true :=
 SeqAt.eqv_refl _ (by simp only [PyData.canLay0, lay_ints])
theorem ne_ints {H : Hp} {a b : Addr} {ns : List Int} {Q : VK} (ha : H a = some (.lst (ns.map V.int))) (hb : H b = some (.lst (ns.map V.int))) (q : Q (.bl false) H) : rNeD (.ref a) (.ref b) H Q := by
 refine ⟨_, _, Yw ha (hasL_ints ns), Yw hb (hasL_ints ns), shaped_ints ns, shaped_ints ns, ?_⟩
 rw [eqv_ints]; exact q
theorem vJY {xs : List V} {t : Int} (h0 : 0 ≤ t) : cutV xs (some t) none = xs.drop t.toNat := by
 obtain ⟨k, rfl⟩ : ∃ k : Nat, t = (k : Int) := ⟨t.toNat, by omega⟩
 unfold cutV
 rw [HT.sIx_nat, HT.sIx_none, Int.toNat_natCast]
 rw [List.take_of_length_le (by rw [List.length_drop]; exact Nat.le_refl _)]
 by_cases h : k ≤ xs.length
 · rw [Nat.min_eq_left h]
 · rw [Nat.min_eq_right (by omega), List.drop_of_length_le (Nat.le_refl _), List.drop_of_length_le (by omega)]
theorem cut_to {xs : List V} {t : Int} (h0 : 0 ≤ t) : cutV xs none (some t) = xs.take t.toNat := by
 obtain ⟨k, rfl⟩ : ∃ k : Nat, t = (k : Int) := ⟨t.toNat, by omega⟩
 unfold cutV
 rw [HT.sIx_nat, HT.sIx_none, Int.toNat_natCast, List.drop_zero, Nat.sub_zero]
 by_cases h : k ≤ xs.length
 · rw [Nat.min_eq_left h]
 · rw [Nat.min_eq_right (by omega), List.take_of_length_le (Nat.le_refl _), List.take_of_length_le (by omega)]
def PMap (H : Hp) (ms : List Msg) (f : Msg → V) : Nat → List V → Hp → Prop := fun i ys H2 => H2 = H ∧ ys = (ms.take i).map f
section
variable {K : W.Frag} {a : Addr} {xs : List V} {ms : List Msg} {g : TG} {tc : TT} {te : TE} {τ : St} {H : Hp} {f : Msg → V} {p : Msg → Bool}
theorem PMap.zero : PMap H ms f 0 [] H := ⟨rfl, by simp⟩
theorem szl {n : Nat} (h : n < 1000) : n ≤ sizeLine := by rw [sizeLine_eq]; omega
theorem PMap.step (ha : H a = some (.lst xs)) (hm : Ms H xs ms)
   (hs : ∀ c m (R : VK) (N : Hp → Prop), m ∈ ms → H c = some (mT m) → R (f m) H → g (.ref c) τ H fun σ4 H4 => tc σ4 H4 fun b H5 => if b = true then te σ4 H5 R else N H5) :
   ∀ i ys H2, i < ms.length → PMap H ms f i ys H2 → (Itl K a).go i H2 ∧ ∀ x H3, (Itl K a).yld i H2 x H3 → g x τ H3 fun σ4 H4 => tc σ4 H4 fun b H5 => if b = true then te σ4 H5 fun y H6 => PMap H ms f (i + 1) (ys ++ [y]) H6 else PMap H ms f (i + 1) ys H5 := by
 rintro i ys H2 hi ⟨rfl, rfl⟩
 obtain ⟨c, ec, hc⟩ := hm.get hi
 refine ⟨⟨xs, .ref c, SqL.ofL ha, ec⟩, ?_⟩
 rintro x H3 ⟨rfl, hx⟩
 have hx' := hx xs (SqL.ofL ha)
 rw [ec] at hx'
 obtain rfl := Option.some.inj hx'
 refine hs c _ _ _ (List.getElem_mem hi) hc ⟨rfl, ?_⟩
 rw [List.take_add_one, List.getElem?_eq_getElem hi, List.map_append]; rfl
theorem PMap.done (ha : H a = some (.lst xs)) (hm : Ms H xs ms) {ys : List V} {H2 : Hp} (h : PMap H ms f ms.length ys H2) : (Itl K a).stop ms.length H2 ∧ H = H2 ∧ ys = ms.map f := by
 obtain ⟨rfl, rfl⟩ := h
 rw [List.take_length]
 exact ⟨⟨xs, SqL.ofL ha, by rw [hm.len]; exact Nat.le_refl _⟩, rfl, rfl⟩
end
structure RS where
 rows : List Msg
 out : List Int
 cut : Bool
def yUY (sz : Int) (way : Str) (s : RS) : Bool := if s.cut = true then false else if (s.rows.length : Int) < sz then true else if way = "old" then true else false
def ZD (sz : Int) (way : Str) (s : RS) (m : Msg) : RS :=
 if s.cut = true then { s with out := s.out ++ [m.n] }
 else if (s.rows.length : Int) < sz then { s with rows := s.rows ++ [m] }
 else if way = "old" then { s with rows := s.rows.drop 1 ++ [m], out := s.out ++ (s.rows.take 1).map (·.n) }
 else if way = "new" then { s with out := s.out ++ [m.n] }
 else ⟨[], s.out ++ (s.rows ++ [m]).map (·.n), true⟩
def rF (sz : Int) (way : Str) (r d : Addr) (b : Bool) : List (Str × V) := [("size", .int sz), ("way", .str way), ("row", .ref r), ("dropped", .ref d), ("broken", .bl b)]
section
variable {sz : Int} {way : Str} {r d : Addr} {b : Bool}
theorem rF_size : (rF sz way r d b).lookup ("size" : Str) = some (V.int sz) := Zy
theorem rF_way : (rF sz way r d b).lookup ("way" : Str) = some (V.str way) := (yQ (by decide +kernel)).trans Zy
theorem vQY : (rF sz way r d b).lookup ("row" : Str) = some (V.ref r) := (yQ (by decide +kernel)).trans ((yQ (by decide +kernel)).trans Zy)
theorem rF_dropped : (rF sz way r d b).lookup ("dropped" : Str) = some (V.ref d) := (yQ (by decide +kernel)).trans ((yQ (by decide +kernel)).trans ((yQ (by decide +kernel)).trans Zy))
theorem rF_broken : (rF sz way r d b).lookup ("broken" : Str) = some (V.bl b) := (yQ (by decide +kernel)).trans ((yQ (by decide +kernel)).trans ((yQ (by decide +kernel)).trans ((yQ (by decide +kernel)).trans Zy)))
theorem rF_no {f : Str} (h1 : ¬ f = "size") (h2 : ¬ f = "way") (h3 : ¬ f = "row") (h4 : ¬ f = "dropped") (h5 : ¬ f = "broken") : (rF sz way r d b).lookup f = none :=
 (yQ h1).trans ((yQ h2).trans ((yQ h3).trans ((yQ h4).trans (yQ h5))))
theorem rF_make : putF "broken" (.bl b) (putF "dropped" (.ref d) (putF "row" (.ref r) (putF "way" (.str way) (putF "size" (.int sz) [])))) = rF sz way r d b := by
 show putF "broken" (.bl b) (putF "dropped" (.ref d) (putF "row" (.ref r) (putF "way" (.str way) [("size", .int sz)]))) = _
 rw [yV (by decide +kernel)]
 show putF "broken" (.bl b) (putF "dropped" (.ref d) (putF "row" (.ref r) [("size", .int sz), ("way", .str way)])) = _
 rw [yV (by decide +kernel), yV (by decide +kernel)]
 show putF "broken" (.bl b) (putF "dropped" (.ref d) [("size", .int sz), ("way", .str way), ("row", .ref r)]) = _
 rw [yV (by decide +kernel), yV (by decide +kernel), yV (by decide +kernel)]
 show putF "broken" (.bl b) [("size", .int sz), ("way", .str way), ("row", .ref r), ("dropped", .ref d)] = _
 rw [yV (by decide +kernel), yV (by decide +kernel), yV (by decide +kernel), yV (by decide +kernel)]
 rfl
theorem rF_setRow {r' : Addr} : putF "row" (.ref r') (rF sz way r d b) = rF sz way r' d b := by
 unfold rF
 rw [yV (by decide +kernel), yV (by decide +kernel), pf_hit]
theorem QZQ {b' : Bool} : putF "broken" (.bl b') (rF sz way r d b) = rF sz way r d b' := by
 unfold rF
 rw [yV (by decide +kernel), yV (by decide +kernel), yV (by decide +kernel), yV (by decide +kernel), pf_hit]
end
structure RAt (C : Addr) (H : Hp) (p : Addr) (sz : Int) (way : Str) (s : RS) (r d : Addr) : Prop where
 ob : ∃ dx, H p = some (.ins C dx (rF sz way r d s.cut))
 ro : ∃ ys, H r = some (.lst ys) ∧ Ms H ys s.rows
 dr : H d = some (.lst (s.out.map V.int))
 ne : r ≠ d
section
variable {C : Addr} {H H' : Hp} {p : Addr} {sz : Int} {way : Str} {s : RS} {r d : Addr}
theorem RAt.step {ps ps' : List Addr} (h : RAt C H p sz way s r d) (st : Stp ps H ps' H') (hd : ∀ c ∈ [p, r, d], c ∉ ps) : RAt C H' p sz way s r d := by
 obtain ⟨⟨dx, h1⟩, ⟨ys, h2, h3⟩, h4, h5⟩ := h
 exact ⟨⟨dx, st.keep h1 (hd _ (by simp))⟩, ⟨ys, st.keep h2 (hd _ (by simp)), h3.step st⟩, st.keep h4 (hd _ (by simp)), h5⟩
theorem RAt.out {ps ps' : List Addr} (h : RAt C H p sz way s r d) (st : Stp ps H ps' H') (hd : ∀ c ∈ [p, r, d], c ∉ ps) : ∀ c ∈ [p, r, d], c ∉ ps' := by
 obtain ⟨⟨dx, h1⟩, ⟨ys, h2, h3⟩, h4, h5⟩ := h
 intro c hc
 have hc' := hd c hc
 simp only [List.mem_cons, List.not_mem_nil, or_false] at hc
 rcases hc with rfl | rfl | rfl
 · exact st.out h1 hc'
 · exact st.out h2 hc'
 · exact st.out h4 hc'
theorem RAt.same (h : RAt C H p sz way s r d) (e : Same H H') : RAt C H' p sz way s r d := h.step (e.step []) fun _ _ => List.not_mem_nil
theorem RAt.free (h : RAt C H p sz way s r d) {c : Addr} (hc : H c = none) : c ∉ [p, r, d] := by
 obtain ⟨⟨dx, h1⟩, ⟨ys, h2, h3⟩, h4, h5⟩ := h
 simp [(qB h1 hc).symm, (qB h2 hc).symm, (qB h4 hc).symm]
theorem RAt.npr (h : RAt C H p sz way s r d) : p ≠ r := by
 obtain ⟨⟨dx, h1⟩, ⟨ys, h2, h3⟩, h4, h5⟩ := h
 exact zJ h1 h2 (by intro z; cases z)
theorem RAt.npd (h : RAt C H p sz way s r d) : p ≠ d := by
 obtain ⟨⟨dx, h1⟩, ⟨ys, h2, h3⟩, h4, h5⟩ := h
 exact zJ h1 h4 (by intro z; cases z)
end
structure RoadC (K : W.Frag) (mg : Str → Option Value) (C : Addr) : Prop where
 cl_Road : Cls K C
 mg_Road : mg "Road" = some (.ref C)
 n_size : NoAttr K C "size"
 n_way : NoAttr K C "way"
 n_row : NoAttr K C "row"
 n_dropped : NoAttr K C "dropped"
 n_broken : NoAttr K C "broken"
theorem Stp.up {ps qs : List Addr} {H H' : Hp} (s : Stp ps H ps H') (h : ∀ c ∈ ps, c ∈ qs) : Stp qs H qs H' := s.weak h fun _ z => .inr z
def spInitR (C : Addr) : Sp := fun vs H Q _ => ∃ (p dx : Addr) (sz : Int) (way : Str), vs = [.ref p, .int sz, .str way] ∧ H p = some (.ins C dx []) ∧
 ∀ r d H', RAt C H' p sz way ⟨[], [], false⟩ r d → Stp [p] H [p, r, d] H' → Q .non H'
def spLeave (C : Addr) : Sp := fun vs H Q _ => ∃ p b xs ms sz way s r d, vs = [.ref p, .ref b] ∧ RAt C H p sz way s r d ∧ H b = some (.lst xs) ∧ Ms H xs ms ∧ ms.length < 64 ∧ s.out.length < 1000 ∧
 ∀ H', RAt C H' p sz way { s with out := s.out ++ ms.map (·.n) } r d → Stp [d] H [d] H' → Q .non H'
def spPut (C : Addr) : Sp := fun vs H Q _ => ∃ p c m sz way s r d, vs = [.ref p, .ref c] ∧ RAt C H p sz way s r d ∧ H c = some (mT m) ∧ s.rows.length < 63 ∧ s.out.length < 1000 ∧
 ∀ r' H', RAt C H' p sz way (ZD sz way s m) r' d → Stp [p, r, d] H [p, r', d] H' → Q (.bl (yUY sz way s)) H'
def spPutW (C : Addr) : Sp := fun vs H Q _ => ∃ p c m sz way s r d, vs = [.ref p, .ref c] ∧ RAt C H p sz way s r d ∧ H c = some (mT m) ∧ s.rows.length < 63 ∧ s.out.length < 1000 ∧ s.cut = false ∧ ¬ (s.rows.length : Int) < sz ∧
 ∀ r' H', RAt C H' p sz way (ZD sz way s m) r' d → Stp [p, r, d] H [p, r', d] H' → Q (.bl (yUY sz way s)) H'
def spTakeR (C : Addr) : Sp := fun vs H Q _ => ∃ p n sz way s r d, vs = [.ref p, .int n] ∧ RAt C H p sz way s r d ∧ 0 ≤ n ∧
 ∀ l ys r' H', RAt C H' p sz way { s with rows := s.rows.drop n.toNat } r' d → Stp [p, r, d] H [p, r', d] H' → H l = none → l ∉ [p, r', d] → H' l = some (.lst ys) → Ms H' ys (s.rows.take n.toNat) → Q (.ref l) H'
def spWait (C : Addr) : Sp := fun vs H Q _ => ∃ p sz way s r d, vs = [.ref p] ∧ RAt C H p sz way s r d ∧ ∀ l ys, H l = none → Ms (upd H l (.lst ys)) ys s.rows → Q (.ref l) (upd H l (.lst ys))
def spMend (C : Addr) : Sp := fun vs H Q _ => ∃ p sz way s r d, vs = [.ref p] ∧ RAt C H p sz way s r d ∧ ∀ H', RAt C H' p sz way { s with cut := false } r d → Stp [p, r, d] H [p, r, d] H' → Q .non H'
end L2
namespace L2
open PySem PySem.Spec PyProof.Rows PySem.W
section
variable {X : Cx}
theorem items_keys {P : Program} {w : World} {kvs : List (Key × V)} : ∀ {ws : List (Key × Value)} {vs : List Value}, KV kvs ws → vs.length = ws.length → (∀ (j : Nat) (v : Value), vs[j]? = some v → ∃ k x, ws[j]? = some (k, x) ∧ (vB P w).is k v = true) → Vals (kvs.map fun kv => kV kv.1) vs := by
 induction kvs with
 | nil =>
   intro ws vs r e h
   cases r
   rw [List.eq_nil_of_length_eq_zero e]; exact .nil
 | cons kv kvs ih =>
   intro ws vs r e h
   cases r with
   | @cons _ w1 _ ws r1 r2 =>
     cases vs with
     | nil => simp at e
     | cons v vs =>
       refine .cons ?_ (ih r2 (by simpa using e) fun j u hu => h (j + 1) u (by simpa using hu))
       obtain ⟨k, x, hk, hi⟩ := h 0 v rfl
       have hk' : w1 = (k, x) := Option.some.inj hk
       show RelV (kV kv.1) v
       rw [r1.1, hk']
       have hi' : keyIs k v = true := hi
       rcases zy hi' with ⟨i, t, e1, e2⟩ | ⟨y, t, e1, e2⟩
       · rw [e1, e2]; exact ⟨t, rfl⟩
       · rw [e1, e2]; exact ⟨t, rfl⟩
theorem coll_keys {d : Addr} {H : Hp} {kvs : List (Key × V)} (hd : H d = some (.dK kvs)) : Coll X (.ref d) H (kvs.map fun kv => kV kv.1) := by
 intro pins s σ v A E Q I r hh hq
 cases r
 obtain ⟨hz, lo, ws, rk, hD⟩ := dk_of I.hok hd
 obtain ⟨ep, hat⟩ := hD.dictAt
 have hl : kvs.length = ws.length := Paired.length rk
 have grow : ∀ b o, s.heap.get? b = some o → (s.heap.push (seqObj "list" #[] 0)).get? b = some o := fun b o e => Heap.get?_push_of_some _ e
 have hat1 : (s.heap.push (seqObj "list" #[] 0)).DictAt (vB X.prog X.w) d ws ep := hat.at' fun o e => grow _ _ e
 have ld : d < s.heap.objs.size := hat.lt_size
 unfold collect
 refine wpAny_bind (wpAny_runValue (codeAny_builtin entry_proto_collect' ?_))
 show wpAny _ _ (do again (.builtin "list.__iadd__" ⟨[← newList [], .ref d], []⟩)) _ _ s
 refine wpAny_bind (wpAny_newList (wpAny_pure ⟨Code.quiet_builtin _ (by decide +kernel), codeAny_builtin entry_list_iadd' ?_⟩))
 show wpAny _ _ (Builtin.List.listExtendWith (.ref s.heap.objs.size) (.ref d) (.ref s.heap.objs.size)) _ _ { s with heap := s.heap.push (seqObj "list" #[] 0) }
 rw [Around.under_plainId (show plainId "list.__iadd__" = true by decide +kernel) _]
 have fin : ∀ s' : Shared, (∃ acc c, s'.heap.get? s.heap.objs.size = some { cls := .type "list", dict := none, data := .seq acc c, slots := #[] } ∧ Vals (kvs.map fun kv => kV kv.1) acc.toList ∧ Inv X pins σ H s') →
     wpAny (model X.prog X.w) A (do
       let o ← load s.heap.objs.size
       match o.data with
       | .seq xs _ => pure xs.toList
       | _ => unsupported "internal:collect") Q E s' := by
   rintro s' ⟨acc, c, hS, e, I'⟩
   refine wpAny_bind (wpAny_load hS ?_)
   show wpAny _ _ (pure acc.toList) Q E _
   exact wpAny_pure (hq _ _ e I')
 refine wpAny_mono (W.kdl_extend (R := fun r s' => r = .ok (.ret (.ref s.heap.objs.size)) ∧ ∃ acc c, s'.heap.get? s.heap.objs.size = some { cls := .type "list", dict := none, data := .seq acc c, slots := #[] } ∧ Vals (kvs.map fun kv => kV kv.1) acc.toList ∧ Inv X pins σ H s')
   (s := { s with heap := s.heap.push (seqObj "list" #[] 0) }) (W.kdl_dict (knd := vB X.prog X.w) (kvs := ws) (ep := ep) lo) hh hat1 s.heap.objs.size (Nat.ne_of_gt ld) (Nat.ne_of_gt ld) _ 0 (Heap.get?_push_size _ rfl) (fun h' tk acc c hk hS hacc => ?_) (show ws.length ≤ sizeLine by omega))
   (fun fi s' hf => ?_) (fun e s' he => nomatch he.1)
 · refine ⟨rfl, acc, c, hS, items_keys rk (by rw [Array.length_toList]; exact hacc.1) (fun j u hu => hacc.2 j u (by rw [← Array.getElem?_toList]; exact hu)), I.kept fun b o eb => hk b o (Nat.ne_of_lt (Heap.lt_size eb)) (grow b o eb)⟩
 · cases fi with
   | done f =>
     obtain ⟨e, g⟩ := hf
     cases e
     exact fin s' g
   | again c' =>
     refine ⟨hf.1, codeAny_mono hf.2 fun r s2 ⟨e, g⟩ => ?_⟩
     subst e
     exact fin s2 g
theorem ints_are : ∀ {ns : List Int} {us : List Value}, Vals (ns.map V.int) us → IntsAre us ns := fun r => intsAre_of r
def rgs (lo : Int) (n : Nat) : List Int := (List.range n).map fun (i : Nat) => lo + (i : Int)
section
variable {prog : Program} {w : World} {A : Around} {I : Addr} {fp wr : List Addr} {G : Array GenState → Array GenState → Prop} {n : Nat} {P : Nat → Value → Prop} {St : Nat → Shared → Prop} {R : Result → Shared → Prop} {kw : List (Str × Value)}
theorem mx_turns (W : WalksS prog w A.in1 I fp wr G n P St) (lt : Nat → Nat → Bool) (hlt : CmpOf prog w A.in1 .Gt P lt) (B : Addr) (hB : B ∉ fp) :
   ∀ (m k : Nat) (s : Shared) (top : Value) (c : Nat), n - (k + 1) = m → k + 1 ≤ n → St (k + 1) s → P (argBest lt k) top →
   s.heap.get? B = some { cls := .type "list", dict := none, data := .seq #[top, top] c, slots := #[] } →
   (∀ v z, P (argBest lt (n - 1)) v → Moved (B :: wr) G s z → R (.ok (.ret v)) z) → codeAny (model prog w) A (.builtin "max.loop" ⟨[.ref I, .none, .ref B], kw⟩) R s := by
 have hBw : B ∉ wr := fun z => hB (W.sub _ z)
 have up : ∀ b ∈ wr, b ∈ B :: wr := fun b z => List.mem_cons_of_mem _ z
 have nm : (toString "max" ++ toString ".loop" : String) = "max.loop" := by decide
 have ne : ∀ {b : Addr}, b ∉ B :: wr → B ≠ b := fun z e => z (by rw [e]; exact List.mem_cons_self)
 intro m
 induction m with
 | zero =>
   intro k s top c hm hk st hP hS fin
   have last : k + 1 = n := by omega
   refine codeAny_builtin F.entry_max_loop ?_
   rw [Around.under_plainId F.plain_max_loop _]
   show wpAny _ A.in1 (seqItems? (.ref B) >>= _) _ _ s
   refine wpAny_bind (wpAny_seqItems hS rfl ?_)
   show wpAny _ A.in1 (tryCatch (pyNext (.ref I)) _ >>= _) _ _ s
   refine wpAny_bind (wpAny_tryCatch (W.done s _ _ (last ▸ st) fun z mv => ?_))
   have hz := mv.heap B _ hBw hS
   show wpAny _ A.in1 (updateSeq B (fun _ => #[]) >>= _) _ _ _
   refine wpAny_bind (wpAny_updateSeq hz rfl (wpAny_bind (wpAny_letGo (wpAny_pure ?_))))
   exact fin top _ (by rw [← last]; exact hP) ((mv.mono up).then_heap (tk := z.toks) (Nat.le_refl _) fun b o hb e => (Heap.get?_update_other _ _ (ne hb)).trans e)
 | succ m ih =>
   intro k s top c hm hk st hP hS fin
   have more : k + 1 < n := by omega
   refine codeAny_builtin F.entry_max_loop ?_
   rw [Around.under_plainId F.plain_max_loop _]
   show wpAny _ A.in1 (seqItems? (.ref B) >>= _) _ _ s
   refine wpAny_bind (wpAny_seqItems hS rfl ?_)
   show wpAny _ A.in1 (tryCatch (pyNext (.ref I)) _ >>= _) _ _ s
   refine wpAny_bind (wpAny_tryCatch (W.item (k + 1) s _ _ more st fun v z hv st' mv => ?_))
   have hz := mv.heap B _ hBw hS
   show wpAny _ A.in1 (tryCatch (holding [v, v] (richCompare .Gt v top >>= _)) _ >>= _) _ _ _
   refine wpAny_bind (wpAny_tryCatch (wpAny_holding (wpAny_bind (hlt (k + 1) (argBest lt k) v top _ _ _ hv hP ?_))))
   refine wpAny_bind (wpAny_holding (wpAny_truthy_bool (wpAny_bind (wpAny_letGo (wpAny_pure ?_)))))
   cases hb : lt (k + 1) (argBest lt k) with
   | true =>
     simp only [if_true]
     refine wpAny_bind (wpAny_updateSeq hz rfl (wpAny_bind (wpAny_letGo ?_)))
     rw [nm]
     refine wpAny_pure ⟨plainId_quiet F.plain_max_loop _, ih (k + 1) _ v _ (by omega) more (W.frame _ z _ z.toks st' (Nat.le_refl _) fun b hbf o e => ?_) (by simp only [argBest, hb, if_true]; exact hv) (Heap.get?_update_self _ hz rfl) fun v' z' hv' mv' => ?_⟩
     · exact (Heap.get?_update_other _ _ (fun x : B = b => hB (by rw [x]; exact hbf))).trans e
     · exact fin v' z' hv' (Moved.trans W.gtrans ((mv.mono up).then_heap (Nat.le_refl _) fun b o hb e => (Heap.get?_update_other _ _ (ne hb)).trans e) mv')
   | false =>
     simp only [Bool.false_eq_true, if_false]
     refine wpAny_bind (wpAny_letGo ?_)
     rw [nm]
     refine wpAny_pure ⟨plainId_quiet F.plain_max_loop _, ih (k + 1) _ top c (by omega) more st' (by simp only [argBest, hb, Bool.false_eq_true, if_false]; exact hP) hz fun v' z' hv' mv' => ?_⟩
     exact fin v' z' hv' (Moved.trans W.gtrans (mv.mono up) mv')
theorem mx_first (W : WalksS prog w A.in1 I fp wr G n P St) (lt : Nat → Nat → Bool) (hlt : CmpOf prog w A.in1 .Gt P lt) (B : Addr) (hB : B ∉ fp) (hn : 0 < n) {s : Shared} {c : Nat} (st : St 0 s)
   (hS : s.heap.get? B = some { cls := .type "list", dict := none, data := .seq #[] c, slots := #[] })
   (fin : ∀ v z, P (argBest lt (n - 1)) v → Moved (B :: wr) G s z → R (.ok (.ret v)) z) : codeAny (model prog w) A (.builtin "max.loop" ⟨[.ref I, .none, .ref B], kw⟩) R s := by
 have hBw : B ∉ wr := fun z => hB (W.sub _ z)
 have up : ∀ b ∈ wr, b ∈ B :: wr := fun b z => List.mem_cons_of_mem _ z
 have nm : (toString "max" ++ toString ".loop" : String) = "max.loop" := by decide
 have ne : ∀ {b : Addr}, b ∉ B :: wr → B ≠ b := fun z e => z (by rw [e]; exact List.mem_cons_self)
 refine codeAny_builtin F.entry_max_loop ?_
 rw [Around.under_plainId F.plain_max_loop _]
 show wpAny _ A.in1 (seqItems? (.ref B) >>= _) _ _ s
 refine wpAny_bind (wpAny_seqItems hS rfl ?_)
 show wpAny _ A.in1 (tryCatch (pyNext (.ref I)) _ >>= _) _ _ s
 refine wpAny_bind (wpAny_tryCatch (W.item 0 s _ _ hn st fun v z hv st' mv => ?_))
 have hz := mv.heap B _ hBw hS
 show wpAny _ A.in1 (updateSeq B (fun _ => #[v, v]) >>= _) _ _ _
 refine wpAny_bind (wpAny_updateSeq hz rfl ?_)
 rw [nm]
 refine wpAny_pure ⟨plainId_quiet F.plain_max_loop _, mx_turns W lt hlt B hB _ 0 _ v _ rfl hn (W.frame _ z _ z.toks st' (Nat.le_refl _) fun b hbf o e => ?_) hv (Heap.get?_update_self _ hz rfl) fun v' z' hv' mv' => ?_⟩
 · exact (Heap.get?_update_other _ _ (fun x : B = b => hB (by rw [x]; exact hbf))).trans e
 · exact fin v' z' hv' (Moved.trans W.gtrans ((mv.mono up).then_heap (Nat.le_refl _) fun b o hb e => (Heap.get?_update_other _ _ (ne hb)).trans e) mv')
theorem mx_none (W : WalksS prog w A.in1 I fp wr G n P St) (h0 : n = 0) (B : Addr) (hB : B ∉ fp) {s : Shared} {c : Nat} {d : Value} {x : Str} (st : St 0 s)
   (hS : s.heap.get? B = some { cls := .type "list", dict := none, data := .seq #[] c, slots := #[] })
   (fin : ∀ z, Moved wr G s z → R (.ok (.ret d)) z) : codeAny (model prog w) A (.builtin "max.loop" ⟨[.ref I, .none, .ref B], [(x, d)]⟩) R s := by
 refine codeAny_builtin F.entry_max_loop ?_
 rw [Around.under_plainId F.plain_max_loop _]
 show wpAny _ A.in1 (seqItems? (.ref B) >>= _) _ _ s
 refine wpAny_bind (wpAny_seqItems hS rfl ?_)
 show wpAny _ A.in1 (tryCatch (pyNext (.ref I)) _ >>= _) _ _ s
 refine wpAny_bind (wpAny_tryCatch (W.done s _ _ (h0 ▸ st) fun z mv => ?_))
 show wpAny _ A.in1 (rule _ >>= _) _ _ _
 refine wpAny_bind (wpAny_rule (wpAny_pure ?_))
 exact fin z mv
end
theorem args_maxD (a v : Value) : argsOk "max" ⟨[a], [(Str.ofString "default", v)]⟩ := by unfold argsOk; kernel_rfl
theorem max_default {prog : Program} {w : World} {A : Around} {E : Value → Shared → Prop} {s : Shared} {l : Addr} {vs : List Value} {ns : List Int} {d : Value} {Q : Value → Shared → Prop} (hh : A.handled = none) (hl : s.heap.IsList l vs.toArray) (hi : IntsAre vs ns)
   (q0 : ns = [] → ∀ h' tk, (∀ b o, s.heap.get? b = some o → h'.get? b = some o) → Q d { s with heap := h', toks := tk })
   (q1 : ∀ M (t : Tok) h' tk, (∀ b o, s.heap.get? b = some o → h'.get? b = some o) → M ∈ ns → (∀ a ∈ ns, a ≤ M) → Q (.int M t) { s with heap := h', toks := tk }) :
   wpAny (model prog w) A (call (.builtin "max") [.ref l] [(Str.ofString "default", d)]) Q E s := by
 obtain ⟨xs, e⟩ := hi.allInts.items
 have hns : ns = xs.toList.map (·.1) := by rw [← hi.numsOf, ← nums_intItems, ← e]
 rw [e] at hl
 have nm : (toString "max" ++ toString ".loop" : String) = "max.loop" := by decide
 refine kmk_tree PySem.F.kind_max PySem.F.plain_max PySem.F.entry_max (args_maxD _ _) ?_
 show wpAny _ A.in1 (Builtin.Builtins.bindParams "max" ["key", "default"] 0 ⟨[], [(Str.ofString "default", d)]⟩ >>= _) _ _ s
 refine wpAny_bind (wpAny_of_eq (show Builtin.Builtins.bindParams "max" ["key", "default"] 0 ⟨[], [(Str.ofString "default", d)]⟩ = pure [none, some d] from rfl) ?_)
 refine wpAny_bind (wpAny_pure ?_)
 refine wpAny_bind (iter_intList hl fun s₂ e2 st hfp hlI => ?_)
 subst e2
 have W := (Walks.list (prog := prog) (w := w) (A := A.in1) hh _ l hlI (intItems xs)).toS
 refine wpAny_bind (wpAny_newList ?_ (Nat.zero_le _))
 rw [nm]
 have hB : (s.heap.push { cls := .type "list_iterator", data := .fields #[.ref l, .int 0 0] }).objs.size ∉ [s.heap.objs.size, l] := fun z => Nat.lt_irrefl _ (hfp _ z)
 have st' := W.frame 0 _ ((s.heap.push { cls := .type "list_iterator", data := .fields #[.ref l, .int 0 0] }).push { cls := .type "list", data := .seq #[] }) s.toks st (Nat.le_refl _) fun b _ o e => Heap.get?_push_of_some _ e
 have back : ∀ {z : Shared} {ws : List Addr}, (∀ b ∈ ws, b = s.heap.objs.size ∨ b = (s.heap.push { cls := .type "list_iterator", data := .fields #[.ref l, .int 0 0] }).objs.size) → (∀ b o, b ∉ ws → ((s.heap.push { cls := .type "list_iterator", data := .fields #[.ref l, .int 0 0] }).push { cls := .type "list", data := .seq #[] }).get? b = some o → z.heap.get? b = some o) → ∀ b o, s.heap.get? b = some o → z.heap.get? b = some o := by
   intro z ws hw h b o e
   have lb := Heap.lt_size e
   refine h b o (fun hb => ?_) (Heap.get?_push_of_some _ (Heap.get?_push_of_some _ e))
   rcases hw b hb with rfl | rfl
   · exact Nat.lt_irrefl _ lb
   · rw [Heap.size_push] at lb; exact Nat.lt_irrefl _ (Nat.lt_trans (Nat.lt_succ_self _) lb)
 by_cases h0 : 0 < xs.size
 · refine wpAny_pure ⟨plainId_quiet F.plain_max_loop _, mx_first W _ (CmpOf.ints_gt (numAt xs) (fun _ _ => intItems_at)) _ hB (by simpa [intItems] using h0) st' (Heap.get?_push_size _ rfl) fun v z hv mv => ?_⟩
   obtain ⟨t, rfl⟩ := intItems_at hv
   obtain ⟨h1, h2⟩ := argBest_gt (numAt xs) (xs.size - 1)
   have hsz : (intItems xs).size = xs.size := by simp [intItems]
   rw [hsz]
   have ez : z = { s with heap := z.heap, toks := z.toks } := by
     obtain ⟨zh, zg, zd, zt, zo⟩ := z
     have g1 : zg = s.gens := mv.gens
     have g2 : zd = s.drawn := mv.drawn
     have g3 : zo = s.os := mv.os
     rw [g1, g2, g3]
   show Q _ z
   rw [ez]
   refine q1 _ t _ _ (back (ws := [(s.heap.push { cls := .type "list_iterator", data := .fields #[.ref l, .int 0 0] }).objs.size, s.heap.objs.size]) (by simp [or_comm]) mv.heap) ?_ fun a ha => ?_
   · rw [hns, numAt_eq]; exact getD_mem (by rw [List.length_map, Array.length_toList]; omega)
   · rw [hns] at ha
     obtain ⟨j, hj, rfl⟩ := mem_getD ha
     rw [List.length_map, Array.length_toList] at hj
     rw [← numAt_eq]; exact h2 j (by omega)
 · have x0 : xs = #[] := by
     have : xs.size = 0 := by omega
     exact Array.eq_empty_of_size_eq_zero this
   subst x0
   refine wpAny_pure ⟨plainId_quiet F.plain_max_loop _, mx_none W (by simp [intItems]) _ hB st' (Heap.get?_push_size _ rfl) fun z mv => ?_⟩
   have ez : z = { s with heap := z.heap, toks := z.toks } := by
     obtain ⟨zh, zg, zd, zt, zo⟩ := z
     have g1 : zg = s.gens := mv.gens
     have g2 : zd = s.drawn := mv.drawn
     have g3 : zo = s.os := mv.os
     rw [g1, g2, g3]
   show Q d z
   rw [ez]
   exact q0 (by rw [hns]; rfl) _ _ (back (ws := [s.heap.objs.size]) (by simp) mv.heap)
def rMaxD (K : W.Frag) (c : Int) (x : V) (H : Hp) (Q : VK) : Prop := ∃ l ns, x = .ref l ∧ SqL K H l (ns.map V.int) ∧ (ns = [] → Q (.int c) H) ∧ ∀ M ∈ ns, (∀ a ∈ ns, a ≤ M) → Q (.int M) H
theorem k_maxD (K : W.Frag) {e : Expr} {te : TE} {c : Int} {jc : Nat} {p p2 kpos pos : Pos} (hc : X.calm = true) (he : PE X e te) (hm : X.mg "max" = none) (h : X.K = K := by rfl) (hg : Gl X "max" := by rfl) (hp : plainE e = true := by rfl) :
   PE X (.Call (.Name "max" p) [e] [⟨some "default", .Constant (.int c) jc p2, kpos⟩] pos) (tUn (rMaxD K c) te) := by
 subst h
 intro pins s σ H Q I hw
 refine wpAny_Call_Name_kw (ld_blt I hg hm boot_max ?_)
 refine callWith_kw ?_ (by rw [zVQ hp]; rfl) (by rw [zVQ hp]; rfl)
 rw [zVQ hp]
 show wpAny _ _ (spliced ((false, eval e X.env) :: backTo pos (starEach [] X.env))) _ _ s
 refine Calls.spliced_cons (thn (he pins s σ H _ I hw) fun u s1 ⟨xv, H1, I1, r1, q1⟩ => Calls.spliced_nil ?_)
 have hkv := pk_cons (nm := some "default") (kpos := kpos) (qG (X := X) (i := c) (j := jc) (pos := p2)) (pk_nil (X := X)) pos pins s1 σ H1 (fun zs H2 => zs = [.int c] ∧ H2 = H1) I1 ⟨rfl, rfl⟩
 refine thn hkv fun ws s2 ⟨zs, H2, I2, rz, e1, e2⟩ => ?_
 subst e1 e2
 obtain ⟨w1, rfl, rw1⟩ := rz.one
 obtain ⟨l, ns, rfl, hl, q0, q2⟩ := q1
 cases r1
 obtain ⟨its, rv, pl, hz⟩ := I2.list hl
 refine max_default (I2.ok.hd hc) pl.isList (ints_are rv) (fun h0 h' tk kp => ⟨_, _, I2.kept kp, rw1, q0 h0⟩) (fun M t h' tk kp hM hmx => ⟨.int M, _, I2.kept kp, ⟨t, rfl⟩, q2 M hM hmx⟩)
end
end L2
namespace L2
open PySem PySem.Spec PyProof.Rows PySem.W
structure HS where
 heard : List Msg
 held : List Msg
 lost : List Int
def HS.next (s : HS) : Int := (s.heard.length : Int) + (s.lost.length : Int) + 1
def hasN (ms : List Msg) (n : Int) : Bool := ms.any fun m => decide (m.n = n)
def UB (ms : List Msg) (n : Int) : Option Msg := ms.find? fun m => decide (m.n = n)
def YD (ms : List Msg) (n : Int) : List Msg := ms.filter fun m => decide (m.n ≠ n)
def putM (ms : List Msg) (m : Msg) : List Msg := if hasN ms m.n = true then ms.map (fun x => if x.n = m.n then m else x) else ms ++ [m]
theorem zU {ms : List Msg} {n : Int} {m : Msg} (h : UB ms n = some m) : m ∈ ms ∧ m.n = n := ⟨List.mem_of_find?_eq_some h, by simpa using List.find?_some h⟩
theorem findN_none {ms : List Msg} {n : Int} : UB ms n = none ↔ ∀ m ∈ ms, m.n ≠ n := by
 unfold UB
 rw [List.find?_eq_none]
 constructor
 · intro h m hm; simpa using h m hm
 · intro h m hm; simpa using h m hm
theorem hasN_iff {ms : List Msg} {n : Int} : hasN ms n = true ↔ ∃ m ∈ ms, m.n = n := by
 unfold hasN
 rw [List.any_eq_true]
 constructor
 · rintro ⟨m, hm, e⟩; exact ⟨m, hm, of_decide_eq_true e⟩
 · rintro ⟨m, hm, e⟩; exact ⟨m, hm, decide_eq_true e⟩
theorem dropN_mem {ms : List Msg} {n : Int} {m : Msg} : m ∈ YD ms n ↔ m ∈ ms ∧ m.n ≠ n := by
 unfold YD
 rw [List.mem_filter]
 simp
theorem dropN_lt {ms : List Msg} {m : Msg} (h : m ∈ ms) : (YD ms m.n).length < ms.length := by
 unfold YD
 exact List.length_filter_lt_length_iff_exists.mpr ⟨m, h, by simp⟩
theorem Zv {ms : List Msg} {n : Int} (d : Diff ms) : Diff (YD ms n) := (List.filter_sublist.map Msg.n).nodup d
theorem vVJ {ms : List Msg} (d : Diff ms) {m : Msg} (h : m ∈ ms) : (YD ms m.n).length + 1 = ms.length := by
 induction ms with
 | nil => cases h
 | cons x r ih =>
   have d' : Diff r := (List.nodup_cons.mp d).2
   have hx : x.n ∉ r.map (·.n) := (List.nodup_cons.mp d).1
   by_cases e : x.n = m.n
   · have : YD (x :: r) m.n = r := by
       unfold YD
       rw [List.filter_cons_of_neg (by simp [e])]
       refine List.filter_eq_self.mpr fun y hy => ?_
       refine decide_eq_true fun z => hx ?_
       rw [e, ← z]
       exact List.mem_map_of_mem hy
     rw [this]; rfl
   · have hm : m ∈ r := by
       rcases List.mem_cons.mp h with rfl | z
       · exact absurd rfl e
       · exact z
     have : YD (x :: r) m.n = x :: YD r m.n := by
       unfold YD
       rw [List.filter_cons_of_pos (by simp [e])]
     rw [this, List.length_cons, List.length_cons, ← ih d' hm]
theorem putM_new {ms : List Msg} {m : Msg} (h : ∀ x ∈ ms, x.n ≠ m.n) : putM ms m = ms ++ [m] := by
 unfold putM
 rw [if_neg]
 intro z
 obtain ⟨x, hx, e⟩ := hasN_iff.mp z
 exact h x hx e
theorem putM_old {ms : List Msg} {m : Msg} (h : m ∈ ms) (hs : ∀ x ∈ ms, x.n = m.n → x = m) : putM ms m = ms := by
 unfold putM
 rw [if_pos (hasN_iff.mpr ⟨m, h, rfl⟩)]
 have : ms.map (fun x => if x.n = m.n then m else x) = ms.map id := List.map_congr_left fun x hx => by
   show (if x.n = m.n then m else x) = x
   by_cases e : x.n = m.n
   · rw [if_pos e, hs x hx e]
   · rw [if_neg e]
 rw [this, List.map_id]
theorem yQJ {ms : List Msg} {m : Msg} (hs : ∀ x ∈ ms, x.n = m.n → x = m) : (m ∈ ms ∧ putM ms m = ms) ∨ ((∀ x ∈ ms, x.n ≠ m.n) ∧ putM ms m = ms ++ [m]) := by
 by_cases h : m ∈ ms
 · exact .inl ⟨h, putM_old h hs⟩
 · have h' : ∀ x ∈ ms, x.n ≠ m.n := fun x hx e => h (hs x hx e ▸ hx)
   exact .inr ⟨h', putM_new h'⟩
theorem UV {ms : List Msg} {m x : Msg} (hs : ∀ x ∈ ms, x.n = m.n → x = m) : x ∈ putM ms m ↔ x ∈ ms ∨ x = m := by
 rcases yQJ hs with ⟨h, e⟩ | ⟨h, e⟩
 · rw [e]
   constructor
   · exact .inl
   · rintro (z | rfl)
     · exact z
     · exact h
 · rw [e, List.mem_append, List.mem_singleton]
theorem qYY {ms : List Msg} {m : Msg} (hs : ∀ x ∈ ms, x.n = m.n → x = m) (d : Diff ms) : Diff (putM ms m) := by
 rcases yQJ hs with ⟨h, e⟩ | ⟨h, e⟩
 · rw [e]; exact d
 · rw [e]
   unfold Diff
   rw [List.map_append]
   refine List.nodup_append.mpr ⟨d, by simp, fun a ha b hb => ?_⟩
   obtain ⟨x, hx, rfl⟩ := List.mem_map.mp ha
   simp only [List.map_cons, List.map_nil, List.mem_singleton] at hb
   rw [hb]; exact h x hx
theorem putM_len {ms : List Msg} {m : Msg} : (putM ms m).length ≤ ms.length + 1 := by
 unfold putM
 split
 · rw [List.length_map]; omega
 · rw [List.length_append]; exact Nat.le_refl _
def yM (s : HS) : HS :=
 match h : UB s.held s.next with
 | none => s
 | some m => yM ⟨s.heard ++ [m], YD s.held m.n, s.lost⟩
termination_by s.held.length
decreasing_by exact dropN_lt (zU h).1
theorem JB {s : HS} (h : UB s.held s.next = none) : yM s = s := by
 rw [yM]
 split
 · rfl
 · rename_i m e; rw [h] at e; cases e
theorem zUQ {s : HS} {m : Msg} (h : UB s.held s.next = some m) : yM s = yM ⟨s.heard ++ [m], YD s.held m.n, s.lost⟩ := by
 rw [yM]
 split
 · rename_i e; rw [h] at e; cases e
 · rename_i m' e
   rw [h] at e
   cases e; rfl
theorem UY {P : HS → Prop} (hs : ∀ s m, P s → UB s.held s.next = some m → P ⟨s.heard ++ [m], YD s.held m.n, s.lost⟩) : ∀ s, P s → P (yM s) ∧ UB (yM s).held (yM s).next = none
 | s, h => by
   cases e : UB s.held s.next with
   | none => rw [JB e]; exact ⟨h, e⟩
   | some m =>
     rw [zUQ e]
     exact UY hs ⟨s.heard ++ [m], YD s.held m.n, s.lost⟩ (hs s m h e)
termination_by s => s.held.length
decreasing_by exact dropN_lt (zU e).1
theorem yJZ (s : HS) : (yM s).lost = s.lost := (UY (P := fun t => t.lost = s.lost) (fun _ _ h _ => h) s rfl).1
theorem vVQ {h : List Msg} {d : List Msg} {l : List Int} {m : Msg} : HS.next ⟨h ++ [m], d, l⟩ = HS.next ⟨h, d, l⟩ + 1 := by
 show ((h ++ [m]).length : Int) + l.length + 1 = (h.length : Int) + l.length + 1 + 1
 rw [List.length_append]; show ((h.length + 1 : Nat) : Int) + _ + 1 = _; omega
theorem Yz (s : HS) : s.next ≤ (yM s).next := (UY (P := fun t => s.next ≤ t.next) (fun t m h _ => by rw [vVQ]; exact Int.le_trans h (by show t.next ≤ t.next + 1; omega)) s (Int.le_refl _)).1
def lose (s : HS) : HS := ⟨s.heard, s.held, s.lost ++ [s.next]⟩
theorem ZB (s : HS) : (lose s).next = s.next + 1 := by
 show (s.heard.length : Int) + ((s.lost ++ [s.next]).length : Int) + 1 = (s.heard.length : Int) + s.lost.length + 1 + 1
 rw [List.length_append]; show _ + ((s.lost.length + 1 : Nat) : Int) + 1 = _; omega
def vv (n : Int) (s : HS) : HS := if s.next < n then vv n (yM (lose s)) else s
termination_by (n - s.next).toNat
decreasing_by
 have h1 := Yz (lose s)
 rw [ZB] at h1
 omega
theorem giveS_lt {n : Int} {s : HS} (h : s.next < n) : vv n s = vv n (yM (lose s)) := by rw [vv, if_pos h]
theorem vZZ {n : Int} {s : HS} (h : ¬ s.next < n) : vv n s = s := by rw [vv, if_neg h]
def addS (s : HS) (m : Msg) : HS := if m.n ≥ s.next then ⟨s.heard, putM s.held m, s.lost⟩ else s
def vV (s : HS) (ms : List Msg) : HS := yM (ms.foldl addS s)
theorem addS_next (s : HS) (m : Msg) : (addS s m).next = s.next := by unfold addS; split <;> rfl
theorem zUZ (s : HS) (m : Msg) : (addS s m).heard = s.heard := by unfold addS; split <;> rfl
theorem addS_lost (s : HS) (m : Msg) : (addS s m).lost = s.lost := by unfold addS; split <;> rfl
theorem yJJ : ∀ (ms : List Msg) (s : HS), (ms.foldl addS s).heard = s.heard
 | [], _ => rfl
 | m :: r, s => by rw [List.foldl_cons, yJJ r, zUZ]
theorem zQZ : ∀ (ms : List Msg) (s : HS), (ms.foldl addS s).lost = s.lost
 | [], _ => rfl
 | m :: r, s => by rw [List.foldl_cons, zQZ r, addS_lost]
theorem adds_next (ms : List Msg) (s : HS) : (ms.foldl addS s).next = s.next := by unfold HS.next; rw [yJJ, zQZ]
def Fits (s : HS) (ms : List Msg) : Prop := (∀ m ∈ ms, ∀ x, x ∈ s.heard ∨ x ∈ s.held → x.n = m.n → x = m) ∧ ∀ m ∈ ms, ∀ x ∈ ms, x.n = m.n → x = m
inductive DI (H : Hp) : List (Key × V) → List Msg → Prop
 | nil : DI H [] []
 | cons {v : V} {m : Msg} {r : List (Key × V)} {ms : List Msg} : Has H v (mD m) → DI H r ms → DI H ((Sum.inl m.n, v) :: r) (m :: ms)
theorem DI.same {H H' : Hp} (e : Same H H') : ∀ {kvs : List (Key × V)} {ms : List Msg}, DI H kvs ms → DI H' kvs ms
 | _, _, .nil => .nil
 | _, _, .cons h t => .cons (h.same e) (DI.same e t)
theorem DI.tups {H H' : Hp} (e : Tups H H') : ∀ {kvs : List (Key × V)} {ms : List Msg}, DI H kvs ms → DI H' kvs ms
 | _, _, .nil => .nil
 | _, _, .cons h t => .cons (h.tups e (noLst_m _)) (DI.tups e t)
theorem DI.len {H : Hp} : ∀ {kvs : List (Key × V)} {ms : List Msg}, DI H kvs ms → kvs.length = ms.length
 | _, _, .nil => rfl
 | _, _, .cons _ t => by rw [List.length_cons, List.length_cons, DI.len t]
theorem DI.any {H : Hp} (n : Int) : ∀ {kvs : List (Key × V)} {ms : List Msg}, DI H kvs ms → (kvs.any fun kv => decide (kv.1 = Sum.inl n)) = hasN ms n
 | _, _, .nil => rfl
 | _, _, .cons (m := m') h r => by
   unfold hasN
   rw [List.any_cons, List.any_cons, DI.any n r]
   congr 1
   exact decide_eq_decide.mpr ⟨fun z => Sum.inl.inj z, fun z => congrArg Sum.inl z⟩
theorem DI.repl {H : Hp} {v : V} {m : Msg} (h : Has H v (mD m)) : ∀ {kvs : List (Key × V)} {ms : List Msg}, DI H kvs ms → DI H (kvs.map fun kv => if kv.1 = Sum.inl m.n then (kv.1, v) else kv) (ms.map fun x => if x.n = m.n then m else x)
 | _, _, .nil => .nil
 | _, _, .cons (m := m') h' r => by
   rw [List.map_cons, List.map_cons]
   by_cases e : m'.n = m.n
   · rw [if_pos (by rw [e]), if_pos e]
     show DI H ((Sum.inl m'.n, v) :: _) _
     rw [e]; exact .cons h (DI.repl h r)
   · rw [if_neg (fun z => e (Sum.inl.inj z)), if_neg e]; exact .cons h' (DI.repl h r)
theorem DI.snoc {H : Hp} {v : V} {m : Msg} (h : Has H v (mD m)) : ∀ {kvs : List (Key × V)} {ms : List Msg}, DI H kvs ms → DI H (kvs ++ [(Sum.inl m.n, v)]) (ms ++ [m])
 | _, _, .nil => .cons h .nil
 | _, _, .cons h' r => .cons h' (DI.snoc h r)
theorem DI.put {H : Hp} {v : V} {m : Msg} (h : Has H v (mD m)) {kvs : List (Key × V)} {ms : List Msg} (d : DI H kvs ms) : DI H (putK kvs (Sum.inl m.n) v) (putM ms m) := by
 unfold putK putM
 rw [d.any m.n]
 split
 · exact d.repl h
 · exact d.snoc h
theorem DI.drop {H : Hp} (n : Int) : ∀ {kvs : List (Key × V)} {ms : List Msg}, DI H kvs ms → DI H (UZ kvs (Sum.inl n)) (YD ms n)
 | _, _, .nil => .nil
 | _, _, .cons (m := m') h r => by
   unfold UZ YD
   by_cases e : m'.n = n
   · rw [List.filter_cons_of_neg (by simp [e]), List.filter_cons_of_neg (by simp [e])]
     exact DI.drop n r
   · rw [List.filter_cons_of_pos (by simpa using e), List.filter_cons_of_pos (by simpa using e)]
     exact .cons h (DI.drop n r)
theorem DI.none {H : Hp} (n : Int) : ∀ {kvs : List (Key × V)} {ms : List Msg}, DI H kvs ms → UB ms n = none → valV kvs (Sum.inl n) = none
 | _, _, .nil, _ => rfl
 | _, _, .cons (m := m') h r, e => by
   have e' := findN_none.mp e
   rw [qYZ (by intro z; exact e' m' (by simp) (Sum.inl.inj z))]
   exact DI.none n r (findN_none.mpr fun x hx => e' x (by simp [hx]))
theorem DI.some {H : Hp} (n : Int) {m : Msg} : ∀ {kvs : List (Key × V)} {ms : List Msg}, DI H kvs ms → UB ms n = some m → ∃ c, valV kvs (Sum.inl n) = some (.ref c) ∧ H c = some (mT m)
 | _, _, .nil, e => by cases e
 | _, _, .cons (m := m') h r, e => by
   by_cases z : m'.n = n
   · unfold UB at e
     rw [List.find?_cons_of_pos (by simp [z])] at e
     cases e
     obtain ⟨c, rfl, hc⟩ := has_msg h
     exact ⟨c, yUJ (by rw [z]), hc⟩
   · unfold UB at e
     rw [List.find?_cons_of_neg (by simp [z])] at e
     obtain ⟨c, h1, h2⟩ := DI.some n r e
     exact ⟨c, by rw [qYZ (by intro y; exact z (Sum.inl.inj y))]; exact h1, h2⟩
theorem hasN_find {ms : List Msg} {n : Int} : hasN ms n = (UB ms n).isSome := by
 cases e : UB ms n with
 | none =>
   have := findN_none.mp e
   rw [show hasN ms n = false from Bool.eq_false_iff.mpr fun z => by obtain ⟨m, hm, en⟩ := hasN_iff.mp z; exact this m hm en]; rfl
 | some m => exact hasN_iff.mpr ⟨m, (zU e).1, (zU e).2⟩
theorem DI.isSome {H : Hp} {kvs : List (Key × V)} {ms : List Msg} (d : DI H kvs ms) (n : Int) : (valV kvs (Sum.inl n)).isSome = hasN ms n := by
 rw [hasN_find]
 cases e : UB ms n with
 | none => rw [d.none n e]; rfl
 | some m => obtain ⟨c, hc, _⟩ := d.some n e; rw [hc]; rfl
def hF (nx : Int) (q h k g : Addr) (ex : List (Str × V)) : List (Str × V) := ("next_number", .int nx) :: ("past", .ref q) :: ("held", .ref h) :: ("known", .ref k) :: ("given_up", .ref g) :: ex
section
variable {nx : Int} {q h k g : Addr} {ex : List (Str × V)}
theorem Jw : (hF nx q h k g ex).lookup ("next_number" : Str) = some (V.int nx) := Zy
theorem hF_past : (hF nx q h k g ex).lookup ("past" : Str) = some (V.ref q) := (yQ (by decide +kernel)).trans Zy
theorem hF_held : (hF nx q h k g ex).lookup ("held" : Str) = some (V.ref h) := (yQ (by decide +kernel)).trans ((yQ (by decide +kernel)).trans Zy)
theorem hF_known : (hF nx q h k g ex).lookup ("known" : Str) = some (V.ref k) := (yQ (by decide +kernel)).trans ((yQ (by decide +kernel)).trans ((yQ (by decide +kernel)).trans Zy))
theorem hF_given : (hF nx q h k g ex).lookup ("given_up" : Str) = some (V.ref g) := (yQ (by decide +kernel)).trans ((yQ (by decide +kernel)).trans ((yQ (by decide +kernel)).trans ((yQ (by decide +kernel)).trans Zy)))
theorem hF_no {f : Str} (h1 : ¬ f = "next_number") (h2 : ¬ f = "past") (h3 : ¬ f = "held") (h4 : ¬ f = "known") (h5 : ¬ f = "given_up") : (hF nx q h k g ex).lookup f = ex.lookup f :=
 (yQ h1).trans ((yQ h2).trans ((yQ h3).trans ((yQ h4).trans (yQ h5))))
theorem hF_make : putF "given_up" (.ref g) (putF "known" (.ref k) (putF "held" (.ref h) (putF "past" (.ref q) (putF "next_number" (.int nx) [])))) = hF nx q h k g [] := by
 show putF "given_up" (.ref g) (putF "known" (.ref k) (putF "held" (.ref h) (putF "past" (.ref q) [("next_number", .int nx)]))) = _
 rw [yV (by decide +kernel)]
 show putF "given_up" (.ref g) (putF "known" (.ref k) (putF "held" (.ref h) [("next_number", .int nx), ("past", .ref q)])) = _
 rw [yV (by decide +kernel), yV (by decide +kernel)]
 show putF "given_up" (.ref g) (putF "known" (.ref k) [("next_number", .int nx), ("past", .ref q), ("held", .ref h)]) = _
 rw [yV (by decide +kernel), yV (by decide +kernel), yV (by decide +kernel)]
 show putF "given_up" (.ref g) [("next_number", .int nx), ("past", .ref q), ("held", .ref h), ("known", .ref k)] = _
 rw [yV (by decide +kernel), yV (by decide +kernel), yV (by decide +kernel), yV (by decide +kernel)]
 rfl
theorem hF_setNext {nx' : Int} : putF "next_number" (.int nx') (hF nx q h k g ex) = hF nx' q h k g ex := by
 unfold hF
 rw [pf_hit]
end
structure HearC (K : W.Frag) (C : Addr) : Prop where
 cl_Hearer : Cls K C
 n_next_number : NoAttr K C "next_number"
 n_past : NoAttr K C "past"
 n_held : NoAttr K C "held"
 n_known : NoAttr K C "known"
 n_given_up : NoAttr K C "given_up"
structure HA where
 p : Addr
 q : Addr
 h : Addr
 k : Addr
 g : Addr
def HA.fp (a : HA) : List Addr := [a.p, a.q, a.h, a.k, a.g]
def KnowN (H : Hp) (k : Addr) (s : HS) : Prop := ∃ kvs ms, H k = some (.dK kvs) ∧ DI H kvs ms ∧ Diff ms ∧ ms.length ≤ s.heard.length + s.held.length ∧ ∀ m, m ∈ ms ↔ m ∈ s.heard ∨ m ∈ s.held
structure HAt (C : Addr) (H : Hp) (a : HA) (s : HS) (ex : List (Str × V)) : Prop where
 ob : ∃ dx, H a.p = some (.ins C dx (hF s.next a.q a.h a.k a.g ex))
 pa : ∃ ys, H a.q = some (.lst ys) ∧ Ms H ys s.heard
 he : ∃ kvs, H a.h = some (.dK kvs) ∧ DI H kvs s.held
 kn : KnowN H a.k s
 lo : H a.g = some (.lst (s.lost.map V.int))
 nqg : a.q ≠ a.g
 nhk : a.h ≠ a.k
 exn : ∀ f : Str, ¬ f = "keep" → ex.lookup f = none
 exl : ex.length < 100
theorem hF_len {nx : Int} {q h k g : Addr} {ex : List (Str × V)} (hx : ex.length < 100) : (hF nx q h k g ex).length < 1000 := by show ex.length + 1 + 1 + 1 + 1 + 1 < 1000; omega
section
variable {C : Addr} {H H' : Hp} {a : HA} {s : HS} {ex : List (Str × V)}
theorem KnowN.tups {k : Addr} (h : KnowN H k s) (e : H' k = H k) (t : Tups H H') : KnowN H' k s := by
 obtain ⟨kvs, ms, h1, h2, h3, h4, h5⟩ := h
 exact ⟨kvs, ms, by rw [e]; exact h1, h2.tups t, h3, h4, h5⟩
theorem HAt.live (h : HAt C H a s ex) : ∀ c ∈ a.fp, ∃ o, H c = some o := by
 obtain ⟨⟨dx, h1⟩, ⟨ys, h2, _⟩, ⟨kvs, h3, _⟩, ⟨kvs', _, h4, _⟩, h5, _, _, _, _⟩ := h
 intro c hc
 simp only [HA.fp, List.mem_cons, List.not_mem_nil, or_false] at hc
 rcases hc with rfl | rfl | rfl | rfl | rfl
 · exact ⟨_, h1⟩
 · exact ⟨_, h2⟩
 · exact ⟨_, h3⟩
 · exact ⟨_, h4⟩
 · exact ⟨_, h5⟩
theorem HAt.step {ps ps' : List Addr} (h : HAt C H a s ex) (st : Stp ps H ps' H') (hd : ∀ c ∈ a.fp, c ∉ ps) : HAt C H' a s ex := by
 have hd' : ∀ c, c ∈ a.fp → c ∉ ps := hd
 obtain ⟨⟨dx, h1⟩, ⟨ys, h2, h3⟩, ⟨kvs, h4, h5⟩, hk, h6, h7, h8, h9, h10⟩ := id h
 have e : ∀ c ∈ a.fp, H' c = H c := fun c hc => by
   obtain ⟨o, ho⟩ := h.live c hc
   rw [ho]; exact st.keep ho (hd c hc)
 exact ⟨⟨dx, by rw [e _ (by simp [HA.fp])]; exact h1⟩, ⟨ys, by rw [e _ (by simp [HA.fp])]; exact h2, h3.step st⟩, ⟨kvs, by rw [e _ (by simp [HA.fp])]; exact h4, h5.tups st.tup⟩, hk.tups (e _ (by simp [HA.fp])) st.tup, by rw [e _ (by simp [HA.fp])]; exact h6, h7, h8, h9, h10⟩
theorem HAt.same (h : HAt C H a s ex) (e : Same H H') : HAt C H' a s ex := h.step (e.step []) fun _ _ => List.not_mem_nil
theorem HAt.out {ps ps' : List Addr} (h : HAt C H a s ex) (st : Stp ps H ps' H') (hd : ∀ c ∈ a.fp, c ∉ ps) : ∀ c ∈ a.fp, c ∉ ps' := fun c hc => by
 obtain ⟨o, ho⟩ := h.live c hc
 exact st.out ho (hd c hc)
theorem HAt.free (h : HAt C H a s ex) {c : Addr} (hc : H c = none) : c ∉ a.fp := fun z => by
 obtain ⟨o, ho⟩ := h.live c z
 rw [ho] at hc; cases hc
theorem HAt.apart (h : HAt C H a s ex) : a.p ≠ a.q ∧ a.p ≠ a.h ∧ a.p ≠ a.k ∧ a.p ≠ a.g ∧ a.q ≠ a.h ∧ a.q ≠ a.k ∧ a.q ≠ a.g ∧ a.h ≠ a.k ∧ a.h ≠ a.g ∧ a.k ≠ a.g := by
 obtain ⟨⟨dx, h1⟩, ⟨ys, h2, _⟩, ⟨kvs, h3, _⟩, ⟨kvs', _, h4, _⟩, h5, h6, h7, _, _⟩ := h
 exact ⟨zJ h1 h2 (by intro z; cases z), zJ h1 h3 (by intro z; cases z), zJ h1 h4 (by intro z; cases z), zJ h1 h5 (by intro z; cases z), zJ h2 h3 (by intro z; cases z), zJ h2 h4 (by intro z; cases z), h6, h7, zJ h3 h5 (by intro z; cases z), zJ h4 h5 (by intro z; cases z)⟩
end
def HS.small (s : HS) : Prop := s.heard.length + s.held.length + s.lost.length < 3000
def hs0 : HS := ⟨[], [], []⟩
section
variable (C : Addr) (ex : List (Str × V))
def spInitH : Sp := fun vs H Q _ => ∃ (p dx : Addr), vs = [.ref p] ∧ H p = some (.ins C dx []) ∧ ∀ a H', a.p = p → HAt C H' a hs0 [] → Stp [p] H a.fp H' → Q .non H'
def vUZ : Sp := fun vs H Q _ => ∃ a s ex, vs = [.ref (HA.p a)] ∧ HAt C H a s ex ∧ Q (.int s.next) H
def spHear : Sp := fun vs H Q _ => ∃ a s ex, vs = [.ref (HA.p a)] ∧ HAt C H a s ex ∧ Diff s.held ∧ s.small ∧
 ∀ l ys found H', HAt C H' a (yM s) ex → (yM s).heard = s.heard ++ found → Stp a.fp H (l :: a.fp) H' → H l = none → l ∉ a.fp → H' l = some (.lst ys) → Ms H' ys found → Q (.ref l) H'
def zVY : Sp := fun vs H Q _ => ∃ a s ex b xs ms, vs = [.ref (HA.p a), .ref b] ∧ HAt C H a s ex ∧ H b = some (.lst xs) ∧ Ms H xs ms ∧ ms.length < 1000 ∧ Fits s ms ∧ (∀ m ∈ ms, mOk m) ∧ ∀ H', Same H H' → Q .non H'
def vUQ : Sp := fun vs H Q _ => ∃ a s ex b xs ms, vs = [.ref (HA.p a), .ref b] ∧ HAt C H a s ex ∧ H b = some (.lst xs) ∧ Ms H xs ms ∧ ms.length < 1000 ∧ Fits s ms ∧ (∀ m ∈ ms, mOk m) ∧ Diff s.held ∧ s.heard.length + s.held.length + s.lost.length < 1000 ∧
 ∀ l ys found H', HAt C H' a (vV s ms) ex → (vV s ms).heard = s.heard ++ found → Stp a.fp H (l :: a.fp) H' → H l = none → l ∉ a.fp → H' l = some (.lst ys) → Ms H' ys found → Q (.ref l) H'
def spHeard : Sp := fun vs H Q _ => ∃ a s ex, vs = [.ref (HA.p a)] ∧ HAt C H a s ex ∧ ∀ l ys, H l = none → Ms (upd H l (.lst ys)) ys s.heard → Q (.ref l) (upd H l (.lst ys))
def spLost : Sp := fun vs H Q _ => ∃ a s ex, vs = [.ref (HA.p a)] ∧ HAt C H a s ex ∧ ∀ l, H l = none → Q (.ref l) (upd H l (.lst (s.lost.map V.int)))
def spGive : Sp := fun vs H Q _ => ∃ a s ex n, vs = [.ref (HA.p a), .int n] ∧ HAt C H a s ex ∧ Diff s.held ∧ s.heard.length + s.held.length < 500 ∧ s.lost.length < 500 ∧ n < 500 ∧
 ∀ l ys found H', HAt C H' a (vv n s) ex → (vv n s).heard = s.heard ++ found → Stp a.fp H (l :: a.fp) H' → H l = none → l ∉ a.fp → H' l = some (.lst ys) → Ms H' ys found → Q (.ref l) H'
end
end L2
namespace L2
open PySem PySem.Spec PyProof.Rows PySem.W
theorem Rows.at {R : List Msg} (h : Rows R) {m : Msg} (hm : m ∈ R) : ∃ (i : Nat) (hi : i < R.length), R[i] = m ∧ m.n = (i : Int) + 1 := by
 obtain ⟨i, hi, e⟩ := List.getElem_of_mem hm
 exact ⟨i, hi, e, by rw [← e]; exact h i hi⟩
theorem Rows.uniq {R : List Msg} (h : Rows R) {a b : Msg} (ha : a ∈ R) (hb : b ∈ R) (e : a.n = b.n) : a = b := h.rise.diff.eq ha hb e
theorem rgs_mem {lo : Int} {n : Nat} {x : Int} : x ∈ rgs lo n ↔ lo ≤ x ∧ x < lo + (n : Int) := by
 unfold rgs
 rw [List.mem_map]
 constructor
 · rintro ⟨i, hi, rfl⟩
   rw [List.mem_range] at hi; omega
 · rintro ⟨h1, h2⟩
   exact ⟨(x - lo).toNat, List.mem_range.mpr (by omega), by omega⟩
theorem hear_len {s : HS} (d : Diff s.held) : (yM s).heard.length + (yM s).held.length = s.heard.length + s.held.length := by
 refine ((UY (P := fun t => Diff t.held ∧ t.heard.length + t.held.length = s.heard.length + s.held.length) ?_ s ⟨d, rfl⟩).1).2
 rintro t m ⟨h1, h2⟩ e
 refine ⟨Zv h1, ?_⟩
 have := vVJ h1 (zU e).1
 show (t.heard ++ [m]).length + (YD t.held m.n).length = _
 rw [List.length_append, List.length_singleton]; omega
structure HearK (K : W.Frag) (mg : Str → Option Value) (C : Addr) : Prop extends HearC K C where
 mg_Hearer : mg "Hearer" = some (.ref C)
end L2
namespace L2
open PySem PySem.Spec PyProof.Rows PySem.W
structure Hw0 (R : List Msg) (s : HS) : Prop where
 sub : ∀ m, m ∈ s.heard ∨ m ∈ s.held → m ∈ R
 dh : Diff s.held
 ge : ∀ m ∈ s.held, s.next ≤ m.n
 rise : Rise s.heard
 lt : ∀ m ∈ s.heard, m.n < s.next
 cov : ∀ n : Int, 1 ≤ n → n < s.next → (∃ m ∈ s.heard, m.n = n) ∨ n ∈ s.lost
 lr : s.lost.Pairwise (· < ·)
 ll : ∀ n ∈ s.lost, 1 ≤ n ∧ n < s.next ∧ n ≤ (R.length : Int) ∧ ∀ m ∈ s.heard, m.n ≠ n
structure Hw (R : List Msg) (s : HS) : Prop extends Hw0 R s where
 gt : ∀ m ∈ s.held, s.next < m.n
theorem HS.next_pos (s : HS) : 1 ≤ s.next := by unfold HS.next; omega
theorem Hw.start (R : List Msg) : Hw R hs0 where
 sub := fun m h => by rcases h with h | h <;> exact absurd h List.not_mem_nil
 dh := List.nodup_nil
 ge := fun m h => absurd h List.not_mem_nil
 rise := .nil
 lt := fun m h => absurd h List.not_mem_nil
 cov := fun n h1 h2 => by have : hs0.next = 1 := rfl; omega
 lr := .nil
 ll := fun n h => absurd h List.not_mem_nil
 gt := fun m h => absurd h List.not_mem_nil
theorem Hw0.more {R R' : List Msg} {s : HS} (h : Hw0 R s) (hs : ∀ m ∈ R, m ∈ R') (hl : R.length ≤ R'.length) : Hw0 R' s :=
 ⟨fun m hm => hs m (h.sub m hm), h.dh, h.ge, h.rise, h.lt, h.cov, h.lr, fun n hn => by obtain ⟨a, b, c, d⟩ := h.ll n hn; exact ⟨a, b, by omega, d⟩⟩
theorem Hw.more {R R' : List Msg} {s : HS} (h : Hw R s) (hs : ∀ m ∈ R, m ∈ R') (hl : R.length ≤ R'.length) : Hw R' s := ⟨h.toHw0.more hs hl, h.gt⟩
theorem Hw0.hear {R : List Msg} {s : HS} (h : Hw0 R s) : Hw R (yM s) := by
 have ⟨h1, e⟩ := UY (P := fun s => Hw0 R s) (fun t m h e => by
   obtain ⟨hm, hn⟩ := zU e
   have hx : HS.next ⟨t.heard ++ [m], YD t.held m.n, t.lost⟩ = t.next + 1 := vVQ
   refine ⟨fun x hx => ?_, Zv h.dh, fun x hx' => ?_, ?_, fun x hx' => ?_, fun n h1 h2 => ?_, h.lr, fun n hn' => ?_⟩
   · rcases hx with z | z
     · rcases List.mem_append.mp z with y | y
       · exact h.sub x (.inl y)
       · rw [List.mem_singleton] at y; rw [y]; exact h.sub m (.inr hm)
     · exact h.sub x (.inr (dropN_mem.mp z).1)
   · obtain ⟨a, b⟩ := dropN_mem.mp hx'
     have := h.ge x a
     rw [hx]; omega
   · refine List.pairwise_append.mpr ⟨h.rise, List.pairwise_singleton _ _, fun x hx' y hy => ?_⟩
     rw [List.mem_singleton] at hy
     rw [hy]; have := h.lt x hx'; omega
   · rw [hx]
     rcases List.mem_append.mp hx' with y | y
     · have := h.lt x y; omega
     · rw [List.mem_singleton] at y; rw [y]; omega
   · rw [hx] at h2
     by_cases z : n = t.next
     · exact .inl ⟨m, List.mem_append.mpr (.inr (by simp)), by omega⟩
     · rcases h.cov n h1 (by omega) with ⟨x, a, b⟩ | y
       · exact .inl ⟨x, List.mem_append.mpr (.inl a), b⟩
       · exact .inr y
   · obtain ⟨a, b, c, d⟩ := h.ll n hn'
     refine ⟨a, by rw [hx]; omega, c, fun x hx' => ?_⟩
     rcases List.mem_append.mp hx' with y | y
     · exact d x y
     · rw [List.mem_singleton] at y; rw [y]; omega) s h
 refine ⟨h1, fun m hm => ?_⟩
 have a := h1.ge m hm
 have b := findN_none.mp e m hm
 omega
theorem Hw.lose {R : List Msg} {s : HS} (h : Hw R s) (hn : s.next ≤ (R.length : Int)) : Hw0 R (lose s) := by
 have hx := ZB s
 refine ⟨h.sub, h.dh, fun m hm => ?_, h.rise, fun m hm => ?_, fun n h1 h2 => ?_, ?_, fun n hn' => ?_⟩
 · rw [hx]; have := h.gt m hm; omega
 · rw [hx]; have := h.lt m hm; omega
 · rw [hx] at h2
   by_cases z : n = s.next
   · exact .inr (List.mem_append.mpr (.inr (by rw [z]; simp)))
   · rcases h.cov n h1 (by omega) with y | y
     · exact .inl y
     · exact .inr (List.mem_append.mpr (.inl y))
 · refine List.pairwise_append.mpr ⟨h.lr, List.pairwise_singleton _ _, fun a ha b hb => ?_⟩
   rw [List.mem_singleton] at hb
   rw [hb]; exact (h.ll a ha).2.1
 · rw [hx]
   rcases List.mem_append.mp hn' with y | y
   · obtain ⟨a, b, c, d⟩ := h.ll n y
     exact ⟨a, by omega, c, d⟩
   · rw [List.mem_singleton] at y
     have := s.next_pos
     exact ⟨by omega, by omega, by omega, fun m hm => by have := h.lt m hm; omega⟩
theorem Hw0.add {R : List Msg} (hR : Rows R) {s : HS} (h : Hw0 R s) {m : Msg} (hm : m ∈ R) : Hw0 R (addS s m) := by
 unfold addS
 by_cases z : m.n ≥ s.next
 · rw [if_pos z]
   have hs : ∀ x ∈ s.held, x.n = m.n → x = m := fun x hx e => hR.uniq (h.sub x (.inr hx)) hm e
   refine ⟨fun x hx => ?_, qYY hs h.dh, fun x hx => ?_, h.rise, h.lt, h.cov, h.lr, h.ll⟩
   · rcases hx with y | y
     · exact h.sub x (.inl y)
     · rcases (UV hs).mp y with w | w
       · exact h.sub x (.inr w)
       · rw [w]; exact hm
   · rcases (UV hs).mp hx with w | w
     · exact h.ge x w
     · rw [w]; exact z
 · rw [if_neg z]; exact h
theorem Hw0.adds {R : List Msg} (hR : Rows R) : ∀ (ms : List Msg) {s : HS}, Hw0 R s → (∀ m ∈ ms, m ∈ R) → Hw0 R (ms.foldl addS s)
 | [], _, h, _ => h
 | m :: r, s, h, hm => by rw [List.foldl_cons]; exact Hw0.adds hR r (h.add hR (hm m (by simp))) fun x hx => hm x (by simp [hx])
theorem Hw.take {R : List Msg} (hR : Rows R) {s : HS} (h : Hw R s) {ms : List Msg} (hm : ∀ m ∈ ms, m ∈ R) : Hw R (vV s ms) := (h.toHw0.adds hR ms hm).hear
theorem Hw0.fits {R : List Msg} (hR : Rows R) {s : HS} (h : Hw0 R s) {ms : List Msg} (hm : ∀ m ∈ ms, m ∈ R) : Fits s ms :=
 ⟨fun m hm' x hx e => hR.uniq (h.sub x hx) (hm m hm') e, fun m hm' x hx e => hR.uniq (hm x hx) (hm m hm') e⟩
theorem hear_mem2 {s : HS} (d : Diff s.held) : ∀ m, (m ∈ (yM s).heard ∨ m ∈ (yM s).held) ↔ (m ∈ s.heard ∨ m ∈ s.held) := by
 refine ((UY (P := fun t => Diff t.held ∧ ∀ m, (m ∈ t.heard ∨ m ∈ t.held) ↔ (m ∈ s.heard ∨ m ∈ s.held)) ?_ s ⟨d, fun _ => Iff.rfl⟩).1).2
 rintro t m ⟨h1, h3⟩ e
 obtain ⟨hm, hn⟩ := zU e
 refine ⟨Zv h1, fun x => ?_⟩
 rw [← h3 x]
 show (x ∈ t.heard ++ [m] ∨ x ∈ YD t.held m.n) ↔ _
 rw [List.mem_append, List.mem_singleton, dropN_mem]
 constructor
 · rintro ((z | rfl) | ⟨z, _⟩)
   · exact .inl z
   · exact .inr hm
   · exact .inr z
 · rintro (z | z)
   · exact .inl (.inl z)
   · by_cases ee : x.n = m.n
     · exact .inl (.inr (h1.eq z hm ee))
     · exact .inr ⟨z, ee⟩
theorem Hw.take_mem {R : List Msg} (hR : Rows R) {s : HS} (h : Hw R s) {ms : List Msg} (hm : ∀ m ∈ ms, m ∈ R) : ∀ x, (x ∈ (vV s ms).heard ∨ x ∈ (vV s ms).held) ↔ (x ∈ s.heard ∨ x ∈ s.held ∨ (x ∈ ms ∧ s.next ≤ x.n)) := by
 have key : ∀ (ms : List Msg) {s : HS}, Hw0 R s → (∀ m ∈ ms, m ∈ R) → ∀ x, (x ∈ (ms.foldl addS s).heard ∨ x ∈ (ms.foldl addS s).held) ↔ (x ∈ s.heard ∨ x ∈ s.held ∨ (x ∈ ms ∧ s.next ≤ x.n)) := by
   intro ms
   induction ms with
   | nil => intro s _ _ x; simp
   | cons m r ih =>
     intro s h hm x
     rw [List.foldl_cons, ih (h.add hR (hm m (by simp))) (fun y hy => hm y (by simp [hy])) x, zUZ, addS_next]
     have hs : ∀ x ∈ s.held, x.n = m.n → x = m := fun x hx e => hR.uniq (h.sub x (.inr hx)) (hm m (by simp)) e
     have e : x ∈ (addS s m).held ↔ x ∈ s.held ∨ (x = m ∧ s.next ≤ x.n) := by
       unfold addS
       by_cases z : m.n ≥ s.next
       · rw [if_pos z]
         show x ∈ putM s.held m ↔ _
         rw [UV hs]
         exact or_congr Iff.rfl ⟨fun y => ⟨y, by rw [y]; exact z⟩, fun y => y.1⟩
       · rw [if_neg z]
         exact ⟨.inl, fun y => by rcases y with y | ⟨rfl, y⟩; exact y; exact absurd y z⟩
     rw [e, List.mem_cons]
     constructor
     · rintro (z | (z | z) | z)
       · exact .inl z
       · exact .inr (.inl z)
       · exact .inr (.inr ⟨.inl z.1, z.2⟩)
       · exact .inr (.inr ⟨.inr z.1, z.2⟩)
     · rintro (z | z | ⟨z | z, y⟩)
       · exact .inl z
       · exact .inr (.inl (.inl z))
       · exact .inr (.inl (.inr ⟨z, y⟩))
       · exact .inr (.inr ⟨z, y⟩)
 intro x
 unfold vV
 rw [hear_mem2 (h.toHw0.adds hR ms hm).dh]
 exact key ms h.toHw0 hm x
theorem ZQ (s : HS) (ms : List Msg) : (vV s ms).lost = s.lost := by unfold vV; rw [yJZ, zQZ]
theorem take_next (s : HS) (ms : List Msg) : s.next ≤ (vV s ms).next := by unfold vV; have := Yz (ms.foldl addS s); rw [adds_next] at this; exact this
theorem JG {P : HS → Prop} {n : Int} (hs : ∀ s, P s → s.next < n → P (yM (lose s))) : ∀ s, P s → P (vv n s)
 | s, h => by
   by_cases z : s.next < n
   · rw [giveS_lt z]
     exact JG hs (yM (lose s)) (hs s h z)
   · rw [vZZ z]; exact h
termination_by s => (n - s.next).toNat
decreasing_by
 have h1 := Yz (lose s)
 rw [ZB] at h1
 omega
theorem giveS_end (n : Int) (s : HS) : n ≤ (vv n s).next := by
 have key : ∀ (k : Nat) (s : HS), (n - s.next).toNat ≤ k → n ≤ (vv n s).next := by
   intro k
   induction k with
   | zero => intro s hk; rw [vZZ (by omega)]; omega
   | succ k ih =>
     intro s hk
     by_cases z : s.next < n
     · rw [giveS_lt z]
       have h1 := Yz (lose s)
       rw [ZB] at h1
       exact ih _ (by omega)
     · rw [vZZ z]; omega
 exact key _ s (Nat.le_refl _)
theorem Hw.give {R : List Msg} {s : HS} (h : Hw R s) {n : Int} (hn : n ≤ (R.length : Int) + 1) : Hw R (vv n s) := JG (P := Hw R) (fun t ht hlt => (ht.lose (by omega)).hear) s h
theorem give_next (n : Int) (s : HS) : s.next ≤ (vv n s).next := JG (P := fun t => s.next ≤ t.next) (fun t ht _ => by have := Yz (lose t); rw [ZB] at this; omega) s (Int.le_refl _)
theorem vZY {n : Int} {s : HS} (d : Diff s.held) : Diff (vv n s).held ∧ (∀ m, (m ∈ (vv n s).heard ∨ m ∈ (vv n s).held) ↔ (m ∈ s.heard ∨ m ∈ s.held)) ∧ (vv n s).heard.length + (vv n s).held.length = s.heard.length + s.held.length := by
 refine JG (P := fun t => Diff t.held ∧ (∀ m, (m ∈ t.heard ∨ m ∈ t.held) ↔ (m ∈ s.heard ∨ m ∈ s.held)) ∧ t.heard.length + t.held.length = s.heard.length + s.held.length) (fun t ⟨h1, h2, h3⟩ _ => ?_) s ⟨d, fun _ => Iff.rfl, rfl⟩
 have hl : Diff (lose t).held := h1
 refine ⟨(UY (P := fun u => Diff u.held) (fun u m hu _ => Zv hu) (lose t) hl).1, fun m => (hear_mem2 hl m).trans (h2 m), ?_⟩
 rw [hear_len hl]; exact h3
theorem give_lost_new {n : Int} {s : HS} : ∀ x ∈ (vv n s).lost, x ∈ s.lost ∨ (s.next ≤ x ∧ x < n) := by
 refine (JG (P := fun t => s.next ≤ t.next ∧ ∀ x ∈ t.lost, x ∈ s.lost ∨ (s.next ≤ x ∧ x < n)) (fun t ⟨h1, h2⟩ hlt => ?_) s ⟨Int.le_refl _, fun _ h => .inl h⟩).2
 refine ⟨by have := Yz (lose t); rw [ZB] at this; omega, fun x hx => ?_⟩
 rw [yJZ] at hx
 rcases List.mem_append.mp hx with z | z
 · exact h2 x z
 · rw [List.mem_singleton] at z; exact .inr ⟨by omega, by omega⟩
theorem give_lost_old {n : Int} {s : HS} : ∀ x ∈ s.lost, x ∈ (vv n s).lost := by
 refine JG (P := fun t => ∀ x ∈ s.lost, x ∈ t.lost) (fun t h _ x hx => ?_) s fun _ h => h
 rw [yJZ]
 exact List.mem_append.mpr (.inl (h x hx))
theorem Hw.give_lost {R : List Msg} {s : HS} (h : Hw R s) {n : Int} (hn : n ≤ (R.length : Int) + 1) (x : Int) : x ∈ (vv n s).lost ↔ x ∈ s.lost ∨ (s.next ≤ x ∧ x < n ∧ ∀ m ∈ s.held, m.n ≠ x) := by
 have h' := h.give hn
 obtain ⟨_, hm, _⟩ := vZY (n := n) h.dh
 have he := giveS_end n s
 have hp := s.next_pos
 constructor
 · intro hx
   rcases give_lost_new x hx with z | ⟨z1, z2⟩
   · exact .inl z
   · refine .inr ⟨z1, z2, fun m hm' e => ?_⟩
     obtain ⟨_, a, _, b⟩ := h'.ll x hx
     rcases (hm m).mpr (.inr hm') with y | y
     · exact b m y e
     · have := h'.gt m y; omega
 · rintro (z | ⟨z1, z2, z3⟩)
   · exact give_lost_old x z
   · rcases h'.cov x (by omega) (by omega) with ⟨m, hm', e⟩ | y
     · rcases (hm m).mp (.inl hm') with w | w
       · have := h.lt m w; omega
       · exact absurd e (z3 m w)
     · exact y
def vG (k : Int) (all : List Msg) (s : HS) : HS :=
 vV (if QM k (s.next - 1) all > 0 then vv ((all.length : Int) - ((vZ k all).length : Int) + 1) s else s) ((vZ k all).filter fun m => decide (m.n > s.next - 1))
theorem lastK_mem {k : Int} {all : List Msg} (h : Rows all) {m : Msg} (hm : m ∈ all) (hn : (all.length : Int) - ((vZ k all).length : Int) + 1 ≤ m.n) : m ∈ vZ k all := by
 unfold vZ
 rw [JM] at hn
 obtain ⟨i, hi, e, en⟩ := h.at hm
 rw [List.mem_drop_iff_getElem]
 refine ⟨i - (all.length - k.toNat), by omega, ?_⟩
 subst e
 congr 1
 omega
theorem Hw.catch {k : Int} {all : List Msg} (hR : Rows all) (hk : 0 ≤ k) {s : HS} (h : Hw all s) (hn : s.next ≤ (all.length : Int) + 1) :
   Hw all (vG k all s) ∧ (vG k all s).next = (all.length : Int) + 1 ∧ (vG k all s).held = [] ∧
   (∀ x, x ∈ (vG k all s).lost ↔ x ∈ s.lost ∨ (s.next ≤ x ∧ x < (all.length : Int) - ((vZ k all).length : Int) + 1 ∧ ∀ m ∈ s.held, m.n ≠ x)) := by
 have hll := JM k all
 generalize hold : (all.length : Int) - ((vZ k all).length : Int) + 1 = old at *
 have hfR : ∀ m ∈ (vZ k all).filter (fun m => decide (m.n > s.next - 1)), m ∈ all := fun m hm => List.mem_of_mem_drop (List.mem_filter.mp hm).1
 have hms : QM k (s.next - 1) all > 0 ↔ s.next < old := by
   have e : (all.length : Int) - ((vZ k all).length : Int) + 1 - 1 - (s.next - 1) = old - s.next := by omega
   unfold QM
   rw [e]
   split <;> omega
 have hole : old ≤ (all.length : Int) + 1 := by omega
 unfold vG
 rw [hold]
 generalize hs1 : (if QM k (s.next - 1) all > 0 then vv old s else s) = s1
 have f1 : Hw all s1 ∧ old ≤ s1.next ∧ s.next ≤ s1.next ∧ (∀ x, x ∈ s1.lost ↔ x ∈ s.lost ∨ (s.next ≤ x ∧ x < old ∧ ∀ m ∈ s.held, m.n ≠ x)) := by
   by_cases z : QM k (s.next - 1) all > 0
   · rw [← hs1, if_pos z]
     exact ⟨h.give hole, giveS_end old s, give_next old s, h.give_lost hole⟩
   · rw [← hs1, if_neg z]
     have z' : ¬ s.next < old := fun y => z (hms.mpr y)
     exact ⟨h, by omega, Int.le_refl _, fun x => ⟨.inl, fun y => by rcases y with y | ⟨a, b, _⟩; exact y; omega⟩⟩
 obtain ⟨hw1, ho1, hn1, hl1⟩ := f1
 have hw2 := hw1.take hR hfR
 have hmem := hw1.take_mem hR hfR
 have hnx := take_next s1 ((vZ k all).filter fun m => decide (m.n > s.next - 1))
 have hlo := ZQ s1 ((vZ k all).filter fun m => decide (m.n > s.next - 1))
 generalize vV s1 ((vZ k all).filter fun m => decide (m.n > s.next - 1)) = s2 at hw2 hmem hnx hlo
 have up : s2.next ≤ (all.length : Int) + 1 := by
   have hp := s2.next_pos
   by_cases z : s2.next = 1
   · omega
   · rcases hw2.cov (s2.next - 1) (by omega) (by omega) with ⟨m, hm, e⟩ | y
     · obtain ⟨i, hi, _, en⟩ := hR.at (hw2.sub m (.inl hm)); omega
     · have := (hw2.ll _ y).2.2.1; omega
 have dn : ¬ s2.next ≤ (all.length : Int) := fun z => by
   have hp := s2.next_pos
   have hi : (s2.next - 1).toNat < all.length := by omega
   have en := hR _ hi
   have hmR := List.getElem_mem hi
   have : all[(s2.next - 1).toNat] ∈ s2.heard ∨ all[(s2.next - 1).toNat] ∈ s2.held := by
     rw [hmem]
     refine .inr (.inr ⟨List.mem_filter.mpr ⟨lastK_mem hR hmR (by omega), decide_eq_true (by omega)⟩, by omega⟩)
   rcases this with y | y
   · have := hw2.lt _ y; omega
   · have := hw2.gt _ y; omega
 refine ⟨hw2, by omega, ?_, fun x => by rw [hlo]; exact hl1 x⟩
 cases q : s2.held with
 | nil => rfl
 | cons m r =>
   have hm : m ∈ s2.held := by rw [q]; simp
   have := hw2.gt m hm
   obtain ⟨i, hi, _, en⟩ := hR.at (hw2.sub m (.inr hm))
   omega
theorem Hw0.up {R : List Msg} (hR : Rows R) {s : HS} (h : Hw0 R s) : s.next ≤ (R.length : Int) + 1 := by
 have hp := s.next_pos
 by_cases z : s.next = 1
 · omega
 · rcases h.cov (s.next - 1) (by omega) (by omega) with ⟨m, hm, e⟩ | y
   · obtain ⟨i, hi, _, en⟩ := hR.at (h.sub m (.inl hm)); omega
   · have := (h.ll _ y).2.2.1; omega
theorem Hw.heard_all {R : List Msg} (hR : Rows R) {s : HS} (h : Hw R s) (hn : s.next = (R.length : Int) + 1) (hl : s.lost = []) : s.heard = R := by
 refine QYJ h.rise hR.rise fun m => ⟨fun z => h.sub m (.inl z), fun z => ?_⟩
 obtain ⟨i, hi, _, en⟩ := hR.at z
 rcases h.cov m.n (by omega) (by omega) with ⟨x, hx, e⟩ | y
 · rw [← hR.uniq (h.sub x (.inl hx)) z e]; exact hx
 · rw [hl] at y; exact absurd y List.not_mem_nil
theorem rise_eq {a b : List Int} (ha : a.Pairwise (· < ·)) (hb : b.Pairwise (· < ·)) (h : ∀ x, x ∈ a ↔ x ∈ b) : a = b :=
 List.Perm.eq_of_pairwise (le := (· ≤ ·)) (fun _ _ _ _ x y => Int.le_antisymm x y) (ha.imp Int.le_of_lt) (hb.imp Int.le_of_lt) ((List.perm_ext_iff_of_nodup (ha.imp Int.ne_of_lt) (hb.imp Int.ne_of_lt)).mpr h)
end L2
namespace L2
open PySem PySem.Spec PyProof.Rows PySem.W
theorem TAt.stp {C : Addr} {H H' : Hp} {p : Addr} {k r : Int} {all : List Msg} {s d : Addr} {ps ps' : List Addr} (h : TAt C H p k r all s d) (st : Stp ps H ps' H') (hd : ∀ c ∈ [p, s, d], c ∉ ps) : TAt C H' p k r all s d := by
 obtain ⟨⟨dx, h1⟩, ⟨ys, h2, h3⟩, ⟨kvs, h4, h5⟩⟩ := h
 exact ⟨⟨dx, st.keep h1 (hd _ (by simp))⟩, ⟨ys, st.keep h2 (hd _ (by simp)), h3.step st⟩, ⟨kvs, st.keep h4 (hd _ (by simp)), h5.tups st.tup⟩⟩
theorem TAt.live {C : Addr} {H : Hp} {p : Addr} {k r : Int} {all : List Msg} {s d : Addr} (h : TAt C H p k r all s d) : ∀ c ∈ [p, s, d], ∃ o, H c = some o := by
 obtain ⟨⟨dx, h1⟩, ⟨ys, h2, h3⟩, ⟨kvs, h4, h5⟩⟩ := h
 intro c hc
 simp only [List.mem_cons, List.not_mem_nil, or_false] at hc
 rcases hc with rfl | rfl | rfl
 · exact ⟨_, h1⟩
 · exact ⟨_, h2⟩
 · exact ⟨_, h4⟩
theorem TAt.out {C : Addr} {H H' : Hp} {p : Addr} {k r : Int} {all : List Msg} {s d : Addr} {ps ps' : List Addr} (h : TAt C H p k r all s d) (st : Stp ps H ps' H') (hd : ∀ c ∈ [p, s, d], c ∉ ps) : ∀ c ∈ [p, s, d], c ∉ ps' := fun c hc => by
 obtain ⟨o, ho⟩ := h.live c hc
 exact st.out ho (hd c hc)
end L2
namespace L2
open PySem PySem.Spec PyProof.Rows PySem.W
def rDictD : List V → Hp → VK → Prop := fun xs H Q => ∃ a kvs, xs = [.ref a] ∧ H a = some (.dK kvs) ∧ ∀ p, H p = none → Q (.ref p) (upd H p (.dK kvs))
theorem call_dictD {X : Cx} : Jv X (.type "dict") rDictD := by
 intro pins s σ H xs us Q I r h
 obtain ⟨a, kvs, rfl, ha, q⟩ := h
 obtain ⟨u, rfl, ru⟩ := vals1 r
 cases ru
 exact d_copyOf I (.inl ha) fun p s' hp I' => ⟨.ref p, _, I', rfl, q p hp⟩
structure LA where
 m : Addr
 q : Addr
 h : Addr
 g : Addr
def LA.fp (a : LA) : List Addr := [a.m, a.q, a.h, a.g]
def lK (a : LA) : List (Key × V) := [(Sum.inr "rows", .ref a.q), (Sum.inr "held", .ref a.h), (Sum.inr "gone", .ref a.g)]
theorem lK_rows (a : LA) : valV (lK a) (Sum.inr "rows") = some (.ref a.q) := rfl
theorem lK_held (a : LA) : valV (lK a) (Sum.inr "held") = some (.ref a.h) := rfl
theorem lK_gone (a : LA) : valV (lK a) (Sum.inr "gone") = some (.ref a.g) := rfl
structure LAt (H : Hp) (a : LA) (s : HS) : Prop where
 ob : H a.m = some (.dK (lK a))
 ro : ∃ ys, H a.q = some (.lst ys) ∧ Ms H ys s.heard
 he : ∃ kvs, H a.h = some (.dK kvs) ∧ DI H kvs s.held
 go : H a.g = some (.lst (s.lost.map V.int))
 nqg : a.q ≠ a.g
 nmh : a.m ≠ a.h
section
variable {H H' : Hp} {a : LA} {s : HS}
theorem LAt.live (h : LAt H a s) : ∀ c ∈ a.fp, ∃ o, H c = some o := by
 obtain ⟨h1, ⟨ys, h2, _⟩, ⟨kvs, h3, _⟩, h4, _, _⟩ := h
 intro c hc
 simp only [LA.fp, List.mem_cons, List.not_mem_nil, or_false] at hc
 rcases hc with rfl | rfl | rfl | rfl
 · exact ⟨_, h1⟩
 · exact ⟨_, h2⟩
 · exact ⟨_, h3⟩
 · exact ⟨_, h4⟩
theorem LAt.step {ps ps' : List Addr} (h : LAt H a s) (st : Stp ps H ps' H') (hd : ∀ c ∈ a.fp, c ∉ ps) : LAt H' a s := by
 obtain ⟨h1, ⟨ys, h2, m2⟩, ⟨kvs, h3, d3⟩, h4, h5, h6⟩ := h
 exact ⟨st.keep h1 (hd _ (by simp [LA.fp])), ⟨ys, st.keep h2 (hd _ (by simp [LA.fp])), m2.step st⟩, ⟨kvs, st.keep h3 (hd _ (by simp [LA.fp])), d3.tups st.tup⟩, st.keep h4 (hd _ (by simp [LA.fp])), h5, h6⟩
theorem LAt.same (h : LAt H a s) (e : Same H H') : LAt H' a s := h.step (e.step []) fun _ _ => List.not_mem_nil
theorem LAt.free (h : LAt H a s) {c : Addr} (hc : H c = none) : c ∉ a.fp := fun z => by
 obtain ⟨o, ho⟩ := h.live c z
 rw [ho] at hc; cases hc
theorem LAt.apart (h : LAt H a s) : a.m ≠ a.q ∧ a.m ≠ a.h ∧ a.m ≠ a.g ∧ a.q ≠ a.h ∧ a.q ≠ a.g ∧ a.h ≠ a.g := by
 obtain ⟨h1, ⟨ys, h2, _⟩, ⟨kvs, h3, _⟩, h4, h5, h6⟩ := h
 exact ⟨zJ h1 h2 (by intro z; cases z), h6, zJ h1 h4 (by intro z; cases z), zJ h2 h3 (by intro z; cases z), h5, zJ h3 h4 (by intro z; cases z)⟩
end
def spLNew : Sp := fun vs H Q _ => vs = [] ∧ ∀ a H', LAt H' a hs0 → Stp [] H a.fp H' → Q (.ref a.m) H'
def yVQ : Sp := fun vs H Q _ => ∃ a s, vs = [.ref (LA.m a)] ∧ LAt H a s ∧ Q (.int s.next) H
def spLGo : Sp := fun vs H Q _ => ∃ a s, vs = [.ref (LA.m a)] ∧ LAt H a s ∧ Diff s.held ∧ s.heard.length + s.held.length < 1000 ∧
 ∀ l ys found H', LAt H' a (yM s) → (yM s).heard = s.heard ++ found → Stp a.fp H (l :: a.fp) H' → H l = none → l ∉ a.fp → H' l = some (.lst ys) → Ms H' ys found → Q (.ref l) H'
end L2
namespace L2
open PySem PySem.Spec PyProof.Rows PySem.W
theorem YM {X : Cx} : UJ (CXF X.prog X.w) X E0 := by
 rintro pins σ H s e s' I ⟨a, cls, H', _, _, _, _, _, h⟩
 exact h.elim
structure WS where
 room : Int
 way : List Msg
 rows : List Msg
 arr : Int
end L2
namespace L2
open PySem PySem.Spec PyProof.Rows PySem.W
theorem Stp.fr {f f' g : List Addr} {H H' : Hp} (st : Stp f H f' H') : Stp (f ++ g) H (f' ++ g) H' :=
 st.weak (fun c h => List.mem_append_left _ h) fun c h => (List.mem_append.mp h).elim .inl fun z => .inr (List.mem_append_right _ z)
theorem Stp.tl {f f' : List Addr} {l : Addr} {H H' : Hp} (st : Stp f H (l :: f') H') : Stp f H f' H' := ⟨st.1, st.2, fun c hc => st.3 c (List.mem_cons_of_mem _ hc)⟩
end L2
namespace L2
open PySem PySem.Spec PyProof.Rows PySem.W
def Ris (xs : Array Nat) : Prop := ∀ (i j : Nat) (hi : i < xs.size) (hj : j < xs.size), i < j → xs[i] < xs[j]
structure OkW (t : SetTable) (n : Nat) : Prop where
 fits : t.fits n = true
 ris : Ris t.place
end L2
namespace L2
open PySem PySem.Spec PyProof.Rows PySem.W
section
variable {prog : Program} {w : World} {K : Type} [DecidableEq K] (knd : KeyKind prog w K)
def Apart (e f : Int × Value) : Prop := ∀ k, knd.is k e.2 = true → knd.is k f.2 = true → False
structure KIt (o : Obj) (es : Array (Int × Value)) (ep : Nat) (t : SetTable) (S : K → Prop) : Prop where
 ex : o.ExactSet
 data : o.data = .set es ep t
 el : ElemsOf knd es.toList
 mem : ∀ k, S k ↔ ∃ e ∈ es.toList, knd.is k e.2 = true
 apart : es.toList.Pairwise (Apart knd)
 few : es.size < scanBound
 ok : OkW t es.size
 led : t.led = !w.params.followText "set-order"
def KSetI (h : Heap) (a : Addr) (S : K → Prop) (n : Nat) : Prop := ∃ o es ep t, h.get? a = some o ∧ KIt knd o es ep t S ∧ es.size ≤ n
variable {knd} {A : Around} {E : Value → Shared → Prop} {s : Shared}
theorem KSetI.at' {h h' : Heap} {a : Addr} {S : K → Prop} {n : Nat} (x : KSetI knd h a S n) (e : ∀ o, h.get? a = some o → h'.get? a = some o) : KSetI knd h' a S n := let ⟨o, es, ep, t, ho, r⟩ := x; ⟨o, es, ep, t, e _ ho, r⟩
end
end L2
namespace L2
open PySem PySem.Spec PyProof.Rows PySem.W
def SetO (P : Program) (w : World) (p : Addr) (ks : List Key) : HO := .ext fun h => ∃ n, KSetI (vB P w) h p (fun k => k ∈ ks) n
end L2
namespace L2
open PySem PySem.Spec PyProof.Rows PySem.W
section
variable {P : Program} {w : World} {H : Hp} {h : Heap} {a : Addr} {o : Obj} {u : HO}
theorem hok_tell {v : HO} (x : HOk P w H h) (hm : ∀ xs, H a ≠ some (.tup xs)) (ho : ∀ y, H a ≠ some (.own y)) (new : ObjOk P w (upd H a v) h a v) : HOk P w (upd H a v) h := fun b q e => by
 by_cases hb : b = a
 · subst hb; rw [qQ] at e; cases e; exact new
 · rw [qY hb] at e
   refine (x b q e).stay (fun c v _ q => q) (fun c q => ?_) fun c xs q => ?_
   · rw [qY (fun z => ho _ (z ▸ q))]; exact q
   · rw [qY (fun z => hm _ (z ▸ q))]; exact q
end
section
variable {X : Cx} {pins : List (Addr × Obj)} {σ : St} {H : Hp} {s : Shared} {a : Addr} {kvs : List (Key × V)}
theorem un_tell {fs ex : List Addr} {H0 H : Hp} {h0 h : Heap} {a : Addr} {v : HO} (u : Un fs ex H0 H h0 h) (hn : H a ≠ none) (hm : ∀ xs, H a ≠ some (.tup xs)) (hf : ∀ o u, H0 a = some (.frz o u) → False) (ht : ∀ ps, H a ≠ some (.tbl ps)) : Un fs ex H0 (upd H a v) h0 h where
 keep := u.keep
 slot := u.slot
 free := fun b o q n hx => by
   have e := u.free b o q n hx
   rw [qY (fun z : b = a => hn (by rw [← z]; exact e))]; exact e
 there := u.there
 tups := fun b xs q => by
   have e := u.tups b xs q
   rw [qY (fun z => hm _ (z ▸ e))]; exact e
 frzs := fun b o w q => by
   have e := u.frzs b o w q
   by_cases z : b = a
   · subst z; exact (hf _ _ q).elim
   · rw [qY z]; exact e
 tbls := fun b ps q => by
   obtain ⟨more, e⟩ := u.tbls b ps q
   exact ⟨more, by rw [qY (fun z => ht _ (z ▸ e))]; exact e⟩
theorem Inv.tell {v : HO} (I : Inv X pins σ H s) (hn : H a ≠ none) (hm : ∀ xs, H a ≠ some (.tup xs)) (ho : ∀ y, H a ≠ some (.own y)) (ht : ∀ ps, H a ≠ some (.tbl ps)) (hf : ∀ o u, X.H₀ a = some (.frz o u) → False) (new : ObjOk X.prog X.w (upd H a v) s.heap a v) : Inv X pins σ (upd H a v) s where
 ok := I.ok
 os := I.os
 bare := I.bare
 base := un_tell I.base hn hm hf ht
 loc := I.loc
 cell := I.cell
 free := by rw [qY (fun z : X.env.locals = a => hn (by rw [← z]; exact I.free))]; exact I.free
 freeC := fun x c e => by rw [qY (fun z : c = a => hn (by rw [← z]; exact I.freeC x c e))]; exact I.freeC x c e
 pin := fun p hp => by
   obtain ⟨h1, h2, h3⟩ := I.pin p hp
   exact ⟨h1, by rw [qY (fun z : p.1 = a => hn (by rw [← z]; exact h2))]; exact h2, h3⟩
 hok := hok_tell I.hok hm ho new
 len := I.len
theorem Inv.freeze (I : Inv X pins σ H s) (ha : H a = some (.dK kvs)) (hf : ∀ o u, X.H₀ a = some (.frz o u) → False) : ∃ o es ep, s.heap.get? a = some o ∧ o.data = .dict es ep ∧ Inv X pins σ (upd H a (.frz o (.dK kvs))) s := by
 obtain ⟨z, hd, vs, rel, o, es, ep, ho, hx, hdat, r⟩ := (show ObjOk X.prog X.w H s.heap a (.dK kvs) from I.hok a _ ha)
 refine ⟨o, es, ep, ho, hdat, I.tell (by rw [ha]; exact fun z => nomatch z) (fun xs => by rw [ha]; exact fun z => nomatch z) (fun xs => by rw [ha]; exact fun z => nomatch z) (fun xs => by rw [ha]; exact fun z => nomatch z) hf ⟨ho, z, hd, vs, rel, o, es, ep, ho, hx, hdat, r⟩⟩
theorem Inv.thaw {o : Obj} (I : Inv X pins σ H s) (ha : H a = some (.frz o (.dK kvs))) (hf : ∀ o u, X.H₀ a = some (.frz o u) → False) : Inv X pins σ (upd H a (.dK kvs)) s := by
 obtain ⟨_, x⟩ := (show ObjOk X.prog X.w H s.heap a (.frz o (.dK kvs)) from I.hok a _ ha)
 exact I.tell (by rw [ha]; exact fun z => nomatch z) (fun xs => by rw [ha]; exact fun z => nomatch z) (fun xs => by rw [ha]; exact fun z => nomatch z) (fun xs => by rw [ha]; exact fun z => nomatch z) hf x
end
def Thaw (H0 H : Hp) (R : Hp → Prop) : Prop := ∃ a o kvs, H a = some (.frz o (.dK kvs)) ∧ (∀ o u, H0 a = some (.frz o u) → False) ∧ R (upd H a (.dK kvs))
def tThS (H0 : Hp) (t : TS) : TS := fun D σ H => t { nx := fun σ' H' => Thaw H0 H' (D.nx σ'), rt := fun v H' => Thaw H0 H' (D.rt v) } σ H
section
variable {X : Cx}
theorem ps_thaw {st : Stmt} {t : TS} (h : PS X st t) : PS X st (tThS X.H₀ t) := by
 intro pins s σ H D I hw
 refine thn (h pins s σ H _ I hw) fun f s1 q => ?_
 cases f with
 | next => obtain ⟨σ', H1, I1, a, o, kvs, ha, hf, q⟩ := q; exact ⟨σ', _, I1.thaw ha hf, q⟩
 | ret v => obtain ⟨x, σ', H1, I1, r1, a, o, kvs, ha, hf, q⟩ := q; exact ⟨x, σ', _, I1.thaw ha hf, r1, q⟩
 | brk => obtain ⟨σ', H1, I1, q⟩ := q; exact q.elim
 | cont => obtain ⟨σ', H1, I1, q⟩ := q; exact q.elim
end
def Itk (a : Addr) (o : Obj) (kvs : List (Key × V)) : It :=
 ⟨fun i H => H a = some (.frz o (.dK kvs)) ∧ i < kvs.length, fun i H x H' => H' = H ∧ ∃ kv, kvs[i]? = some kv ∧ x = kV kv.1, fun i H => H a = some (.frz o (.dK kvs)) ∧ kvs.length ≤ i⟩
def Itvd (a : Addr) (o : Obj) (kvs : List (Key × V)) : It :=
 ⟨fun i H => H a = some (.frz o (.dK kvs)) ∧ i < kvs.length, fun i H x H' => H' = H ∧ ∃ kv, kvs[i]? = some kv ∧ x = kv.2, fun i H => H a = some (.frz o (.dK kvs)) ∧ kvs.length ≤ i⟩
theorem yZQ {X : Cx} {pins : List (Addr × Obj)} {σ : St} {H : Hp} {s : Shared} {a : Addr} {o : Obj} {kvs : List (Key × V)} {es : Array DictEntry} {ep : Nat} (I : Inv X pins σ H s) (ha : H a = some (.frz o (.dK kvs))) (hd : o.data = .dict es ep) :
   ∃ ws, KV kvs ws ∧ s.heap.DictAt (vB X.prog X.w) a ws ep := by
 obtain ⟨ho, z, _, ws, rel, o', es', ep', ho', hx, hdat, r⟩ := (show ObjOk X.prog X.w H s.heap a (.frz o (.dK kvs)) from I.hok a _ ha)
 rw [ho] at ho'
 obtain rfl := Option.some.inj ho'
 rw [hd] at hdat
 injection hdat with e1 e2
 subst e1; subst e2
 exact ⟨ws, rel, o, es, ho, hx, hd, r⟩
theorem kv_at : ∀ {kvs : List (Key × V)} {ws : List (Key × Value)} {i : Nat} {kv : Key × V}, KV kvs ws → kvs[i]? = some kv → ∃ u, ws[i]? = some (kv.1, u) ∧ RelV kv.2 u
 | _, _, i, kv, .nil, h => by simp at h
 | _, _, 0, kv, .cons (a := x) (b := y) r t, h => by
   simp at h; subst h
   exact ⟨y.2, by rw [r.1]; rfl, r.2⟩
 | _, _, i + 1, kv, .cons r t, h => by
   obtain ⟨u, h1, h2⟩ := kv_at (i := i) t (by simpa using h)
   exact ⟨u, by simpa using h1, h2⟩
theorem key_rel {P : Program} {w : World} {k : Key} {v : Value} (h : (vB P w).is k v = true) : RelV (kV k) v := by
 have h' : keyIs k v = true := h
 rcases zy h' with ⟨i, t, e1, e2⟩ | ⟨y, t, e1, e2⟩
 · rw [e1, e2]; exact ⟨t, rfl⟩
 · rw [e1, e2]; exact ⟨t, rfl⟩
theorem turn_keys {P : Program} {w : World} {K : W.Frag} {tg : Expr} (a it : Addr) (o : Obj) (kvs : List (Key × V)) (es : Array DictEntry) (ep : Nat) (hd : o.data = .dict es ep) : Turn P w K tg (Itk a o kvs) [it] it (fun i h => h.IsKeyIter it a i kvs.length ep) where
 mem := by simp
 obj := fun i h st b hb => by
   have e : b = it := by simpa using hb
   subst e
   obtain ⟨o, e, c, d⟩ := st
   exact ⟨o, e, fun v z => by rw [d] at z; cases z⟩
 keep := fun i h h' st k => st.at fun o e => k it (by simp) o e
 item := by
   intro X hP hw hK hc i pins s σ H E I hf st ⟨ha, hi⟩
   subst hP hw hK
   obtain ⟨ws, rel, hat⟩ := yZQ I ha hd
   have hl := Paired.length rel
   have hx : kvs[i]? = some kvs[i] := List.getElem?_eq_getElem hi
   obtain ⟨u, hu, ru⟩ := kv_at rel hx
   obtain ⟨f0, f1, f2, f3, f4, f5⟩ := hf it (by simp)
   rw [hl] at st
   refine wpAny_pyNext_dict_item st hat hu fun key h' hkey st' sb => ?_
   have I1 : Inv X pins σ H { s with heap := h' } := I.turned (t' := s.toks) (fun b o hb e => (sb.2 b hb).trans e) f0 f1 f3 f4 f5
   obtain ⟨o', e', c', d'⟩ := id st'
   rw [← hl] at st'
   exact ⟨key, rfl, go_of (s := { s with heap := h' }) e' c' d' (by decide) ⟨kV kvs[i].1, H, I1, key_rel hkey, ⟨rfl, kvs[i], hx, rfl⟩, st', fun b hb => (hf b hb).1⟩⟩
 done := by
   intro X hP hw hK hc i pins s σ H E I hf st ⟨ha, hi⟩
   subst hP hw hK
   obtain ⟨ws, rel, hat⟩ := yZQ I ha hd
   have hl := Paired.length rel
   obtain ⟨f0, f1, f2, f3, f4, f5⟩ := hf it (by simp)
   rw [hl] at st
   exact wpAny_pyNext_dict_end (I.ok.hd hc) st hat (List.getElem?_eq_none (by omega)) fun h' eb => ⟨rfl, I.turned (t' := s.toks) (fun b o hb e => eb b o hb e) f0 f1 f3 f4 f5⟩
 self := fun _ _ _ _ _ st h => wpAny_pyIter_keyiter st h
theorem turn_vals {P : Program} {w : World} {K : W.Frag} {tg : Expr} (a it : Addr) (o : Obj) (kvs : List (Key × V)) (es : Array DictEntry) (ep : Nat) (hd : o.data = .dict es ep) : Turn P w K tg (Itvd a o kvs) [it] it (fun i h => h.IsValIter it a i kvs.length ep) where
 mem := by simp
 obj := fun i h st b hb => by
   have e : b = it := by simpa using hb
   subst e
   obtain ⟨o, e, c, d⟩ := st
   exact ⟨o, e, fun v z => by rw [d] at z; cases z⟩
 keep := fun i h h' st k => st.at fun o e => k it (by simp) o e
 item := by
   intro X hP hw hK hc i pins s σ H E I hf st ⟨ha, hi⟩
   subst hP hw hK
   obtain ⟨ws, rel, hat⟩ := yZQ I ha hd
   have hl := Paired.length rel
   have hx : kvs[i]? = some kvs[i] := List.getElem?_eq_getElem hi
   obtain ⟨u, hu, ru⟩ := kv_at rel hx
   obtain ⟨f0, f1, f2, f3, f4, f5⟩ := hf it (by simp)
   rw [hl] at st
   refine wpAny_pyNext_values_item st hat hu fun h' st' sb => ?_
   have I1 : Inv X pins σ H { s with heap := h' } := I.turned (t' := s.toks) (fun b o hb e => (sb.2 b hb).trans e) f0 f1 f3 f4 f5
   obtain ⟨o', e', c', d'⟩ := id st'
   rw [← hl] at st'
   exact ⟨u, rfl, go_of (s := { s with heap := h' }) e' c' d' (by decide) ⟨kvs[i].2, H, I1, ru, ⟨rfl, kvs[i], hx, rfl⟩, st', fun b hb => (hf b hb).1⟩⟩
 done := by
   intro X hP hw hK hc i pins s σ H E I hf st ⟨ha, hi⟩
   subst hP hw hK
   obtain ⟨ws, rel, hat⟩ := yZQ I ha hd
   have hl := Paired.length rel
   obtain ⟨f0, f1, f2, f3, f4, f5⟩ := hf it (by simp)
   rw [hl] at st
   exact wpAny_pyNext_values_end (I.ok.hd hc) st hat (List.getElem?_eq_none (by omega)) fun h' eb => ⟨rfl, I.turned (t' := s.toks) (fun b o hb e => eb b o hb e) f0 f1 f3 f4 f5⟩
 self := fun _ _ _ _ _ st h => wpAny_pyIter_valiter st h
section
variable {X : Cx} {tg : Expr}
def iKeys (H0 : Hp) (tl : TE) : TI := fun σ H R => tl σ H fun x H1 => ∃ a kvs, x = .ref a ∧ H1 a = some (.dK kvs) ∧ (∀ o u, H0 a = some (.frz o u) → False) ∧ ∀ o, R (Itk a o kvs) (upd H1 a (.frz o (.dK kvs)))
def iVals (H0 : Hp) (tl : TE) : TI := fun σ H R => tl σ H fun x H1 => ∃ p a kvs, x = .ref p ∧ H1 p = some (qZZ p a) ∧ H1 a = some (.dK kvs) ∧ (∀ o u, H0 a = some (.frz o u) → False) ∧ ∀ o, R (Itvd a o kvs) (upd H1 a (.frz o (.dK kvs)))
theorem pi_keys {l : Expr} {tl : TE} (hl : PE X l tl) : PI X tg l (iKeys X.H₀ tl) := by
 intro pins s σ H R I h
 refine thn (hl pins s σ H _ I h) fun v s1 ⟨x, H1, I1, r1, q1⟩ => ?_
 obtain ⟨a, kvs, e, ha, hf, q⟩ := q1
 subst e
 cases r1
 obtain ⟨o, es, ep, ho, hd, I2⟩ := I1.freeze ha hf
 obtain ⟨ws, rel, hat⟩ := yZQ (kvs := kvs) I2 qQ hd
 have hlo : (a == sysModules) = false := by
   obtain ⟨_, lo, _⟩ := (show ObjOk X.prog X.w H1 s1.heap a (.dK kvs) from I1.hok a _ ha)
   exact lo
 refine wpAny_pyIter_dict hlo hat ?_
 refine ⟨s1.heap.objs.size, [s1.heap.objs.size], _, _, _, rfl, I2.kept (t' := s1.toks) fun b o e => Heap.get?_push_of_some _ e, turn_keys a _ o kvs es ep hd, ?_, fun b hb => ?_, q o⟩
 · rw [Paired.length rel]; exact ⟨_, Heap.get?_push_size _ rfl, rfl, rfl⟩
 · have e : b = s1.heap.objs.size := by simpa using hb
   subst e
   exact I2.fpOk (Nat.le_refl _) (I2.hok.fresh (Nat.le_refl _))
theorem pi_vals {l : Expr} {tl : TE} (hl : PE X l tl) : PI X tg l (iVals X.H₀ tl) := by
 intro pins s σ H R I h
 refine thn (hl pins s σ H _ I h) fun v s1 ⟨x, H1, I1, r1, q1⟩ => ?_
 obtain ⟨p, a, kvs, e, hp, ha, hf, q⟩ := q1
 subst e
 cases r1
 obtain ⟨hv, _, _⟩ := (show ObjOk X.prog X.w H1 s1.heap p (qZZ p a) from I1.hok p _ hp)
 obtain ⟨o, es, ep, ho, hd, I2⟩ := I1.freeze ha hf
 obtain ⟨ws, rel, hat⟩ := yZQ (kvs := kvs) I2 qQ hd
 refine wpAny_pyIter_values hv hat ?_
 refine ⟨s1.heap.objs.size, [s1.heap.objs.size], _, _, _, rfl, I2.kept (t' := s1.toks) fun b o e => Heap.get?_push_of_some _ e, turn_vals a _ o kvs es ep hd, ?_, fun b hb => ?_, q o⟩
 · rw [Paired.length rel]; exact ⟨_, Heap.get?_push_size _ rfl, rfl, rfl⟩
 · have e : b = s1.heap.objs.size := by simpa using hb
   subst e
   exact I2.fpOk (Nat.le_refl _) (I2.hok.fresh (Nat.le_refl _))
end
end L2
namespace L2
open PySem PySem.Spec PyProof.Rows PySem.W
theorem for_it {J : It} {n : Nat} {g : TG} {tb : TS} {D : Ends} {σ : St} {H : Hp} (Pv : Nat → St → Hp → Prop) (h0 : Pv 0 σ H)
   (hs : ∀ i σ H, i < n → Pv i σ H → J.go i H ∧ ∀ x H', J.yld i H x H' → g x σ H' fun σ2 H2 => tb { D with nx := Pv (i + 1), ct := Pv (i + 1), bk := D.nx } σ2 H2) (hd : ∀ σ H, Pv n σ H → J.stop n H ∧ D.nx σ H) :
   ∃ W : Nat → Nat → St → Hp → Prop, (∃ m, W 0 m σ H) ∧ ∀ i m σ H, W i m σ H →
     (J.stop i H ∧ D.nx σ H) ∨ (J.go i H ∧ ∃ N : St → Hp → Prop, (∀ σ' H', N σ' H' → ∃ m', m' < m ∧ W (i + 1) m' σ' H') ∧ ∀ x H', J.yld i H x H' → g x σ H' fun σ2 H2 => tb { D with nx := N, ct := N, bk := D.nx } σ2 H2) := by
 refine ⟨fun i m σ H => m = n - i ∧ i ≤ n ∧ Pv i σ H, ⟨n, by simp, Nat.zero_le _, h0⟩, ?_⟩
 rintro i m σ H ⟨rfl, hi, p⟩
 by_cases z : i < n
 · obtain ⟨g1, g2⟩ := hs i σ H z p
   exact .inr ⟨g1, Pv (i + 1), fun σ' H' q => ⟨n - (i + 1), by omega, rfl, z, q⟩, g2⟩
 · have e : i = n := by omega
   subst e
   exact .inl (hd σ H p)
end L2
namespace L2
open PySem PySem.Spec PyProof.Rows PySem.W
theorem strs_are : ∀ {ss : List Str} {us : List Value}, Vals (ss.map V.str) us → StrsAre us ss
 | [], _, .nil => .nil
 | _ :: _, _, .cons ⟨t, e⟩ r => by subst e; exact .cons _ t (strs_are r)
theorem are_strs : ∀ {us : List Value} {ss : List Str}, StrsAre us ss → Vals (ss.map V.str) us
 | _, _, .nil => .nil
 | _, _, .cons n t r => .cons ⟨t, rfl⟩ (are_strs r)
def leT (a b : Str) : Prop := ltCps b.cps.toList a.cps.toList = false
theorem leT_lt {a b : Str} : leT a b ↔ ¬ (b.cps.toList < a.cps.toList) := by
 unfold leT; rw [ltCps_eq]; exact decide_eq_false_iff_not
theorem leT_anti {a b : Str} (h : leT a b) (h' : leT b a) : a = b := by
 rw [leT_lt] at h h'
 have e : a.cps.toList = b.cps.toList := List.le_antisymm (List.not_lt.mp h) (List.not_lt.mp h')
 have e2 : a.cps = b.cps := Array.toList_inj.mp e
 cases a; cases b; simp only at e2; subst e2; rfl
theorem leT_trans {a b c : Str} (h : leT a b) (h' : leT b c) : leT a c := by
 rw [leT_lt] at h h' ⊢
 exact List.not_lt.mpr (List.le_trans (List.not_lt.mp h) (List.not_lt.mp h'))
theorem risingS_pw : ∀ (l : List Str) (p : Str), risingS p l = true → (p :: l).Pairwise leT
 | [], p, _ => List.pairwise_singleton _ _
 | x :: r, p, h => by
   unfold risingS at h
   simp only [Bool.and_eq_true, Bool.not_eq_true'] at h
   have ih := risingS_pw r x h.2
   refine List.pairwise_cons.mpr ⟨fun y hy => ?_, ih⟩
   rcases List.mem_cons.mp hy with rfl | z
   · exact h.1
   · exact leT_trans h.1 ((List.pairwise_cons.mp ih).1 y z)
theorem sortedS_pw : ∀ {l : List Str}, sortedS l = true → l.Pairwise leT
 | [], _ => .nil
 | x :: r, h => risingS_pw r x h
theorem txt_uniq : ∀ {a b : List Str}, a.Perm b → a.Pairwise leT → b.Pairwise leT → a = b
 | [], b, h, _, _ => (List.nil_perm.mp h).symm ▸ rfl
 | x :: r, [], h, _, _ => by have := h.length_eq; simp at this
 | x :: r, y :: t, h, ha, hb => by
   have hx : x ∈ y :: t := h.mem_iff.mp List.mem_cons_self
   have hy : y ∈ x :: r := h.mem_iff.mpr List.mem_cons_self
   have e : x = y := by
     rcases List.mem_cons.mp hx with z | z
     · exact z
     rcases List.mem_cons.mp hy with w | w
     · exact w.symm
     exact leT_anti ((List.pairwise_cons.mp ha).1 y w) ((List.pairwise_cons.mp hb).1 x z)
   subst e
   rw [txt_uniq (List.Perm.cons_inv h) (List.pairwise_cons.mp ha).2 (List.pairwise_cons.mp hb).2]
def TxtSrc (K : W.Frag) (x : V) (H : Hp) (ss : List Str) : Prop := (∃ a, x = .ref a ∧ SqL K H a (ss.map V.str)) ∨ ∃ d kvs, x = .ref d ∧ H d = some (.dK kvs) ∧ kvs.map (·.1) = ss.map Sum.inr
section
variable {X : Cx}
theorem TxtSrc.coll {x : V} {H : Hp} {ss : List Str} (h : TxtSrc X.K x H ss) : Coll X x H (ss.map V.str) := by
 rcases h with ⟨a, rfl, h⟩ | ⟨d, kvs, rfl, h, e⟩
 · exact coll_list h
 · have z := coll_keys (X := X) h
   have e2 : kvs.map (fun kv => kV kv.1) = ss.map V.str := by
     have : kvs.map (fun kv => kV kv.1) = (kvs.map (·.1)).map kV := by rw [List.map_map]; rfl
     rw [this, e, List.map_map]; rfl
   rw [e2] at z
   exact z
structure SortT (ss ts : List Str) : Prop where
 perm : ts.Perm ss
 rise : ts.Pairwise leT
theorem SortT.eq {ss ts : List Str} (h : SortT ss ts) {us : List Str} (hp : us.Perm ss) (hu : us.Pairwise leT) : ts = us := txt_uniq (h.perm.trans hp.symm) h.rise hu
theorem sort_body {pins : List (Addr × Obj)} {σ : St} {H : Hp} {s1 : Shared} {ss : List Str} {vs : List Value} {A : Around} {E : Value → Shared → Prop} {Q : VK} {R : PySem.Fin → Shared → Prop} (I1 : Inv X pins σ H s1) (rv : Vals (ss.map V.str) vs) (h64 : ss.length < 64)
   (q : ∀ p ts s', SortT ss ts → p = s1.heap.objs.size → H p = none → Inv X pins σ (upd H p (.lst (ts.map V.str))) s' → R (.done (.ret .none)) s') :
   wpAny (model X.prog X.w) A (Builtin.«list.sort» ⟨[.ref s1.heap.objs.size], []⟩) R E { s1 with heap := s1.heap.push (seqObj "list" vs.toArray 0) } := by
 have hl := rv.length
 rw [List.length_map] at hl
 have fD : FpOk X pins H s1.heap.objs.size := I1.fpOk (Nat.le_refl _) (I1.hok.fresh (Nat.le_refl _))
 have hoL : (s1.heap.push (seqObj "list" vs.toArray 0)).get? s1.heap.objs.size = some (seqObj "list" vs.toArray 0) := Heap.get?_push_size _ rfl
 have hS := strs_are rv
 refine list_sort_treeK strKind_oneLt (s := { s1 with heap := s1.heap.push (seqObj "list" vs.toArray 0) }) hoL hS.keysOf (fun v₁ v₂ rest e => keyKind_strs (by rw [← e]; exact hS)) (by omega) fun st' hp hs => ?_
 obtain ⟨ts, h1, h2, h3⟩ := sorted_out_str hS hp hs
 generalize (arrOf st').map (·.2) = out at h1
 obtain ⟨c, hat⟩ := sortedHeap_at (out := out) hoL
 refine q s1.heap.objs.size ts _ ⟨h2, sortedS_pw h3⟩ rfl fD.1 ?_
 have I3 : Inv X pins σ H { s1 with heap := sortedHeap (s1.heap.push (seqObj "list" vs.toArray 0)) s1.heap.objs.size vs out } := I1.kept (t' := s1.toks) fun b o e => by
   have hb : b ≠ s1.heap.objs.size := Nat.ne_of_lt (Heap.lt_size e)
   rw [sortedHeap_old hb (by rw [Heap.size_push]; exact Nat.lt_succ_of_lt (Heap.lt_size e))]
   exact Heap.get?_push_of_some _ e
 refine I3.track fD ⟨?_, out.toList, c, are_strs h1, ?_⟩
 · rw [List.length_map, h2.length_eq, sizeLine_eq]; omega
 · simpa [seqObj] using hat
def rSortT (K : W.Frag) : List V → Hp → VK → Prop := fun xs H Q => ∃ x ss, xs = [x] ∧ TxtSrc K x H ss ∧ ss.length < 64 ∧ ∀ p ts, H p = none → SortT ss ts → Q (.ref p) (upd H p (.lst (ts.map V.str)))
theorem call_sortT (hc : X.calm = true) : Jv X (.builtin "sorted") (rSortT X.K) := by
 intro pins s σ H xs us Q I r h
 obtain ⟨x, ss, rfl, hx, h64, q⟩ := h
 obtain ⟨u, rfl, ru⟩ := vals1 r
 refine Calls.call_function_entry kind_sorted plain_sorted entry_sorted (args_sorted1 _) ?_
 unfold Builtin.«sorted»
 refine wpAny_bind (m := checkCount "sorted" 1 1 _) (wpAny_pure ?_)
 refine wpAny_bind (hx.coll pins s σ u _ _ _ I ru (I.ok.hd hc) fun vs s1 rv I1 => ?_)
 have hl := rv.length
 rw [List.length_map] at hl
 refine wpAny_bind (wpAny_newList ?_ (by rw [sizeLine_eq]; omega))
 have hoL : (s1.heap.push (seqObj "list" vs.toArray 0)).get? s1.heap.objs.size = some (seqObj "list" vs.toArray 0) := Heap.get?_push_size _ rfl
 refine wpAny_bind (wpAny_holding (wpAny_call_entry slot_list_sort ⟨_, hoL, rfl⟩ entry_list_sort ?body (args_list_sort _)))
 case body => exact sort_body (Q := Q) I1 rv h64 fun p ts s' hs e hn I' => ⟨_, rfl, by subst e; exact wpAny_pure ⟨_, rfl, .ref _, _, I', rfl, q _ ts hn hs⟩⟩
theorem k_sortT (K : W.Frag) (hc : X.calm = true) (h : X.K = K := by rfl) : Jv X (.builtin "sorted") (rSortT K) := h ▸ call_sortT hc
end
end L2
namespace L2
open PySem PySem.Spec PyProof.Rows PySem.W
def tabN (l : List Str) (F : Str → V) : List (Key × V) := l.map fun n => (Sum.inr n, F n)
theorem YQ {l : List Str} {F : Str → V} {n : Str} (h : n ∈ l) : valV (tabN l F) (Sum.inr n) = some (F n) := by
 induction l with
 | nil => exact absurd h List.not_mem_nil
 | cons m r ih =>
   by_cases e : m = n
   · subst e; exact yUJ rfl
   · rcases List.mem_cons.mp h with z | z
     · exact absurd z.symm e
     · exact (qYZ (fun w => e (Sum.inr.inj w))).trans (ih z)
theorem qQQ {l : List Str} {F : Str → V} {n : Str} (h : n ∉ l) : valV (tabN l F) (Sum.inr n) = none := by
 induction l with
 | nil => rfl
 | cons m r ih =>
   rw [List.mem_cons, not_or] at h
   exact (qYZ (fun w => h.1 (Sum.inr.inj w).symm)).trans (ih h.2)
theorem UU (l : List Str) (F : Str → V) : (tabN l F).length = l.length := by unfold tabN; rw [List.length_map]
theorem vJJ {l : List Str} {F : Str → V} {n : Str} (h : n ∉ l) (v : V) : putK (tabN l F) (Sum.inr n) v = tabN (l ++ [n]) (fun m => if m = n then v else F m) := by
 rw [putK_new _ (qQQ h)]
 unfold tabN
 rw [List.map_append]
 congr 1
 · refine List.map_congr_left fun m hm => ?_
   show (Sum.inr m, F m) = (Sum.inr m, if m = n then v else F m)
   rw [if_neg (fun (z : m = n) => h (z ▸ hm))]
 · show _ = [(Sum.inr n, if n = n then v else F n)]
   rw [if_pos rfl]
theorem Yq {l : List Str} {F G : Str → V} (h : ∀ n ∈ l, F n = G n) : tabN l F = tabN l G := List.map_congr_left fun n hn => by rw [h n hn]
theorem tabN_keys (l : List Str) (F : Str → V) : (tabN l F).map (·.1) = l.map Sum.inr := by unfold tabN; rw [List.map_map]; rfl
structure FE where
 p : Addr
 r : Addr
 d : Addr
 sz : Int
 way : Str
 s : RS
 B : HA
 h : HS
def FE.fp (e : FE) : List Addr := [e.p, e.r, e.d] ++ e.B.fp
structure FEAt (CR CH : Addr) (H : Hp) (e : FE) : Prop where
 ra : RAt CR H e.p e.sz e.way e.s e.r e.d
 ha : HAt CH H e.B e.h []
 ap : ∀ c ∈ [e.p, e.r, e.d], c ∉ e.B.fp
section
variable {CR CH : Addr} {H H' : Hp} {e : FE}
theorem FEAt.step {ps ps' : List Addr} (h : FEAt CR CH H e) (st : Stp ps H ps' H') (hd : ∀ c ∈ e.fp, c ∉ ps) : FEAt CR CH H' e :=
 ⟨h.ra.step st fun c hc => hd c (List.mem_append_left _ hc), h.ha.step st fun c hc => hd c (List.mem_append_right _ hc), h.ap⟩
theorem FEAt.same (h : FEAt CR CH H e) (s : Same H H') : FEAt CR CH H' e := h.step (s.step []) fun _ _ => List.not_mem_nil
theorem FEAt.live (h : FEAt CR CH H e) : ∀ c ∈ e.fp, ∃ o, H c = some o := fun c hc => by
 rcases List.mem_append.mp hc with z | z
 · obtain ⟨⟨dx, h1⟩, ⟨ys, h2, _⟩, h4, _⟩ := h.ra
   simp only [List.mem_cons, List.not_mem_nil, or_false] at z
   rcases z with rfl | rfl | rfl
   · exact ⟨_, h1⟩
   · exact ⟨_, h2⟩
   · exact ⟨_, h4⟩
 · exact h.ha.live c z
theorem FEAt.out {ps ps' : List Addr} (h : FEAt CR CH H e) (st : Stp ps H ps' H') (hd : ∀ c ∈ e.fp, c ∉ ps) : ∀ c ∈ e.fp, c ∉ ps' := fun c hc => by
 obtain ⟨o, ho⟩ := h.live c hc
 exact st.out ho (hd c hc)
theorem FEAt.road (h : FEAt CR CH H e) {s' : RS} {r' : Addr} (st : Stp [e.p, e.r, e.d] H [e.p, r', e.d] H') (hr : RAt CR H' e.p e.sz e.way s' r' e.d) : FEAt CR CH H' { e with s := s', r := r' } ∧ Stp e.fp H (FE.fp { e with s := s', r := r' }) H' := by
 refine ⟨⟨hr, h.ha.step st (fun c hc z => h.ap c z hc), fun c hc z => ?_⟩, st.weak (fun c hc => List.mem_append_left _ hc) fun c hc => ?_⟩
 · obtain ⟨o, ho⟩ := h.ha.live c z
   exact st.out ho (fun y => h.ap c y z) hc
 · rcases List.mem_append.mp hc with z | z
   · exact .inl z
   · exact .inr (List.mem_append_right _ z)
theorem FEAt.hear (h : FEAt CR CH H e) {h' : HS} (st : Stp e.B.fp H e.B.fp H') (hh : HAt CH H' e.B h' []) : FEAt CR CH H' { e with h := h' } ∧ Stp e.fp H (FE.fp { e with h := h' }) H' :=
 ⟨⟨h.ra.step st h.ap, hh, h.ap⟩, st.up fun c hc => List.mem_append_right _ hc⟩
end
def updE (g : Str → FE) (n : Str) (e : FE) : Str → FE := fun m => if m = n then e else g m
theorem yY {g : Str → FE} {n : Str} {e : FE} : updE g n e n = e := if_pos rfl
theorem zZ {g : Str → FE} {n m : Str} {e : FE} (h : m ≠ n) : updE g n e m = g m := if_neg h
theorem updE_twice {g : Str → FE} {n : Str} {e e' : FE} : updE (updE g n e) n e' = updE g n e' := by
 funext m; unfold updE; split <;> rfl
def fpF (l : List Str) (g : Str → FE) : List Addr := l.flatMap fun n => (g n).fp
theorem mem_fpF {l : List Str} {g : Str → FE} {c : Addr} : c ∈ fpF l g ↔ ∃ n ∈ l, c ∈ (g n).fp := by unfold fpF; rw [List.mem_flatMap]
theorem fpF_congr {l : List Str} {g g' : Str → FE} (h : ∀ n ∈ l, (g n).fp = (g' n).fp) : fpF l g = fpF l g' := by
 unfold fpF
 rw [List.flatMap_def, List.flatMap_def, List.map_congr_left h]
structure FanC (K : W.Frag) (mg : Str → Option Value) (C : Addr) : Prop where
 cl_Fan : Cls K C
 mg_Fan : mg "Fan" = some (.ref C)
 n_teller : NoAttr K C "teller"
 n_roads : NoAttr K C "roads"
 n_hearers : NoAttr K C "hearers"
structure FA where
 p : Addr
 rd : Addr
 hd : Addr
 tp : Addr
 ts : Addr
 td : Addr
def fFl (a : FA) : List (Str × V) := [("teller", .ref a.tp), ("roads", .ref a.rd), ("hearers", .ref a.hd)]
theorem fFl_t (a : FA) : (fFl a).lookup ("teller" : Str) = some (V.ref a.tp) := Zy
theorem fFl_r (a : FA) : (fFl a).lookup ("roads" : Str) = some (V.ref a.rd) := (yQ (by decide +kernel)).trans Zy
theorem fFl_h (a : FA) : (fFl a).lookup ("hearers" : Str) = some (V.ref a.hd) := (yQ (by decide +kernel)).trans ((yQ (by decide +kernel)).trans Zy)
theorem fFl_no {a : FA} {f : Str} (h1 : ¬ f = "teller") (h2 : ¬ f = "roads") (h3 : ¬ f = "hearers") : (fFl a).lookup f = none := (yQ h1).trans ((yQ h2).trans (yQ h3))
theorem fFl_make (a : FA) : putF "hearers" (.ref a.hd) (putF "roads" (.ref a.rd) (putF "teller" (.ref a.tp) [])) = fFl a := by
 show putF "hearers" (.ref a.hd) (putF "roads" (.ref a.rd) [("teller", .ref a.tp)]) = _
 rw [yV (by decide +kernel)]
 show putF "hearers" (.ref a.hd) [("teller", .ref a.tp), ("roads", .ref a.rd)] = _
 rw [yV (by decide +kernel), yV (by decide +kernel)]
 rfl
def FA.own (a : FA) : List Addr := [a.p, a.rd, a.hd, a.tp, a.ts, a.td]
def FA.fp (a : FA) (l : List Str) (g : Str → FE) : List Addr := a.own ++ fpF l g
def rdT (l : List Str) (g : Str → FE) : List (Key × V) := tabN l fun n => .ref (g n).p
def hdT (l : List Str) (g : Str → FE) : List (Key × V) := tabN l fun n => .ref (g n).B.p
structure FAt0 (CF CT CR CH : Addr) (H : Hp) (a : FA) (l : List Str) (g : Str → FE) (k : Int) (all : List Msg) : Prop where
 ob : ∃ dx, H a.p = some (.ins CF dx (fFl a))
 tl : TAt CT H a.tp k 0 all a.ts a.td
 hs : H a.hd = some (.dK (hdT l g))
 en : ∀ n ∈ l, FEAt CR CH H (g n)
 nd : l.Nodup
 ap : ∀ n ∈ l, ∀ m ∈ l, n ≠ m → ∀ c ∈ (g n).fp, c ∉ (g m).fp
 own : ∀ n ∈ l, ∀ c ∈ (g n).fp, c ∉ a.own
 ne : a.rd ∉ [a.p, a.hd]
 bt : ∀ c ∈ [a.p, a.rd, a.hd], c ∉ [a.tp, a.ts, a.td]
structure FAt (CF CT CR CH : Addr) (H : Hp) (a : FA) (l : List Str) (g : Str → FE) (k : Int) (all : List Msg) : Prop extends FAt0 CF CT CR CH H a l g k all where
 rs : H a.rd = some (.dK (rdT l g))
section
variable {CF CT CR CH : Addr} {H H' : Hp} {a : FA} {l : List Str} {g : Str → FE} {k : Int} {all all' : List Msg} {n : Str} {e : FE}
theorem FAt0.step {ps ps' : List Addr} (h : FAt0 CF CT CR CH H a l g k all) (st : Stp ps H ps' H') (hd : ∀ c ∈ a.fp l g, c ≠ a.rd → c ∉ ps) : FAt0 CF CT CR CH H' a l g k all := by
 obtain ⟨⟨dx, h1⟩, h2, h4, h5, h6, h7, h8, h9, h10⟩ := h
 have n1 : a.p ≠ a.rd := fun z => h9 (by simp [z])
 have n2 : a.hd ≠ a.rd := fun z => h9 (by simp [z])
 have nt : ∀ c ∈ [a.tp, a.ts, a.td], c ≠ a.rd := fun c hc z => h10 a.rd (by simp) (z ▸ hc)
 have ho : ∀ c ∈ a.own, c ≠ a.rd → c ∉ ps := fun c hc hn => hd c (List.mem_append_left _ hc) hn
 refine ⟨⟨dx, st.keep h1 (ho _ (by simp [FA.own]) n1)⟩, h2.stp st (fun c hc => ho c ?_ (nt c hc)), st.keep h4 (ho _ (by simp [FA.own]) n2), fun n hn => (h5 n hn).step st fun c hc => hd c (List.mem_append_right _ (mem_fpF.mpr ⟨n, hn, hc⟩)) (fun z => h8 n hn c hc (by rw [z]; simp [FA.own])), h6, h7, h8, h9, h10⟩
 simp only [List.mem_cons, List.not_mem_nil, or_false] at hc
 rcases hc with rfl | rfl | rfl <;> simp [FA.own]
theorem FAt.step {ps ps' : List Addr} (h : FAt CF CT CR CH H a l g k all) (st : Stp ps H ps' H') (hd : ∀ c ∈ a.fp l g, c ∉ ps) : FAt CF CT CR CH H' a l g k all :=
 ⟨h.toFAt0.step st fun c hc _ => hd c hc, st.keep h.rs (hd _ (List.mem_append_left _ (by simp [FA.own])))⟩
theorem FAt.same (h : FAt CF CT CR CH H a l g k all) (s : Same H H') : FAt CF CT CR CH H' a l g k all := h.step (s.step []) fun _ _ => List.not_mem_nil
theorem TAt.live3 {C : Addr} {H : Hp} {p : Addr} {k r : Int} {all : List Msg} {s d : Addr} (h : TAt C H p k r all s d) : ∀ c ∈ [p, s, d], ∃ o, H c = some o := fun c hc => by
 obtain ⟨⟨dx, h1⟩, ⟨ys, h2, h3⟩, ⟨kvs, h4, h5⟩⟩ := h
 simp only [List.mem_cons, List.not_mem_nil, or_false] at hc
 rcases hc with rfl | rfl | rfl
 · exact ⟨_, h1⟩
 · exact ⟨_, h2⟩
 · exact ⟨_, h4⟩
theorem FAt.live (h : FAt CF CT CR CH H a l g k all) : ∀ c ∈ a.fp l g, ∃ o, H c = some o := fun c hc => by
 rcases List.mem_append.mp hc with z | z
 · simp only [FA.own, List.mem_cons, List.not_mem_nil, or_false] at z
   rcases z with rfl | rfl | rfl | rfl | rfl | rfl
   · obtain ⟨dx, e⟩ := h.ob; exact ⟨_, e⟩
   · exact ⟨_, h.rs⟩
   · exact ⟨_, h.hs⟩
   · exact h.tl.live3 _ (by simp)
   · exact h.tl.live3 _ (by simp)
   · exact h.tl.live3 _ (by simp)
 · obtain ⟨n, hn, hc⟩ := mem_fpF.mp z
   exact (h.en n hn).live c hc
theorem FAt.free (h : FAt CF CT CR CH H a l g k all) {c : Addr} (hc : H c = none) : c ∉ a.fp l g := fun z => by
 obtain ⟨o, ho⟩ := h.live c z
 rw [ho] at hc; cases hc
theorem FAt.out {ps ps' : List Addr} (h : FAt CF CT CR CH H a l g k all) (st : Stp ps H ps' H') (hd : ∀ c ∈ a.fp l g, c ∉ ps) : ∀ c ∈ a.fp l g, c ∉ ps' := fun c hc => by
 obtain ⟨o, ho⟩ := h.live c hc
 exact st.out ho (hd c hc)
theorem FAt0.put (h : FAt0 CF CT CR CH H a l g k all) (hn : n ∈ l) (lv : ∃ o, H a.rd = some o) (st : Stp (g n).fp H e.fp H') (he : FEAt CR CH H' e) (hp : e.p = (g n).p) (hb : e.B.p = (g n).B.p) : FAt0 CF CT CR CH H' a l (updE g n e) k all ∧ Stp (a.fp l g) H (a.fp l (updE g n e)) H' := by
 have oo : ∀ c ∈ a.own, c ∉ (g n).fp := fun c hc z => h.own n hn c z hc
 have ho : ∀ c ∈ a.own, c ∉ e.fp := fun c hc => by
   have hl : ∃ o, H c = some o := by
     have hc' := hc
     simp only [FA.own, List.mem_cons, List.not_mem_nil, or_false] at hc'
     rcases hc' with rfl | rfl | rfl | rfl | rfl | rfl
     · obtain ⟨dx, e⟩ := h.ob; exact ⟨_, e⟩
     · exact lv
     · exact ⟨_, h.hs⟩
     · exact h.tl.live3 _ (by simp)
     · exact h.tl.live3 _ (by simp)
     · exact h.tl.live3 _ (by simp)
   obtain ⟨o, hl⟩ := hl
   exact st.out hl (oo c hc)
 have hoth : ∀ m ∈ l, m ≠ n → ∀ c ∈ (g m).fp, c ∉ (g n).fp := fun m hm hne => h.ap m hm n hn hne
 have hT : hdT l (updE g n e) = hdT l g := Yq fun m _ => by
   by_cases z : m = n
   · subst z; rw [yY, hb]
   · rw [zZ z]
 obtain ⟨dx, h1⟩ := h.ob
 refine ⟨⟨⟨dx, st.keep h1 (oo _ (by simp [FA.own]))⟩, h.tl.stp st (fun c hc => oo c ?_), by rw [hT]; exact st.keep h.hs (oo _ (by simp [FA.own])), fun m hm => ?_, h.nd, fun m hm m' hm' hne => ?_, fun m hm c hc => ?_, h.ne, h.bt⟩, st.weak (fun c hc => List.mem_append_right _ (mem_fpF.mpr ⟨n, hn, hc⟩)) fun c hc => ?_⟩
 · simp only [List.mem_cons, List.not_mem_nil, or_false] at hc
   rcases hc with rfl | rfl | rfl <;> simp [FA.own]
 · by_cases z : m = n
   · subst z; rw [yY]; exact he
   · rw [zZ z]; exact (h.en m hm).step st (hoth m hm z)
 · by_cases z : m = n
   · subst z
     rw [yY, zZ (Ne.symm hne)]
     exact fun c hc y => (h.en m' hm').out st (hoth m' hm' (Ne.symm hne)) c y hc
   · rw [zZ z]
     by_cases z' : m' = n
     · subst z'
       rw [yY]
       exact (h.en m hm).out st (hoth m hm z)
     · rw [zZ z']; exact h.ap m hm m' hm' hne
 · by_cases z : m = n
   · subst z; rw [yY] at hc; exact fun y => ho c y hc
   · rw [zZ z] at hc; exact h.own m hm c hc
 · rcases List.mem_append.mp hc with z | z
   · exact .inr (List.mem_append_left _ z)
   · obtain ⟨m, hm, hc⟩ := mem_fpF.mp z
     by_cases y : m = n
     · subst y; rw [yY] at hc; exact .inl hc
     · rw [zZ y] at hc; exact .inr (List.mem_append_right _ (mem_fpF.mpr ⟨m, hm, hc⟩))
theorem rdT_upd (hp : e.p = (g n).p) : rdT l (updE g n e) = rdT l g := Yq fun m _ => by
 by_cases z : m = n
 · subst z; rw [yY, hp]
 · rw [zZ z]
theorem FAt.put (h : FAt CF CT CR CH H a l g k all) (hn : n ∈ l) (st : Stp (g n).fp H e.fp H') (he : FEAt CR CH H' e) (hp : e.p = (g n).p) (hb : e.B.p = (g n).B.p) : FAt CF CT CR CH H' a l (updE g n e) k all ∧ Stp (a.fp l g) H (a.fp l (updE g n e)) H' := by
 have ⟨h1, h2⟩ := h.toFAt0.put hn ⟨_, h.rs⟩ st he hp hb
 exact ⟨⟨h1, by rw [rdT_upd hp]; exact st.keep h.rs (fun z => h.own n hn _ z (by simp [FA.own]))⟩, h2⟩
theorem FAt.told (h : FAt CF CT CR CH H a l g k all) (tl : TAt CT H' a.tp k 0 all' a.ts a.td) (st : Stp [a.tp, a.ts, a.td] H [a.tp, a.ts, a.td] H') : FAt CF CT CR CH H' a l g k all' ∧ Stp (a.fp l g) H (a.fp l g) H' := by
 have sub : ∀ c ∈ [a.tp, a.ts, a.td], c ∈ a.own := fun c hc => by
   simp only [List.mem_cons, List.not_mem_nil, or_false] at hc
   rcases hc with rfl | rfl | rfl <;> simp [FA.own]
 obtain ⟨dx, h1⟩ := h.ob
 exact ⟨⟨⟨⟨dx, st.keep h1 (h.bt _ (by simp))⟩, tl, st.keep h.hs (h.bt _ (by simp)), fun n hn => (h.en n hn).step st fun c hc z => h.own n hn c hc (sub c z), h.nd, h.ap, h.own, h.ne, h.bt⟩, st.keep h.rs (h.bt _ (by simp))⟩, st.up fun c hc => List.mem_append_left _ (sub c hc)⟩
end
section
variable (CF CT CR CH : Addr)
def spFInit : Sp := fun vs H Q _ => ∃ (p dx : Addr) (k : Int), vs = [.ref p, .int k] ∧ H p = some (.ins CF dx []) ∧ ∀ a H', FA.p a = p → (∀ g, FAt CF CT CR CH H' a [] g k []) → Stp [p] H a.own H' → Q .non H'
def spFLay : Sp := fun vs H Q _ => ∃ a l g k all n sz way, vs = [.ref (FA.p a), .str n, .int sz, .str way] ∧ FAt CF CT CR CH H a l g k all ∧ n ∉ l ∧ l.length < 100 ∧
 ∀ e H', FAt CF CT CR CH H' a (l ++ [n]) (updE g n e) k all → FE.sz e = sz → e.way = way → e.s = ⟨[], [], false⟩ → e.h = hs0 → Stp (a.fp l g) H (a.fp (l ++ [n]) (updE g n e)) H' → Q .non H'
def QQY : Sp := fun vs H Q _ => ∃ a l g k all, vs = [.ref (FA.p a)] ∧ FAt CF CT CR CH H a l g k all ∧ l.length < 64 ∧ ∀ p ts, H p = none → SortT l ts → Q (.ref p) (upd H p (.lst (ts.map V.str)))
structure FPut (m : Msg) (e e' : FE) : Prop where
 sz : e'.sz = e.sz
 way : e'.way = e.way
 s : e'.s = ZD e.sz e.way e.s m
 h : e'.h = e.h
def QQQ : Sp := fun vs H Q _ => ∃ a l g k all t x, vs = [.ref (FA.p a), .str t, .str x] ∧ FAt CF CT CR CH H a l g k all ∧ all.length < 60 ∧ 0 ≤ k ∧ l.length < 100 ∧ (∀ n ∈ l, (g n).s.rows.length < 63 ∧ (g n).s.out.length < 1000) ∧
 ∀ g' H', FAt CF CT CR CH H' a l g' k (all ++ [⟨(all.length : Int) + 1, t, x⟩]) → (∀ n ∈ l, FPut ⟨(all.length : Int) + 1, t, x⟩ (g n) (g' n)) → Stp (a.fp l g) H (a.fp l g') H' → Q (.int ((all.length : Int) + 1)) H'
def spFCarry : Sp := fun vs H Q _ => ∃ a l g k all n i, vs = [.ref (FA.p a), .str n, .int i] ∧ FAt CF CT CR CH H a l g k all ∧ n ∈ l ∧ 0 ≤ i ∧ Fits (g n).h ((g n).s.rows.take i.toNat) ∧ (∀ m ∈ (g n).s.rows, mOk m) ∧ Diff (g n).h.held ∧ (g n).h.heard.length + (g n).h.held.length + (g n).h.lost.length < 1000 ∧ (g n).s.rows.length < 1000 ∧
 ∀ e lh ys found H', FAt CF CT CR CH H' a l (updE g n e) k all → FE.sz e = (g n).sz → e.way = (g n).way → e.s = { (g n).s with rows := (g n).s.rows.drop i.toNat } → e.h = vV (g n).h ((g n).s.rows.take i.toNat) → (vV (g n).h ((g n).s.rows.take i.toNat)).heard = (g n).h.heard ++ found → Stp (a.fp l g) H (a.fp l (updE g n e)) H' → (lh ∈ a.fp l g ∨ H lh = none) → lh ∉ a.fp l (updE g n e) → H' lh = some (.lst ys) → Ms H' ys found → Q (.ref lh) H'
def spFCatch : Sp := fun vs H Q _ => ∃ a l g k all n, vs = [.ref (FA.p a), .str n] ∧ FAt CF CT CR CH H a l g k all ∧ n ∈ l ∧ 0 ≤ k ∧ Rows all ∧ all.length < 60 ∧ (∀ m ∈ all, mOk m) ∧ Hw all (g n).h ∧ (g n).h.next ≤ (all.length : Int) + 1 ∧ (g n).h.heard.length + (g n).h.held.length ≤ 200 ∧
 ∀ e q lh ys found H', FAt CF CT CR CH H' a l (updE g n e) k all → FE.sz e = (g n).sz → e.way = (g n).way → e.s = { (g n).s with cut := false } → e.h = vG k all (g n).h → (vG k all (g n).h).heard = (g n).h.heard ++ found → Stp (a.fp l g) H (a.fp l (updE g n e)) H' → q ∉ a.fp l (updE g n e) → (lh ∈ a.fp l g ∨ H lh = none) → lh ∉ a.fp l (updE g n e) → H' q = some (.tup [.ref lh, .int (((vG k all (g n).h).lost.length : Int) - ((g n).h.lost.length : Int))]) → H' lh = some (.lst ys) → Ms H' ys found → Q (.ref q) H'
def spCaughtN (C CH : Addr) : Sp := fun vs H Q _ => ∃ tp a k r all sd d hs, vs = [.ref tp, .ref (HA.p a)] ∧ TAt C H tp k r all sd d ∧ HAt CH H a hs [] ∧ (∀ c ∈ [tp, sd, d], c ∉ a.fp) ∧ 0 ≤ k ∧ Rows all ∧ all.length < 60 ∧ (∀ m ∈ all, mOk m) ∧ Hw all hs ∧ hs.next ≤ (all.length : Int) + 1 ∧ hs.heard.length + hs.held.length ≤ 200 ∧
 ∀ q l ys found H', HAt CH H' a (vG k all hs) [] → (vG k all hs).heard = hs.heard ++ found → Stp a.fp H a.fp H' → H q = none → H' q = some (.tup [.ref l, .int (((vG k all hs).lost.length : Int) - (hs.lost.length : Int))]) → H' l = some (.lst ys) → Ms H' ys found → l ∉ a.fp → q ∉ a.fp → H l = none → Q (.ref q) H'
def spFClose : Sp := fun vs H Q _ => ∃ a l g k all n, vs = [.ref (FA.p a), .str n] ∧ FAt CF CT CR CH H a l g k all ∧ n ∈ l ∧ ∀ H', FAt CF CT CR CH H' a (l.filter fun m => decide (m ≠ n)) g k all → Stp (a.fp l g) H (a.fp (l.filter fun m => decide (m ≠ n)) g) H' → Q .non H'
def lagF (all : List Msg) (e : FE) : Int := (all.length : Int) - e.h.next + 1
def spFLag : Sp := fun vs H Q _ => ∃ a l g k all n, vs = [.ref (FA.p a), .str n] ∧ FAt CF CT CR CH H a l g k all ∧ n ∈ l ∧ Q (.int (lagF all (g n))) H
def IsMax (ns : List Int) (M : Int) : Prop := (ns = [] ∧ M = 0) ∨ (M ∈ ns ∧ ∀ x ∈ ns, x ≤ M)
def spFSlow : Sp := fun vs H Q _ => ∃ a l g k all, vs = [.ref (FA.p a)] ∧ FAt CF CT CR CH H a l g k all ∧ l.length < 64 ∧ ∀ p ts M H', Same H H' → H p = none → SortT l ts → IsMax (ts.map fun n => lagF all (g n)) M → H' p = some (.lst ((ts.filter fun n => decide (lagF all (g n) = M)).map V.str)) → Q (.ref p) H'
end
end L2
namespace L2
open PySem PySem.Spec PyProof.Rows PySem.W
def lits (f : Expr → Option PyData) : List Expr → Option (List PyData)
 | [] => some []
 | e :: es => match f e, lits f es with
   | some d, some ds => if es.length < 1000 then some (d :: ds) else none
   | _, _ => none
def litE : Nat → Expr → Option PyData
 | 0, _ => none
 | n + 1, e => match e with
   | .Constant (.str x) _ _ => some (.str x)
   | .Constant (.int i) _ _ => some (.int i)
   | .Constant (.bool b) _ _ => some (.bool b)
   | .Constant .none _ _ => some .none
   | .Tuple es _ _ => (lits (litE n) es).map .tuple
   | .List es _ => (lits (litE n) es).map .list
   | _ => none
def tLit (d : PyData) : TE := fun _ H Q => ∀ v H', Same H H' → Has H' v d → (∀ a, v = .ref a → H a = none) → Q v H'
def tLits (ds : List PyData) : TA := fun _ H Q => ∀ vs H', Same H H' → HasL H' vs ds → Q vs H'
section
variable {X : Cx}
theorem PE.wk {e : Expr} {t t' : TE} (h : PE X e t) (k : ∀ σ H Q, t' σ H Q → t σ H Q) : PE X e t' := fun pins s σ H Q I hq => h pins s σ H Q I (k _ _ _ hq)
theorem PAs.wk {es : List Expr} {t t' : TA} (h : PAs X es t) (k : ∀ σ H Q, t' σ H Q → t σ H Q) : PAs X es t' := ⟨fun pos pins s σ H Q I hq => h.pa pos pins s σ H Q I (k _ _ _ hq), h.st⟩
theorem lit_plain {n : Nat} {e : Expr} {d : PyData} (h : litE n e = some d) : plainE e = true := by
 cases n with
 | zero => cases h
 | succ n => cases e <;> first | rfl | (unfold litE at h; cases h)
theorem lits_ok {f : Expr → Option PyData} (hf : ∀ e d, f e = some d → PE X e (tLit d)) (hp : ∀ e d, f e = some d → plainE e = true) : ∀ {es : List Expr} {ds : List PyData}, lits f es = some ds → PAs X es (tLits ds) ∧ ds.length = es.length
 | [], ds, h => by
   cases h
   exact ⟨as_nil.wk fun σ H Q hq => hq [] H (Same.refl H) Mz, rfl⟩
 | e :: es, ds, h => by
   unfold lits at h
   cases h1 : f e with
   | none => rw [h1] at h; cases h
   | some d =>
     cases h2 : lits f es with
     | none => rw [h1, h2] at h; cases h
     | some r =>
       rw [h1, h2] at h
       by_cases hl : es.length < 1000
       · simp only [if_pos hl] at h
         cases h
         obtain ⟨k1, k2⟩ := lits_ok hf hp h2
         refine ⟨(qM (hf e d h1) k1 (hp e d h1)).wk fun σ H Q hq => ?_, by rw [List.length_cons, List.length_cons, k2]⟩
         exact fun v H1 s1 hv _ vs H2 s2 hvs => hq (v :: vs) H2 (s1.trans s2) (zV (hv.same s2) hvs)
       · simp only [if_neg hl] at h
         cases h
theorem lits_len {f : Expr → Option PyData} : ∀ {es : List Expr} {ds : List PyData}, lits f es = some ds → es.length ≤ 1000
 | [], _, _ => Nat.zero_le _
 | e :: es, ds, h => by
   unfold lits at h
   cases h1 : f e with
   | none => rw [h1] at h; cases h
   | some d =>
     cases h2 : lits f es with
     | none => rw [h1, h2] at h; cases h
     | some r =>
       rw [h1, h2] at h
       by_cases hl : es.length < 1000
       · rw [List.length_cons]; omega
       · simp only [if_neg hl] at h; cases h
theorem pe_lit : ∀ {n : Nat} {e : Expr} {d : PyData}, litE n e = some d → PE X e (tLit d)
 | 0, _, _, h => by cases h
 | n + 1, e, d, h => by
   have scal : ∀ (v : V) (d : PyData) (e : Expr), PE X e (tC v) → (∀ H : Hp, Has H v d) → (∀ a, v ≠ .ref a) → PE X e (tLit d) := fun v d e hp hh hn => hp.wk fun σ H Q hq => hq v H (Same.refl H) (hh H) fun a z => absurd z (hn a)
   unfold litE at h
   split at h
   · cases h; exact scal _ _ _ qv (fun H => has_str _) (fun a z => by cases z)
   · cases h; exact scal _ _ _ qG (fun H => JD _) (fun a z => by cases z)
   · cases h; exact scal _ _ _ MB (fun H => by unfold Has; rfl) (fun a z => by cases z)
   · cases h; exact scal _ _ _ pe_non (fun H => by unfold Has; rfl) (fun a z => by cases z)
   · rename_i es _ _
     cases h1 : lits (litE n) es with
     | none => rw [h1] at h; cases h
     | some ds =>
       rw [h1] at h
       cases h
       obtain ⟨k1, k2⟩ := lits_ok (X := X) (fun e d he => pe_lit he) (fun e d he => lit_plain he) h1
       have k3 := lits_len h1
       refine (Zz k1).wk fun σ H Q hq => ?_
       exact fun vs H1 s1 hv => ⟨by rw [sizeLine_eq, hv.length]; omega, fun p hp => hq _ _ (s1.trans (Same.new hp)) (has_tup qQ (HasL.same (Same.new hp) hv)) fun a z => by cases z; exact s1.free hp⟩
   · rename_i es _
     cases h1 : lits (litE n) es with
     | none => rw [h1] at h; cases h
     | some ds =>
       rw [h1] at h
       cases h
       obtain ⟨k1, k2⟩ := lits_ok (X := X) (fun e d he => pe_lit he) (fun e d he => lit_plain he) h1
       have k3 := lits_len h1
       refine (vw k1).wk fun σ H Q hq => ?_
       exact fun vs H1 s1 hv => ⟨by rw [sizeLine_eq, hv.length]; omega, fun p hp => hq _ _ (s1.trans (Same.new hp)) (Yw qQ (HasL.same (Same.new hp) hv)) fun a z => by cases z; exact s1.free hp⟩
   · cases h
end
end L2
namespace L2
open PySem PySem.Spec PyProof.Rows PySem.W
section
variable (CF CT CR CH XR : Addr)
def yVJ : Sp := fun vs H Q E => ∃ a l g k all n, vs = [.ref (FA.p a), .str n] ∧ FAt CF CT CR CH H a l g k all ∧ ((n ∈ l ∧ Q .non H) ∨ (n ∉ l ∧ E (.ref XR) none H))
def yVZ : Sp := fun vs H Q E => ∃ a l g k all n, vs = [.ref (FA.p a), .str n] ∧ FAt CF CT CR CH H a l g k all ∧ ((n ∈ l ∧ Q (.ref (g n).p) H) ∨ (n ∉ l ∧ E (.ref XR) none H))
def UG : Sp := fun vs H Q E => ∃ a l g k all n, vs = [.ref (FA.p a), .str n] ∧ FAt CF CT CR CH H a l g k all ∧ ((n ∈ l ∧ Q (.ref (g n).B.p) H) ∨ (n ∉ l ∧ E (.ref XR) none H))
def qUJ : Sp := fun vs H Q E => ∃ a l g k all n, vs = [.ref (FA.p a), .str n] ∧ FAt CF CT CR CH H a l g k all ∧ ((n ∈ l ∧ ∀ q ys, H q = none → Ms (upd H q (.lst ys)) ys (g n).h.heard → Q (.ref q) (upd H q (.lst ys))) ∨ (n ∉ l ∧ E (.ref XR) none H))
def QQZ : Sp := fun vs H Q E => ∃ a l g k all n, vs = [.ref (FA.p a), .str n] ∧ FAt CF CT CR CH H a l g k all ∧ ((n ∈ l ∧ ∀ q, H q = none → Q (.ref q) (upd H q (.lst ((g n).h.lost.map V.int)))) ∨ (n ∉ l ∧ E (.ref XR) none H))
def yVY : Sp := fun vs H Q E => ∃ a l g k all n, vs = [.ref (FA.p a), .str n] ∧ FAt CF CT CR CH H a l g k all ∧ ((n ∈ l ∧ ∀ q ys, H q = none → Ms (upd H q (.lst ys)) ys (g n).s.rows → Q (.ref q) (upd H q (.lst ys))) ∨ (n ∉ l ∧ E (.ref XR) none H))
def QQJ : Sp := fun vs H Q E => ∃ a l g k all n, vs = [.ref (FA.p a), .str n] ∧ FAt CF CT CR CH H a l g k all ∧ ((n ∈ l ∧ Q (.int (lagF all (g n))) H) ∨ (n ∉ l ∧ E (.ref XR) none H))
def spFCarryX : Sp := fun vs H Q E => ∃ a l g k all n i, vs = [.ref (FA.p a), .str n, .int i] ∧ FAt CF CT CR CH H a l g k all ∧ ((n ∈ l ∧ 0 ≤ i ∧ Fits (g n).h ((g n).s.rows.take i.toNat) ∧ (∀ m ∈ (g n).s.rows, mOk m) ∧ Diff (g n).h.held ∧ (g n).h.heard.length + (g n).h.held.length + (g n).h.lost.length < 1000 ∧ (g n).s.rows.length < 1000 ∧
 ∀ e lh ys found H', FAt CF CT CR CH H' a l (updE g n e) k all → FE.sz e = (g n).sz → e.way = (g n).way → e.s = { (g n).s with rows := (g n).s.rows.drop i.toNat } → e.h = vV (g n).h ((g n).s.rows.take i.toNat) → (vV (g n).h ((g n).s.rows.take i.toNat)).heard = (g n).h.heard ++ found → Stp (a.fp l g) H (a.fp l (updE g n e)) H' → (lh ∈ a.fp l g ∨ H lh = none) → lh ∉ a.fp l (updE g n e) → H' lh = some (.lst ys) → Ms H' ys found → Q (.ref lh) H') ∨ (n ∉ l ∧ E (.ref XR) none H))
def vUY : Sp := fun vs H Q E => ∃ a l g k all n, vs = [.ref (FA.p a), .str n] ∧ FAt CF CT CR CH H a l g k all ∧ ((n ∈ l ∧ 0 ≤ k ∧ Rows all ∧ all.length < 60 ∧ (∀ m ∈ all, mOk m) ∧ Hw all (g n).h ∧ (g n).h.next ≤ (all.length : Int) + 1 ∧ (g n).h.heard.length + (g n).h.held.length ≤ 200 ∧
 ∀ e q lh ys found H', FAt CF CT CR CH H' a l (updE g n e) k all → FE.sz e = (g n).sz → e.way = (g n).way → e.s = { (g n).s with cut := false } → e.h = vG k all (g n).h → (vG k all (g n).h).heard = (g n).h.heard ++ found → Stp (a.fp l g) H (a.fp l (updE g n e)) H' → q ∉ a.fp l (updE g n e) → (lh ∈ a.fp l g ∨ H lh = none) → lh ∉ a.fp l (updE g n e) → H' q = some (.tup [.ref lh, .int (((vG k all (g n).h).lost.length : Int) - ((g n).h.lost.length : Int))]) → H' lh = some (.lst ys) → Ms H' ys found → Q (.ref q) H') ∨ (n ∉ l ∧ E (.ref XR) none H))
def spFCloseX : Sp := fun vs H Q E => ∃ a l g k all n, vs = [.ref (FA.p a), .str n] ∧ FAt CF CT CR CH H a l g k all ∧ ((n ∈ l ∧ ∀ H', FAt CF CT CR CH H' a (l.filter fun m => decide (m ≠ n)) g k all → Stp (a.fp l g) H (a.fp (l.filter fun m => decide (m ≠ n)) g) H' → Q .non H') ∨ (n ∉ l ∧ E (.ref XR) none H))
def spFLayX : Sp := fun vs H Q E => ∃ a l g k all n sz way, vs = [.ref (FA.p a), .str n, .int sz, .str way] ∧ FAt CF CT CR CH H a l g k all ∧ ((n ∉ l ∧ l.length < 100 ∧
 ∀ e H', FAt CF CT CR CH H' a (l ++ [n]) (updE g n e) k all → FE.sz e = sz → e.way = way → e.s = ⟨[], [], false⟩ → e.h = hs0 → Stp (a.fp l g) H (a.fp (l ++ [n]) (updE g n e)) H' → Q .non H') ∨ (n ∈ l ∧ E (.ref XR) none H))
end
end L2
namespace L2
open PySem PySem.Spec PyProof.Rows PySem.W
structure HV0 (s : HS) : Prop where
 dh : Diff s.held
 ge : ∀ m ∈ s.held, s.next ≤ m.n
 rise : Rise s.heard
 lt : ∀ m ∈ s.heard, m.n < s.next
 ok : ∀ m, m ∈ s.heard ∨ m ∈ s.held → mOk m ∧ m.n ≤ 12
 nx : s.next ≤ 13
structure HV (s : HS) : Prop extends HV0 s where
 gt : ∀ m ∈ s.held, s.next < m.n
theorem HV.start : HV hs0 where
 dh := List.nodup_nil
 ge := fun m h => absurd h List.not_mem_nil
 rise := .nil
 lt := fun m h => absurd h List.not_mem_nil
 ok := fun m h => by rcases h with h | h <;> exact absurd h List.not_mem_nil
 nx := by show (0 : Int) + 0 + 1 ≤ 13; decide
 gt := fun m h => absurd h List.not_mem_nil
theorem HV0.hear {s : HS} (h : HV0 s) : HV (yM s) := by
 have ⟨h1, e⟩ := UY (P := fun s => HV0 s) (fun t m h e => by
   obtain ⟨hm, hn⟩ := zU e
   have hx : HS.next ⟨t.heard ++ [m], YD t.held m.n, t.lost⟩ = t.next + 1 := vVQ
   refine ⟨Zv h.dh, fun x hx' => ?_, ?_, fun x hx' => ?_, fun x hx' => ?_, ?_⟩
   · obtain ⟨a, b⟩ := dropN_mem.mp hx'
     have := h.ge x a
     rw [hx]; omega
   · refine List.pairwise_append.mpr ⟨h.rise, List.pairwise_singleton _ _, fun x hx' y hy => ?_⟩
     rw [List.mem_singleton] at hy
     rw [hy]; have := h.lt x hx'; omega
   · rw [hx]
     rcases List.mem_append.mp hx' with y | y
     · have := h.lt x y; omega
     · rw [List.mem_singleton] at y; rw [y]; omega
   · rcases hx' with z | z
     · rcases List.mem_append.mp z with y | y
       · exact h.ok x (.inl y)
       · rw [List.mem_singleton] at y; rw [y]; exact h.ok m (.inr hm)
     · exact h.ok x (.inr (dropN_mem.mp z).1)
   · rw [hx]
     have := (h.ok m (.inr hm)).2
     omega) s h
 refine ⟨h1, fun m hm => ?_⟩
 have a := h1.ge m hm
 have b := findN_none.mp e m hm
 omega
theorem HV.lose {s : HS} (h : HV s) (hn : s.next < 13) : HV0 (lose s) := by
 have hx := ZB s
 refine ⟨h.dh, fun m hm => ?_, h.rise, fun m hm => ?_, h.ok, by rw [hx]; omega⟩
 · rw [hx]; have := h.gt m hm; omega
 · rw [hx]; have := h.lt m hm; omega
theorem HV0.add {s : HS} (h : HV0 s) {m : Msg} (hf : Fits s [m]) (hm : mOk m) (h9 : m.n ≤ 12) : HV0 (addS s m) := by
 unfold addS
 by_cases z : m.n ≥ s.next
 · rw [if_pos z]
   have hs : ∀ x ∈ s.held, x.n = m.n → x = m := fun x hx e => hf.1 m (by simp) x (.inr hx) e
   refine ⟨qYY hs h.dh, fun x hx => ?_, h.rise, h.lt, fun x hx => ?_, h.nx⟩
   · rcases (UV hs).mp hx with w | w
     · exact h.ge x w
     · rw [w]; exact z
   · rcases hx with y | y
     · exact h.ok x (.inl y)
     · rcases (UV hs).mp y with w | w
       · exact h.ok x (.inr w)
       · rw [w]; exact ⟨hm, h9⟩
 · rw [if_neg z]; exact h
theorem HV.take {s : HS} (h : HV s) {m : Msg} (hf : Fits s [m]) (hm : mOk m) (h9 : m.n ≤ 12) : HV (vV s [m]) := (h.toHV0.add hf hm h9).hear
theorem HV.give {s : HS} (h : HV s) {n : Int} (hn : n ≤ 13) : HV (vv n s) := JG (P := HV) (fun t ht hlt => (ht.lose (by omega)).hear) s h
theorem HV.quiet {s : HS} (h : HV s) : yM s = s := JB (findN_none.mpr fun m hm => by have := h.gt m hm; omega)
theorem HV0.apart {s : HS} (h : HV0 s) : ∀ x ∈ s.heard, ∀ y ∈ s.held, y.n ≠ x.n := fun x hx y hy e => by
 have := h.lt x hx
 have := h.ge y hy
 omega
theorem HV0.sizes {s : HS} (h : HV0 s) (hp : ∀ m ∈ s.held, 1 ≤ m.n) : s.heard.length + s.lost.length ≤ 12 ∧ s.held.length ≤ 12 := by
 have h1 : s.next = (s.heard.length : Int) + (s.lost.length : Int) + 1 := rfl
 have h2 := h.nx
 refine ⟨by omega, ?_⟩
 have h3 := List.Nodup.length_le_of_subset (l₁ := s.held.map fun m : Msg => m.n) (l₂ := rgs 1 12) h.dh (fun x hx => by
   obtain ⟨m, hm, rfl⟩ := List.mem_map.mp hx
   have := hp m hm
   have := (h.ok m (.inr hm)).2
   exact rgs_mem.mpr ⟨by omega, by omega⟩)
 rw [List.length_map] at h3
 have h4 : (rgs 1 12).length = 12 := by decide +kernel
 omega
theorem HV0.pos {s : HS} (h : HV0 s) : ∀ m ∈ s.held, 1 ≤ m.n := fun m hm => by
 have h1 : s.next = (s.heard.length : Int) + (s.lost.length : Int) + 1 := rfl
 have := h.ge m hm
 omega
def zVJ : Sp := fun vs H Q _ => ∃ a s c m, vs = [.ref (LA.m a), .ref c] ∧ LAt H a s ∧ HV s ∧ H c = some (mT m) ∧ mOk m ∧ m.n ≤ 12 ∧
 Fits s [m] ∧ ∀ l ys found H', LAt H' a (vV s [m]) → (vV s [m]).heard = s.heard ++ found → Stp a.fp H (l :: a.fp) H' → H l = none → l ∉ a.fp → H' l = some (.lst ys) → Ms H' ys found → Q (.ref l) H'
def spLGiveV : Sp := fun vs H Q _ => ∃ a s n, vs = [.ref (LA.m a), .int n] ∧ LAt H a s ∧ HV s ∧ n ≤ 13 ∧
 ∀ l ys found H', LAt H' a (vv n s) → (vv n s).heard = s.heard ++ found → Stp a.fp H (l :: a.fp) H' → H l = none → l ∉ a.fp → H' l = some (.lst ys) → Ms H' ys found → Q (.ref l) H'
theorem HV.of {all : List Msg} {s : HS} (hR : Rows all) (ok : ∀ m ∈ all, mOk m) (hl : all.length ≤ 12) (h : Hw all s) : HV s where
 dh := h.dh
 ge := h.ge
 rise := h.rise
 lt := h.lt
 ok := fun m hm => ⟨ok m (h.sub m hm), by obtain ⟨i, hi, _, en⟩ := hR.at (h.sub m hm); omega⟩
 nx := by have := h.toHw0.up hR; omega
 gt := h.gt
structure HE (u v : HS) : Prop where
 heard : u.heard = v.heard
 lost : u.lost = v.lost
 held : ∀ x, x ∈ u.held ↔ x ∈ v.held
theorem HE.refl (u : HS) : HE u u := ⟨rfl, rfl, fun _ => Iff.rfl⟩
theorem HE.next {u v : HS} (h : HE u v) : u.next = v.next := by
 show (u.heard.length : Int) + (u.lost.length : Int) + 1 = (v.heard.length : Int) + (v.lost.length : Int) + 1
 rw [h.heard, h.lost]
theorem next_le {all : List Msg} {u v : HS} (hu : Hw all u) (hv : Hw all v) (hl : u.lost = v.lost) (hm : ∀ x, (x ∈ v.heard ∨ x ∈ v.held) → (x ∈ u.heard ∨ x ∈ u.held)) : v.next ≤ u.next := by
 refine Int.not_lt.mp fun z => ?_
 rcases hv.cov u.next u.next_pos z with ⟨x, hx, e⟩ | y
 · rcases hm x (.inl hx) with w | w
   · have := hu.lt x w; omega
   · have := hu.gt x w; omega
 · rw [← hl] at y
   have := (hu.ll _ y).2.1
   omega
theorem HE.of {all : List Msg} {u v : HS} (hu : Hw all u) (hv : Hw all v) (hl : u.lost = v.lost) (hm : ∀ x, (x ∈ u.heard ∨ x ∈ u.held) ↔ (x ∈ v.heard ∨ x ∈ v.held)) : HE u v := by
 have e : u.next = v.next := Int.le_antisymm (next_le hv hu hl.symm fun x hx => (hm x).mp hx) (next_le hu hv hl fun x hx => (hm x).mpr hx)
 refine ⟨QYJ hu.rise hv.rise fun x => ⟨fun hx => ?_, fun hx => ?_⟩, hl, fun x => ⟨fun hx => ?_, fun hx => ?_⟩⟩
 · rcases (hm x).mp (.inl hx) with w | w
   · exact w
   · have := hu.lt x hx; have := hv.gt x w; omega
 · rcases (hm x).mpr (.inl hx) with w | w
   · exact w
   · have := hv.lt x hx; have := hu.gt x w; omega
 · rcases (hm x).mp (.inr hx) with w | w
   · have := hu.gt x hx; have := hv.lt x w; omega
   · exact w
 · rcases (hm x).mpr (.inr hx) with w | w
   · have := hv.gt x hx; have := hu.lt x w; omega
   · exact w
theorem HE.mem {u v : HS} (h : HE u v) (x : Msg) : (x ∈ u.heard ∨ x ∈ u.held) ↔ (x ∈ v.heard ∨ x ∈ v.held) := by rw [h.heard, h.held x]
theorem HE.ends {all : List Msg} {u v : HS} (hR : Rows all) (hu : Hw all u) (hv : Hw all v) (hl : u.lost = v.lost) (nu : u.next = (all.length : Int) + 1) (nv : v.next = (all.length : Int) + 1) : HE u v := by
 have key : ∀ {u : HS}, Hw all u → u.next = (all.length : Int) + 1 → ∀ x, (x ∈ u.heard ∨ x ∈ u.held) ↔ (x ∈ all ∧ x.n ∉ u.lost) := fun {u} hu nu x => by
   constructor
   · intro hx
     refine ⟨hu.sub x hx, fun z => ?_⟩
     rcases hx with y | y
     · exact (hu.ll _ z).2.2.2 x y rfl
     · have := hu.gt x y
       obtain ⟨i, hi, _, en⟩ := hR.at (hu.sub x (.inr y))
       omega
   · rintro ⟨h1, h2⟩
     obtain ⟨i, hi, _, en⟩ := hR.at h1
     rcases hu.cov x.n (by omega) (by omega) with ⟨y, hy, e⟩ | y
     · rw [← hR.uniq (hu.sub y (.inl hy)) h1 e]; exact .inl hy
     · exact absurd y h2
 exact HE.of hu hv hl fun x => by rw [key hu nu x, key hv nv x, hl]
theorem lost_le {all : List Msg} {s : HS} (h : Hw all s) : ∀ n ∈ s.lost, n < s.next := fun n hn => (h.ll n hn).2.1
theorem HE.take {all : List Msg} {u v : HS} (hR : Rows all) (hu : Hw all u) (hv : Hw all v) (h : HE u v) {ms : List Msg} {m : Msg} (hms : ∀ x ∈ ms, x ∈ all) (hm : m ∈ all) : HE (vV u (ms ++ [m])) (vV (vV v ms) [m]) := by
 have h2 : ∀ x ∈ ms ++ [m], x ∈ all := fun x hx => by
   rcases List.mem_append.mp hx with z | z
   · exact hms x z
   · rw [List.mem_singleton] at z; rw [z]; exact hm
 have hv1 := hv.take hR hms
 have hm1 : ∀ x ∈ [m], x ∈ all := fun x hx => by rw [List.mem_singleton] at hx; rw [hx]; exact hm
 refine HE.of (hu.take hR h2) (hv1.take hR hm1) (by rw [ZQ, ZQ, ZQ, h.lost]) fun x => ?_
 rw [hu.take_mem hR h2, hv1.take_mem hR hm1, ← or_assoc (b := x ∈ (vV v ms).held), hv.take_mem hR hms, ← or_assoc, h.mem x, h.next]
 have hn := (hv1)
 constructor
 · rintro (z | ⟨z, y⟩)
   · rcases z with z | z
     · exact .inl (.inl z)
     · exact .inl (.inr (.inl z))
   · rcases List.mem_append.mp z with w | w
     · exact .inl (.inr (.inr ⟨w, y⟩))
     · rw [List.mem_singleton] at w
       subst w
       by_cases q : (vV v ms).next ≤ x.n
       · exact .inr ⟨List.mem_singleton.mpr rfl, q⟩
       · have hp : 1 ≤ x.n := by have := v.next_pos; omega
         rcases hv1.cov x.n hp (by omega) with ⟨t, ht, e⟩ | t
         · have : t = x := hR.uniq (hv1.sub t (.inl ht)) hm e
           rw [this] at ht
           exact .inl ((hv.take_mem hR hms x).mp (.inl ht))
         · rw [ZQ] at t
           have := lost_le hv x.n t
           omega
 · rintro ((z | z | ⟨z, y⟩) | ⟨z, y⟩)
   · exact .inl (.inl z)
   · exact .inl (.inr z)
   · exact .inr ⟨List.mem_append_left _ z, y⟩
   · have hle : v.next ≤ (vV v ms).next := by
       refine Int.not_lt.mp fun q => ?_
       rcases hv.cov (vV v ms).next (vV v ms).next_pos q with ⟨t, ht, e⟩ | t
       · rcases (hv.take_mem hR hms t).mpr (.inl ht) with w | w
         · have := hv1.lt t w; omega
         · have := hv1.gt t w; omega
       · have h1 : (vV v ms).next ∈ (vV v ms).lost := by rw [ZQ]; exact t
         have := lost_le hv1 _ h1
         omega
     exact .inr ⟨List.mem_append_right _ z, by omega⟩
theorem HE.take0 {u v : HS} (h : HE u v) {all : List Msg} (hR : Rows all) (hu : Hw all u) (hv : Hw all v) : HE (vV u []) v := by
 have e : vV u [] = u := by
   show yM u = u
   exact JB (findN_none.mpr fun m hm => by have := hu.gt m hm; omega)
 rw [e]; exact h
theorem HE.give {all : List Msg} {u v : HS} (hu : Hw all u) (hv : Hw all v) (h : HE u v) {n : Int} (hn : n ≤ (all.length : Int) + 1) : HE (vv n u) (vv n v) := by
 have hu' := hu.give hn
 have hv' := hv.give hn
 refine HE.of hu' hv' (rise_eq hu'.lr hv'.lr fun x => ?_) fun x => ?_
 · rw [hu.give_lost hn, hv.give_lost hn, h.lost, h.next]
   refine or_congr_right (and_congr_right fun _ => and_congr_right fun _ => ⟨fun q m hm => q m ((h.held m).mpr hm), fun q m hm => q m ((h.held m).mp hm)⟩)
 · rw [(vZY (n := n) hu.dh).2.1 x, (vZY (n := n) hv.dh).2.1 x, h.mem x]
end L2
namespace L2
open PySem PySem.Spec PyProof.Rows PySem.W
structure OA where
 m : Addr
 q : Addr
 E : LA
structure OS where
 sz : Int
 way : Str
 rows : List Msg
 cut : Bool
 h : HS
def OA.fp (a : OA) : List Addr := [a.m, a.q] ++ a.E.fp
def oK (a : OA) (s : OS) : List (Key × V) := [(Sum.inr "size", .int s.sz), (Sum.inr "way", .str s.way), (Sum.inr "rows", .ref a.q), (Sum.inr "cut", .bl s.cut), (Sum.inr "ear", .ref a.E.m)]
theorem oK_size (a : OA) (s : OS) : valV (oK a s) (Sum.inr "size") = some (.int s.sz) := rfl
theorem oK_way (a : OA) (s : OS) : valV (oK a s) (Sum.inr "way") = some (.str s.way) := rfl
theorem oK_rows (a : OA) (s : OS) : valV (oK a s) (Sum.inr "rows") = some (.ref a.q) := rfl
theorem oK_cut (a : OA) (s : OS) : valV (oK a s) (Sum.inr "cut") = some (.bl s.cut) := rfl
theorem oK_ear (a : OA) (s : OS) : valV (oK a s) (Sum.inr "ear") = some (.ref a.E.m) := rfl
theorem oK_putR (a : OA) (s : OS) (q' : Addr) : putK (oK a s) (Sum.inr "rows") (.ref q') = oK ⟨a.m, q', a.E⟩ s := rfl
theorem oK_putC (a : OA) (s : OS) (b : Bool) : putK (oK a s) (Sum.inr "cut") (.bl b) = oK a { s with cut := b } := rfl
structure OAt (H : Hp) (a : OA) (s : OS) : Prop where
 ob : H a.m = some (.dK (oK a s))
 ro : ∃ ys, H a.q = some (.lst ys) ∧ Ms H ys s.rows
 ea : LAt H a.E s.h
 ne : ∀ c ∈ [a.m, a.q], c ∉ a.E.fp
section
variable {H H' : Hp} {a : OA} {s : OS}
theorem OAt.live (h : OAt H a s) : ∀ c ∈ a.fp, ∃ o, H c = some o := fun c hc => by
 rcases List.mem_append.mp hc with z | z
 · obtain ⟨ys, h2, _⟩ := h.ro
   simp only [List.mem_cons, List.not_mem_nil, or_false] at z
   rcases z with rfl | rfl
   · exact ⟨_, h.ob⟩
   · exact ⟨_, h2⟩
 · exact h.ea.live c z
theorem OAt.step {ps ps' : List Addr} (h : OAt H a s) (st : Stp ps H ps' H') (hd : ∀ c ∈ a.fp, c ∉ ps) : OAt H' a s := by
 obtain ⟨ys, h2, m2⟩ := h.ro
 exact ⟨st.keep h.ob (hd _ (by simp [OA.fp])), ⟨ys, st.keep h2 (hd _ (by simp [OA.fp])), m2.step st⟩, h.ea.step st fun c hc => hd c (List.mem_append_right _ hc), h.ne⟩
theorem OAt.same (h : OAt H a s) (e : Same H H') : OAt H' a s := h.step (e.step []) fun _ _ => List.not_mem_nil
theorem OAt.free (h : OAt H a s) {c : Addr} (hc : H c = none) : c ∉ a.fp := fun z => by
 obtain ⟨o, ho⟩ := h.live c z
 rw [ho] at hc; cases hc
theorem OAt.out {ps ps' : List Addr} (h : OAt H a s) (st : Stp ps H ps' H') (hd : ∀ c ∈ a.fp, c ∉ ps) : ∀ c ∈ a.fp, c ∉ ps' := fun c hc => by
 obtain ⟨o, ho⟩ := h.live c hc
 exact st.out ho (hd c hc)
theorem OAt.mq (h : OAt H a s) : a.m ≠ a.q := by
 obtain ⟨ys, h2, _⟩ := h.ro
 exact zJ h.ob h2 (by intro z; cases z)
theorem OAt.ear (h : OAt H a s) {t : HS} (st : Stp a.E.fp H a.E.fp H') (L : LAt H' a.E t) : OAt H' a { s with h := t } ∧ Stp a.fp H a.fp H' := by
 obtain ⟨ys, h2, m2⟩ := h.ro
 exact ⟨⟨st.keep h.ob (h.ne _ (by simp)), ⟨ys, st.keep h2 (h.ne _ (by simp)), m2.step st⟩, L, h.ne⟩, st.up fun c hc => List.mem_append_right _ hc⟩
theorem OAt.rows (h : OAt H a s) {q' : Addr} {ys : List V} {r : List Msg} (hq : H q' = some (.lst ys)) (hm : Ms H ys r) (hn : q' ∉ a.E.fp) : OAt (upd H a.m (.dK (oK ⟨a.m, q', a.E⟩ s))) ⟨a.m, q', a.E⟩ { s with rows := r } ∧ Stp (q' :: a.fp) H (OA.fp ⟨a.m, q', a.E⟩) (upd H a.m (.dK (oK ⟨a.m, q', a.E⟩ s))) := by
 have st := Stp.put (ps := [a.m]) (o := .dK (oK ⟨a.m, q', a.E⟩ s)) h.ob (fun _ z => by cases z) (by simp)
 have nq : q' ≠ a.m := fun z => by rw [z, h.ob] at hq; cases hq
 refine ⟨⟨qQ, ⟨ys, st.keep hq (by simp [nq]), hm.step st⟩, h.ea.step st fun c hc z => h.ne a.m (by simp) (by rw [List.mem_singleton] at z; rw [← z]; exact hc), fun c hc => ?_⟩, st.weak (fun c hc => by rw [List.mem_singleton] at hc; rw [hc]; simp [OA.fp]) fun c hc => ?_⟩
 · simp only [List.mem_cons, List.not_mem_nil, or_false] at hc
   rcases hc with rfl | rfl
   · exact h.ne _ (by simp)
   · exact hn
 · rcases List.mem_append.mp hc with z | z
   · simp only [List.mem_cons, List.not_mem_nil, or_false] at z
     rcases z with rfl | rfl
     · exact .inl (by simp)
     · exact .inr (by simp)
   · exact .inr (List.mem_cons_of_mem _ (List.mem_append_right _ z))
theorem OAt.cut (h : OAt H a s) (b : Bool) : OAt (upd H a.m (.dK (oK a { s with cut := b }))) a { s with cut := b } ∧ Stp a.fp H a.fp (upd H a.m (.dK (oK a { s with cut := b }))) := by
 have st := Stp.put (ps := [a.m]) (o := .dK (oK a { s with cut := b })) h.ob (fun _ z => by cases z) (by simp)
 obtain ⟨ys, h2, m2⟩ := h.ro
 exact ⟨⟨qQ, ⟨ys, st.keep h2 (by simp [h.mq.symm]), m2.step st⟩, h.ea.step st fun c hc z => h.ne a.m (by simp) (by rw [List.mem_singleton] at z; rw [← z]; exact hc), h.ne⟩, st.up fun c hc => by rw [List.mem_singleton] at hc; rw [hc]; simp [OA.fp]⟩
end
def oput (s : OS) (m : Msg) : OS :=
 if s.cut = false ∧ (s.rows.length : Int) < s.sz then { s with rows := s.rows ++ [m] }
 else if s.cut = false ∧ s.way = "old" then { s with rows := s.rows.drop 1 ++ [m] }
 else if s.way = "cut" then { s with rows := [], cut := true } else s
def spOPut : Sp := fun vs H Q _ => ∃ a s c m, vs = [.ref (OA.m a), .ref c] ∧ OAt H a s ∧ H c = some (mT m) ∧ s.rows.length < 100 ∧ c ∉ a.fp ∧
 ∀ a' H', OAt H' a' (oput s m) → a'.m = a.m → Stp a.fp H a'.fp H' → Q .non H'
def spOCatch : Sp := fun vs H Q _ => ∃ E t lt yt all k, vs = [.ref (LA.m E), .ref lt, .int k] ∧ LAt H E t ∧ H lt = some (.lst yt) ∧ Ms H yt all ∧ lt ∉ E.fp ∧ Rows all ∧ (∀ m ∈ all, mOk m) ∧ all.length ≤ 12 ∧ 0 ≤ k ∧ Hw all t ∧
 ∀ q l ys found t' H', LAt H' E t' → Hw all t' → HE (vG k all t) t' → t'.heard = t.heard ++ found → Stp E.fp H E.fp H' → H l = none → l ∉ E.fp → H' q = some (.tup [.ref l, .int ((t'.lost.length : Int) - (t.lost.length : Int))]) → H' l = some (.lst ys) → Ms H' ys found → Q (.ref q) H'
def spODoes : Sp := fun vs H Q _ => ∃ a s lt yt all k way many, vs = [.ref (OA.m a), .int way, .int many, .ref lt, .int k] ∧ OAt H a s ∧ H lt = some (.lst yt) ∧ Ms H yt all ∧ lt ∉ a.fp ∧ Rows all ∧ (∀ m ∈ all, mOk m) ∧ all.length ≤ 12 ∧ 0 ≤ k ∧ Hw all s.h ∧ (∀ m ∈ s.rows, m ∈ all) ∧ s.rows.length ≤ 12 ∧ 0 ≤ many ∧
 ((way = 3 ∧ ∀ l ys found t' a' H', OAt H' a' { s with rows := s.rows.drop many.toNat, h := t' } → a'.m = a.m → Hw all t' → HE (vV s.h (s.rows.take many.toNat)) t' → t'.heard = s.h.heard ++ found → Stp a.fp H a'.fp H' → H l = none → l ∉ a'.fp → H' l = some (.lst ys) → Ms H' ys found → Q (.ref l) H') ∨
  (way = 4 ∧ ∀ q l ys found t' H', OAt H' a { s with cut := false, h := t' } → Hw all t' → HE (vG k all s.h) t' → t'.heard = s.h.heard ++ found → Stp a.fp H a.fp H' → H l = none → l ∉ a.fp → H' q = some (.tup [.ref l, .int ((t'.lost.length : Int) - (s.h.lost.length : Int))]) → H' l = some (.lst ys) → Ms H' ys found → Q (.ref q) H') ∨
  (way = 5 ∧ Q (.int ((all.length : Int) + 1 - s.h.next)) H))
end L2
namespace L2
open PySem PySem.Spec PyProof.Rows PySem.W
section
variable {X : Cx}
def rMaxV : List V → Hp → VK → Prop := fun us H Q => ∃ p d kvs, ∃ ns : List Int, us = [.ref p] ∧ H p = some (qZZ p d) ∧ H d = some (.dK kvs) ∧ kvs.map (·.2) = ns.map V.int ∧ ns ≠ [] ∧ ∀ M ∈ ns, (∀ a ∈ ns, a ≤ M) → Q (.int M) H
theorem call_maxV (hc : X.calm = true) : Jv X (.builtin "max") rMaxV := by
 intro pins s σ H us ws Q I r h
 obtain ⟨p, d, kvs, ns, rfl, hp, hd, hns, hne, q⟩ := h
 obtain ⟨u, rfl, ru⟩ := vals1 r
 cases ru
 obtain ⟨hv, _, _⟩ := (show ObjOk X.prog X.w H s.heap p (qZZ p d) from I.hok p _ hp)
 obtain ⟨_, _, vs, rel, hD⟩ := dk_of I.hok hd
 obtain ⟨o, es, ep, ho, hx1, hx2, hx3, hx4, hx5⟩ := hD
 have hat : s.heap.DictAt (vB X.prog X.w) d vs ep := ⟨o, es, ho, hx1, hx2, hx3, hx4, hx5⟩
 have hl : kvs.length = vs.length := Paired.length rel
 have hnl : ns.length = kvs.length := by have := congrArg List.length hns; rw [List.length_map, List.length_map] at this; exact this.symm
 have h0 : 0 < vs.length := by have := List.length_pos_iff.mpr hne; omega
 have hval : ∀ (i : Nat) (v : Value), (∃ k, vs[i]? = some (k, v)) → ∃ t, v = Value.int (ns.getD i 0) t := by
   rintro i v ⟨k, hk⟩
   have hi : i < kvs.length := by have := (List.getElem?_eq_some_iff.mp hk).1; omega
   obtain ⟨u, hu, ru⟩ := kv_at rel (List.getElem?_eq_getElem hi)
   rw [hk] at hu
   have e := Option.some.inj hu
   injection e with e1 e2
   subst e2
   have e3 : kvs[i].2 = V.int (ns.getD i 0) := by
     have : (kvs.map (·.2))[i]? = some kvs[i].2 := by rw [List.getElem?_map, List.getElem?_eq_getElem hi]; rfl
     rw [hns, List.getElem?_map] at this
     have hni : i < ns.length := by omega
     rw [List.getElem?_eq_getElem hni] at this
     rw [List.getD_eq_getElem?_getD, List.getElem?_eq_getElem hni]
     exact (Option.some.inj this).symm
   rw [e3] at ru
   exact ru
 have ltd : d < s.heap.objs.size := Heap.lt_size ho
 refine call_max_walk (wpAny_pyIter_values hv hat ?_)
 refine ⟨s.heap.objs.size, [s.heap.objs.size, d], [s.heap.objs.size], vs.length, _, _, fun i j => decide (ns.getD i 0 > ns.getD j 0), rfl, Walks.dictValues (knd := vB X.prog X.w) (A := X.A.in1) (I.ok.hd hc) s.heap.objs.size d (Nat.ne_of_lt ltd) vs ep, ⟨⟨_, Heap.get?_push_size _ rfl, rfl, rfl⟩, hat.at' fun o e => Heap.get?_push_of_some _ e⟩, fun b hb => ?_, h0, CmpOf.ints_gt (fun i => ns.getD i 0) hval, fun v h' tk hP hk => ?_⟩
 · show b < (s.heap.push _).objs.size
   rw [Heap.size_push]
   simp only [List.mem_cons, List.not_mem_nil, or_false] at hb
   rcases hb with rfl | rfl
   · exact Nat.lt_succ_self _
   · exact Nat.lt_succ_of_lt ltd
 · obtain ⟨t, rfl⟩ := hval _ v hP
   obtain ⟨h1, h2⟩ := argBest_gt (fun i => ns.getD i 0) (vs.length - 1)
   have kp : ∀ b o, s.heap.get? b = some o → h'.get? b = some o := fun b o e => hk b o (fun hm => by
     rw [List.mem_singleton] at hm
     exact absurd (hm ▸ Heap.lt_size e) (Nat.lt_irrefl _)) (Heap.get?_push_of_some _ e)
   refine ⟨.int _, _, I.kept kp, ⟨t, rfl⟩, q _ (getD_mem (by omega)) fun a ha => ?_⟩
   obtain ⟨j, hj, rfl⟩ := mem_getD ha
   exact h2 j (by omega)
theorem k_maxV (hc : X.calm = true := by rfl) : Jv X (.builtin "max") rMaxV := call_maxV hc
end
end L2
namespace K40
open PySem L2
def top (i : Nat) : Stmt := PySem.Challenge.pw_tellroads_k40_fans.main.body.getD i (.Pass ⟨0, 0, 0, 0⟩)
structure Txt (mg : Str → Option Value) : Prop where
 b_len : mg "len" = none
 b_range : mg "range" = none
 b_list : mg "list" = none
 b_max : mg "max" = none
 b_sorted : mg "sorted" = none
 b_min : mg "min" = none
 b_dict : mg "dict" = none
 b_isinstance : mg "isinstance" = none
 b_ValueError : mg "ValueError" = none
structure TxtC (K : W.Frag) (mg : Str → Option Value) (C CH : Addr) : Prop where
 R_Teller : TellerC K mg C
 R_Hearer : HearK K mg CH
structure TxtF (K : W.Frag) (mg : Str → Option Value) (CF C CR CH : Addr) : Prop where
 R_Fan : FanC K mg CF
 R_Teller : TellerC K mg C
 R_Road : RoadC K mg CR
 R_Hearer : HearK K mg CH
section
variable {K : W.Frag} {mg : Str → Option Value} {C CH : Addr} (h : TxtC K mg C CH)
include h
theorem TxtC.cl_Teller : Cls K C := h.R_Teller.cl_Teller
theorem TxtC.mg_Teller : mg "Teller" = some (.ref C) := h.R_Teller.mg_Teller
theorem TxtC.cl_Hearer : Cls K CH := h.R_Hearer.cl_Hearer
theorem TxtC.mg_Hearer : mg "Hearer" = some (.ref CH) := h.R_Hearer.mg_Hearer
end
section
variable {K : W.Frag} {mg : Str → Option Value} {CF C CR CH : Addr} (h : TxtF K mg CF C CR CH)
include h
theorem TxtF.cl_Fan : Cls K CF := h.R_Fan.cl_Fan
theorem TxtF.mg_Fan : mg "Fan" = some (.ref CF) := h.R_Fan.mg_Fan
theorem TxtF.cl_Teller : Cls K C := h.R_Teller.cl_Teller
theorem TxtF.mg_Teller : mg "Teller" = some (.ref C) := h.R_Teller.mg_Teller
theorem TxtF.cl_Road : Cls K CR := h.R_Road.cl_Road
theorem TxtF.mg_Road : mg "Road" = some (.ref CR) := h.R_Road.mg_Road
theorem TxtF.cl_Hearer : Cls K CH := h.R_Hearer.cl_Hearer
theorem TxtF.mg_Hearer : mg "Hearer" = some (.ref CH) := h.R_Hearer.mg_Hearer
end
def cellF (ns : List Int) (k : Int) : Int := if ns = [] then 7 * k else ns.getD (k % (ns.length : Int)).toNat 0 + 6553 * (k / (ns.length : Int))
def draw1 (c k : Int) : Int := (c % 2147483563 * 69069 + 104723 * (k + 1)) % 2147483563
def draw2 (h : Int) : Int := (h * h + h / 3) % 2147483399
def draw3 (h m : Int) : Int := (h * h + h / 7) % 2147483647 / 11 % m
def drawnF (ns : List Int) (k m : Int) : Int := draw3 (draw2 (draw1 (cellF ns k) k)) m
theorem vJQ (ns : List Int) (k : Int) {m : Int} (h : 0 < m) : 0 ≤ drawnF ns k m := Int.emod_nonneg _ (by omega)
theorem drawn_lt (ns : List Int) (k : Int) {m : Int} (h : 0 < m) : drawnF ns k m < m := Int.emod_lt_of_pos _ h
def spCell (K : W.Frag) : Sp := fun vs H Q _ => ∃ (a : Addr) (ns : List Int) (k : Int), vs = [.ref a, .int k] ∧ SqL K H a (ns.map V.int) ∧ ns.length ≤ 63 ∧ 0 ≤ k ∧ ∀ H', Same H H' → Q (.int (cellF ns k)) H'
def spDrawn (K : W.Frag) : Sp := fun vs H Q _ => ∃ (a : Addr) (ns : List Int) (k m : Int), vs = [.ref a, .int k, .int m] ∧ SqL K H a (ns.map V.int) ∧ ns.length ≤ 63 ∧ 0 ≤ k ∧ 0 < m ∧ ∀ H', Same H H' → Q (.int (drawnF ns k m)) H'
section
variable {P : Program} {w : World} {K : W.Frag} {mg : Str → Option Value} {base : Heap}
abbrev yQY : Stmt := top 23
abbrev N_l_cell : List Str := ["_law_script", "_law_k"]
theorem sc_l_cell : FnScope N_l_cell ["_law_script", "_law_k"] (qZ yQY) := ⟨rfl, rfl, rfl, by decide +kernel, rfl, by decide +kernel, by decide +kernel⟩
theorem ok_l_cell {f : Addr} {fd : FuncData} (F : Fun K "_law_cell" "_law_cell" yQY f fd) (T : Txt mg) : FnOk P w K mg base CX0 1 f fd ["_law_script", "_law_k"] (spCell K) := by
 refine F.ok sc_l_cell (fun vs H Q E h => ?_) (fun cdv A outer s H vs Q E hr h => ?_)
 · obtain ⟨a, ns, k, rfl, _⟩ := h; rfl
 · obtain ⟨a, ns, k, rfl, hS, hlen, hk, q⟩ := h
   refine ⟨_, (qJ (zY (qw (k_eq0 K hr.units0) (pv 0) (vw as_nil) (yU _)) (qV (qz (yz zJQ qG (pv 1)))) yv)
     (qV (qz (yz QB (qZQ (vVZ K) (pv 0) (yz op_mod (pv 1) (yJ (vU K) (by rfl) T.b_len PySem.boot_len (qU (pv 0) as_nil))) (fun _ _ => rfl)) (yz zJQ qG (yz op_fdiv (pv 1) (yJ (vU K) (by rfl) T.b_len PySem.boot_len (qU (pv 0) as_nil)))))))), ?_⟩
   refine ⟨_, rfl, by decide, fun p hp => ?_⟩
   have s1 : Same H (upd H p (.lst [])) := Same.new hp
   refine ⟨a, p, _, rfl, rfl, s1.seq hS, SqL.ofL qQ, _, rfl, ?_⟩
   refine ite2 (fun he => ?_) (fun he => ?_)
   · have e : ns = [] := by simpa using he
     refine ⟨_, rfl, _, _, rfl, rfl, .inl ⟨by decide, by decide⟩, ?_⟩
     have z := q _ s1
     unfold cellF at z
     rw [if_pos e] at z
     exact z
   · have e : ns ≠ [] := by simpa using he
     have hl : 0 < ns.length := List.length_pos_iff.mpr e
     refine ⟨_, rfl, _, rfl, _, rfl, a, _, rfl, .inl (s1.seq hS), _, _, rfl, rfl, ?_, ?_⟩
     · show (0 : Int) < ((ns.map V.int).length : Int)
       rw [List.length_map]; omega
     · have hlt : (k % (ns.length : Int)).toNat < ns.length := by
         have h1 := Int.emod_nonneg k (b := (ns.length : Int)) (by omega)
         have h2 := Int.emod_lt_of_pos k (b := (ns.length : Int)) (by omega)
         omega
       have hi : atI (ns.map V.int) (k % ((ns.map V.int).length : Int)) = some (V.int (ns.getD (k % (ns.length : Int)).toNat 0)) := by
         rw [List.length_map]
         have h1 := Int.emod_nonneg k (b := (ns.length : Int)) (by omega)
         have e2 : k % (ns.length : Int) = ((k % (ns.length : Int)).toNat : Int) := by omega
         rw [e2]
         refine atI_nat ?_
         rw [Int.toNat_natCast, List.getElem?_map, List.getElem?_eq_getElem hlt]
         simp [List.getD, List.getElem?_eq_getElem hlt]
       refine ⟨a, _, _, _, rfl, rfl, s1.seq hS, hi, _, rfl, _, rfl, a, _, rfl, .inl (s1.seq hS), _, _, rfl, rfl, ?_, _, _, rfl, rfl, .inl ⟨by decide, by decide⟩, _, _, rfl, rfl, ?_⟩
       · show (0 : Int) < ((ns.map V.int).length : Int) ∧ ((ns.map V.int).length : Int) < 1073741824
         rw [List.length_map]; omega
       · have z := q _ s1
         unfold cellF at z
         rw [if_neg e] at z
         show Q (.int (ns.getD (k % (ns.length : Int)).toNat 0 + 6553 * (k / ((ns.map V.int).length : Int)))) _
         rw [List.length_map]
         exact z
abbrev qQZ : Stmt := top 24
abbrev N_l_drawn : List Str := ["_law_script", "_law_k", "_law_many", "_law_cell_here"]
theorem sc_l_drawn : FnScope N_l_drawn ["_law_script", "_law_k", "_law_many"] (qZ qQZ) := ⟨rfl, rfl, rfl, by decide +kernel, rfl, by decide +kernel, by decide +kernel⟩
theorem ok_l_drawn {f : Addr} {fd : FuncData} (F : Fun K "_law_drawn" "_law_drawn" qQZ f fd) (T : Txt mg) (c_l_cell : Callee P w K mg base 1 "_law_cell" ["_law_script", "_law_k"] (spCell K)) :
   FnOk P w K mg base CX0 2 f fd ["_law_script", "_law_k", "_law_many"] (spDrawn K) := by
 refine F.ok sc_l_drawn (fun vs H Q E h => ?_) (fun cdv A outer s H vs Q E hr h => ?_)
 · obtain ⟨a, ns, k, m, rfl, _⟩ := h; rfl
 · obtain ⟨a, ns, k, m, rfl, hS, hlen, hk, hm, q⟩ := h
   refine ⟨_, (qJ (yB (i := 3) sc_l_drawn.nd rfl (Or.inl rfl) (yz op_mod (yz QB (yz zJQ (yz op_mod (zB c_l_cell (hr.mono (by decide)) (qU (pv 0) (qM (pv 1) as_nil))) qG) qG) (yz zJQ qG (yz QB (pv 1) qG))) qG))
     (qJ (yB (i := 3) sc_l_drawn.nd rfl (Or.inl rfl) (yz op_mod (yz QB (yz zJQ (pv 3) (pv 3)) (yz op_fdiv (pv 3) qG)) qG))
     (qV (qz (yz op_mod (yz op_fdiv (yz op_mod (yz QB (yz zJQ (pv 3) (pv 3)) (yz op_fdiv (pv 3) qG)) qG) qG) (pv 2)))))), ?_⟩
   refine ⟨_, rfl, _, rfl, a, ns, k, rfl, hS, hlen, hk, fun H1 s1 => ?_⟩
   have b1 : ∀ x : Int, 0 ≤ x % 2147483563 ∧ x % 2147483563 < 2147483563 := fun x => ⟨Int.emod_nonneg _ (by decide), Int.emod_lt_of_pos _ (by decide)⟩
   have b2 : ∀ x : Int, 0 ≤ x % 2147483399 ∧ x % 2147483399 < 2147483399 := fun x => ⟨Int.emod_nonneg _ (by decide), Int.emod_lt_of_pos _ (by decide)⟩
   refine ⟨_, _, rfl, rfl, (by decide : (0 : Int) < 2147483563), _, _, rfl, rfl, .inr ⟨by decide, by decide⟩, _, rfl, _, _, rfl, rfl, _, _, rfl, rfl, .inl ⟨by decide, by decide⟩, _, _, rfl, rfl, _, _, rfl, rfl, (by decide : (0 : Int) < 2147483563), ?_⟩
   have c1 := b1 (cellF ns k % 2147483563 * 69069 + 104723 * (k + 1))
   refine ⟨_, rfl, _, rfl, _, _, rfl, rfl, .inl ⟨?_, ?_⟩, _, rfl, _, _, rfl, rfl, ⟨by decide, by decide⟩, _, _, rfl, rfl, _, _, rfl, rfl, (by decide : (0 : Int) < 2147483399), ?_⟩
   · exact Int.lt_of_lt_of_le (by decide) c1.1
   · exact Int.lt_trans c1.2 (by decide)
   have c2 := b2 (draw1 (cellF ns k) k * draw1 (cellF ns k) k + draw1 (cellF ns k) k / 3)
   refine ⟨_, rfl, _, rfl, _, _, rfl, rfl, .inl ⟨?_, ?_⟩, _, rfl, _, _, rfl, rfl, ⟨by decide, by decide⟩, _, _, rfl, rfl, _, _, rfl, rfl, (by decide : (0 : Int) < 2147483647), _, _, rfl, rfl, ⟨by decide, by decide⟩, _, rfl, _, _, rfl, rfl, hm, ?_⟩
   · exact Int.lt_of_lt_of_le (by decide) c2.1
   · exact Int.lt_trans c2.2 (by decide)
   exact q H1 s1
end
section
variable {P : Program} {w : World} {K : W.Frag} {mg : Str → Option Value} {base : Heap}
abbrev Uq : Stmt := top 8
abbrev N_number_of : List Str := ["message"]
theorem sc_number_of : FnScope N_number_of ["message"] (qZ Uq) := ⟨rfl, rfl, rfl, by decide +kernel, rfl, by decide +kernel, by decide +kernel⟩
theorem ok_number_of {f : Addr} {fd : FuncData} (F : Fun K "number_of" "number_of" Uq f fd) : FnOk P w K mg base CX0 1 f fd ["message"] (yJQ 0) := by
 refine F.ok sc_number_of (fun vs H Q E h => ?_) (fun cdv A outer s H vs Q E hr h => ?_)
 · obtain ⟨a, x, y, z, rfl, _⟩ := h; rfl
 · obtain ⟨a, x, y, z, rfl, h1, q⟩ := h
   refine ⟨_, (qV (qz (qZQ (UM K) (pv 0) qG (fun _ _ => rfl)))), ?_⟩
   exact ⟨_, rfl, a, _, 0, x, rfl, rfl, SqT.ofT h1, rfl, q⟩
abbrev JY : Stmt := top 9
abbrev N_topic_of : List Str := ["message"]
theorem sc_topic_of : FnScope N_topic_of ["message"] (qZ JY) := ⟨rfl, rfl, rfl, by decide +kernel, rfl, by decide +kernel, by decide +kernel⟩
theorem ok_topic_of {f : Addr} {fd : FuncData} (F : Fun K "topic_of" "topic_of" JY f fd) : FnOk P w K mg base CX0 1 f fd ["message"] (yJQ 1) := by
 refine F.ok sc_topic_of (fun vs H Q E h => ?_) (fun cdv A outer s H vs Q E hr h => ?_)
 · obtain ⟨a, x, y, z, rfl, _⟩ := h; rfl
 · obtain ⟨a, x, y, z, rfl, h1, q⟩ := h
   refine ⟨_, (qV (qz (qZQ (UM K) (pv 0) qG (fun _ _ => rfl)))), ?_⟩
   exact ⟨_, rfl, a, _, 1, y, rfl, rfl, SqT.ofT h1, rfl, q⟩
abbrev ZG : Stmt := top 10
abbrev N_of_topics : List Str := ["messages", "topics"]
theorem sc_of_topics : FnScope N_of_topics ["messages", "topics"] (qZ ZG) := ⟨rfl, rfl, rfl, by decide +kernel, rfl, by decide +kernel, by decide +kernel⟩
theorem ok_of_topics {f : Addr} {fd : FuncData} (F : Fun K "of_topics" "of_topics" ZG f fd) (T : Txt mg) (c_topic_of : Callee P w K mg base 1 "topic_of" ["message"] (yJQ 1)) :
   FnOk P w K mg base CX0 2 f fd ["messages", "topics"] (spOfT K) := by
 refine F.ok sc_of_topics (fun vs H Q E h => ?_) (fun cdv A outer s H vs Q E hr h => ?_)
 · obtain ⟨a, xs, ms, tv, ts, rfl, _⟩ := h; rfl
 · obtain ⟨a, xs, ms, tv, ts, rfl, ha, hm, hlen, ht, q⟩ := h
   refine ⟨_, (qJ (zY (qw op_isN (pv 1) pe_non (yU _)) (qV (qz (yZY (vVY K) (by rfl) T.b_list PyProof.Rows.boot_list (qU (pv 0) as_nil)))) yv)
     (qV (qz (vUJ (N' := ["message", "topics"]) (ix := [none, some 1]) (own := [0]) rfl (cs_of (osc := qZ ZG) (ON := N_of_topics) rfl rfl (by decide +kernel)) (by decide) (YG K (pv 0)) (fun _ _ _ _ => (Qz (i := 0) (show (["message", "topics"] : List Str).Nodup by decide +kernel) rfl (Or.inl rfl))) qZY (fun _ _ _ _ => (vQZ (qw (k_in_seq K) (zB c_topic_of (hr.mono (by decide)) (qU (pv 0) as_nil)) (pv 1) (by with_unfolding_all rfl)))) (fun _ _ _ _ => (pv 0)))))), ?_⟩
   refine ⟨_, rfl, rfl, _, rfl, ?_⟩
   rcases ht with ⟨rfl, rfl⟩ | ⟨b, l, rfl, hb, rfl⟩
   · refine ite2 (fun _ => ?_) (fun h => absurd (decide_eq_true rfl) h)
     refine ⟨_, rfl, a, xs, rfl, .inl (SqL.ofL ha), fun p hp => ?_⟩
     exact q p xs _ (Same.new hp) hp qQ (hm.same (Same.new hp))
   · refine ite2 (fun h => absurd (of_decide_eq_true h) (by simp)) (fun _ => ?_)
     refine ⟨_, rfl, a, rfl, ⟨xs, SqL.ofL ha⟩, ms.length, fun i ys H2 => Same H H2 ∧ Ms H2 ys ((ms.take i).filter fun m => decide (m.t ∈ l)), (by rw [sizeLine_eq]; omega), ⟨Same.refl _, Ms.nil⟩, ?_, ?_⟩
     · rintro i ys H2 hi ⟨s2, hy⟩
       obtain ⟨c, ec, hc⟩ := (hm.same s2).get hi
       refine ⟨⟨xs, .ref c, SqL.ofL (s2 _ _ ha), ec⟩, ?_⟩
       rintro x H3 ⟨rfl, hx⟩
       have hx' := hx xs (SqL.ofL (s2 _ _ ha))
       rw [ec] at hx'
       obtain rfl := Option.some.inj hx'
       refine Qv ?_
       refine ⟨_, rfl, c, _, _, _, rfl, hc, _, rfl, b, l.map V.str, rfl, .inl (s2.seq hb), rfl, flat_strs l, _, rfl, ?_⟩
       have e : (if false = true then !inV (.str ms[i].t) (l.map V.str) else inV (.str ms[i].t) (l.map V.str)) = decide (ms[i].t ∈ l) := in_strs _ l
       refine ite2 (fun h => ?_) (fun h => ?_)
       · refine ⟨_, rfl, s2, ?_⟩
         have h' : decide (ms[i].t ∈ l) = true := e.symm.trans h
         rw [flt_succ hi, if_pos h']
         exact hy.append (Ms.one hc)
       · refine ⟨s2, ?_⟩
         have h' : ¬ decide (ms[i].t ∈ l) = true := fun z => h (e.trans z)
         rw [flt_succ hi, if_neg h', List.append_nil]
         exact hy
     · rintro ys H2 ⟨s2, hy⟩
       refine ⟨⟨xs, SqL.ofL (s2 _ _ ha), by rw [hm.len]; exact Nat.le_refl _⟩, fun D hD => ?_⟩
       rw [List.take_length] at hy
       exact q D ys _ (s2.trans (Same.new hD)) (s2.free hD) qQ (hy.same (Same.new hD))
abbrev vM : Stmt := top 11
abbrev JQ : List Str := ["messages", "number"]
theorem qVY : FnScope JQ ["messages", "number"] (qZ vM) := ⟨rfl, rfl, rfl, by decide +kernel, rfl, by decide +kernel, by decide +kernel⟩
theorem yYQ {f : Addr} {fd : FuncData} (F : Fun K "with_greater_numbers" "with_greater_numbers" vM f fd) (T : Txt mg) (c_number_of : Callee P w K mg base 1 "number_of" ["message"] (yJQ 0)) :
   FnOk P w K mg base CX0 2 f fd ["messages", "number"] spGreater := by
 refine F.ok qVY (fun vs H Q E h => ?_) (fun cdv A outer s H vs Q E hr h => ?_)
 · obtain ⟨a, xs, ms, n, rfl, _⟩ := h; rfl
 · obtain ⟨a, xs, ms, n, rfl, ha, hm, hlen, q⟩ := h
   refine ⟨_, (qV (qz (vUJ (N' := ["message", "number"]) (ix := [none, some 1]) (own := [0]) rfl (cs_of (osc := qZ vM) (ON := JQ) rfl rfl (by decide +kernel)) (by decide) (YG K (pv 0)) (fun _ _ _ _ => (Qz (i := 0) (show (["message", "number"] : List Str).Nodup by decide +kernel) rfl (Or.inl rfl))) qZY (fun _ _ _ _ => (vQZ (qw op_gt (zB c_number_of (hr.mono (by decide)) (qU (pv 0) as_nil)) (pv 1) (yU _)))) (fun _ _ _ _ => (pv 0))))), ?_⟩
   refine ⟨_, rfl, a, rfl, ⟨xs, SqL.ofL ha⟩, ms.length, fun i ys H2 => Same H H2 ∧ Ms H2 ys ((ms.take i).filter fun m => decide (m.n > n)), (by rw [sizeLine_eq]; omega), ⟨Same.refl _, Ms.nil⟩, ?_, ?_⟩
   · rintro i ys H2 hi ⟨s2, hy⟩
     obtain ⟨c, ec, hc⟩ := (hm.same s2).get hi
     refine ⟨⟨xs, .ref c, SqL.ofL (s2 _ _ ha), ec⟩, ?_⟩
     rintro x H3 ⟨rfl, hx⟩
     have hx' := hx xs (SqL.ofL (s2 _ _ ha))
     rw [ec] at hx'
     obtain rfl := Option.some.inj hx'
     refine Qv ?_
     refine ⟨_, rfl, c, _, _, _, rfl, hc, _, rfl, _, _, rfl, rfl, _, rfl, ?_⟩
     refine ite2 (fun h => ?_) (fun h => ?_)
     · refine ⟨_, rfl, s2, ?_⟩
       rw [flt_succ hi, if_pos h]
       exact hy.append (Ms.one hc)
     · refine ⟨s2, ?_⟩
       rw [flt_succ hi, if_neg h, List.append_nil]
       exact hy
   · rintro ys H2 ⟨s2, hy⟩
     refine ⟨⟨xs, SqL.ofL (s2 _ _ ha), by rw [hm.len]; exact Nat.le_refl _⟩, fun D hD => ?_⟩
     rw [List.take_length] at hy
     exact q D ys _ (s2.trans (Same.new hD)) (s2.free hD) qQ (hy.same (Same.new hD))
abbrev zw : Stmt := vQ (top 19) 0
abbrev N_Teller___init__ : List Str := ["self", "keep"]
theorem zZY : FnScope N_Teller___init__ ["self", "keep"] (qZ zw) := ⟨rfl, rfl, rfl, by decide +kernel, rfl, by decide +kernel, by decide +kernel⟩
theorem ok_Teller_init {f C : Addr} {fd : FuncData} (F : Fun K "__init__" "Teller.__init__" zw f fd) (TC : TellerC K mg C) : FnOk P w K mg base CX0 1 f fd ["self", "keep"] (spInitT C) := by
 refine F.ok zZY (fun vs H Q E h => ?_) (fun cdv A outer s H vs Q E hr h => ?_)
 · obtain ⟨p, dx, k, rfl, _⟩ := h; rfl
 · obtain ⟨p, dx, k, rfl, hp, q⟩ := h
   refine ⟨_, (qJ (zv K (pv 0) (pv 1) rfl)
     (qJ (zv K (pv 0) qG rfl)
     (qJ (zv K (pv 0) qG rfl)
     (qJ (zv K (pv 0) (vw as_nil) rfl)
     (qV (zv K (pv 0) Mq rfl)))))), ?_⟩
   have l1 := YV "keep" (.int k) []
   have l2 := YV "turn" (.int 0) (putF "keep" (.int k) [])
   have l3 := YV "total" (.int 0) (putF "turn" (.int 0) (putF "keep" (.int k) []))
   have l0 : ([] : List (Str × V)).length = 0 := rfl
   refine ⟨_, rfl, _, rfl, p, C, dx, [], rfl, hp, TC.cl_Teller, TC.n_keep, (by show 0 < 1000; decide), ?_⟩
   refine ⟨_, rfl, p, C, dx, _, rfl, qQ, TC.cl_Teller, TC.n_turn, by omega, ?_⟩
   refine ⟨_, rfl, p, C, dx, _, rfl, qQ, TC.cl_Teller, TC.n_total, by omega, ?_⟩
   refine ⟨Nat.zero_le _, fun s hs => ?_⟩
   have nps : p ≠ s := qB qQ hs
   refine ⟨_, rfl, p, C, dx, _, rfl, (by rw [qY nps]; exact qQ), TC.cl_Teller, TC.n_stored, by omega, ?_⟩
   intro d hd
   have npd : p ≠ d := qB qQ hd
   have nsd : s ≠ d := fun e => by rw [← e, qY nps.symm, qQ] at hd; cases hd
   have l4 := YV "stored" (.ref s) (putF "total" (.int 0) (putF "turn" (.int 0) (putF "keep" (.int k) [])))
   refine ⟨_, rfl, p, C, dx, _, rfl, (by rw [qY npd]; exact qQ), TC.cl_Teller, TC.n_newest, by omega, ?_⟩
   rw [tF_make]
   have hs0 : H s = none := by rw [qY nps.symm, qY nps.symm, qY nps.symm] at hs; exact hs
   have hd0 : H d = none := by rw [qY npd.symm, qY nsd.symm, qY npd.symm, qY npd.symm, qY npd.symm] at hd; exact hd
   refine q s d _ hs0 hd0 ⟨⟨dx, qQ⟩, ⟨[], ?_, (by unfold vZ; rw [List.drop_nil]; exact Ms.nil)⟩, ⟨[], ?_, .nil⟩⟩ fun b o e hb => ?_
   · rw [qY nps.symm, qY nsd, qY nps.symm, qQ]
   · rw [qY npd.symm, qQ]
   · rw [qY hb, qY (qB e hd0), qY hb, qY (qB e hs0), qY hb, qY hb, qY hb]
     exact e
abbrev ZJ : Stmt := vQ (top 19) 1
abbrev N_Teller_tell : List Str := ["self", "topic", "text", "message"]
theorem sc_Teller_tell : FnScope N_Teller_tell ["self", "topic", "text"] (qZ ZJ) := ⟨rfl, rfl, rfl, by decide +kernel, rfl, by decide +kernel, by decide +kernel⟩
theorem ok_Teller_tell {f C : Addr} {fd : FuncData} (F : Fun K "tell" "Teller.tell" ZJ f fd) (T : Txt mg) (TC : TellerC K mg C) : FnOk P w K mg base CX0 1 f fd ["self", "topic", "text"] (spTell C) := by
 refine F.ok sc_Teller_tell (fun vs H Q E h => ?_) (fun cdv A outer s0 H vs Q E hr h => ?_)
 · obtain ⟨p, t, x, k, r, all, s, d, rfl, _⟩ := h; rfl
 · obtain ⟨p, t, x, k, r, all, s, d, rfl, TA, hlen, hk, q⟩ := h
   refine ⟨_, (qJ (zv K (pv 0) (yz QB (vJ K (pv 0) rfl) qG) rfl)
     (qJ (yB (i := 3) sc_Teller_tell.nd rfl (Or.inl rfl) (Zz (qM (vJ K (pv 0) rfl) (qM (pv 1) (qM (pv 2) as_nil)))))
     (qJ (Yv (yG hr) (vJ K (pv 0) rfl) (pv 1) (pv 3) rfl)
     (qJ (vY (k_bm K PySem.F.plainAttrs_list PySem.F.slot_list_append PySem.F.type_list_append UQ (vJ K (pv 0) rfl) (zq (pv 3) YB)))
     (qJ (zY (qw op_gt (yJ (vU K) (by rfl) T.b_len PySem.boot_len (qU (vJ K (pv 0) rfl) as_nil)) (vJ K (pv 0) rfl) (yU _)) (qV (vY (k_bm K PySem.F.plainAttrs_list PySem.F.slot_list_pop PySem.F.type_list_pop mt_popAt (vJ K (pv 0) rfl) (zq qG YB)))) yv)
     (qV (qz (vJ K (pv 0) rfl)))))))), ?_⟩
   obtain ⟨⟨dx, h1⟩, ⟨ys, hs, hms⟩, ⟨kvs, hd, hdm⟩⟩ := id TA
   have nps : p ≠ s := zJ h1 hs (by intro z; cases z)
   have npd : p ≠ d := zJ h1 hd (by intro z; cases z)
   have nsd : s ≠ d := zJ hs hd (by intro z; cases z)
   have lF : ∀ n, (tF k r n s d).length < 1000 := fun n => by show 5 < 1000; decide
   refine ⟨_, rfl, p, C, dx, _, _, rfl, h1, TC.cl_Teller, TC.n_total, qYJ, _, _, rfl, rfl, _, rfl, p, C, dx, _, rfl, h1, TC.cl_Teller, TC.n_total, lF _, ?_⟩
   rw [tF_setTotal]
   have a1 : upd H p (.ins C dx (tF k r ((all.length : Int) + 1) s d)) p = some (.ins C dx (tF k r ((all.length : Int) + 1) s d)) := qQ
   have a2 : upd H p (.ins C dx (tF k r ((all.length : Int) + 1) s d)) s = some (.lst ys) := by rw [qY nps.symm]; exact hs
   have a3 : upd H p (.ins C dx (tF k r ((all.length : Int) + 1) s d)) d = some (.dK kvs) := by rw [qY npd.symm]; exact hd
   have aB : But [p, s, d] H (upd H p (.ins C dx (tF k r ((all.length : Int) + 1) s d))) := fun c o e hc => by rw [qY (fun z => hc (by rw [z]; exact List.mem_cons_self))]; exact e
   have aT : Tups H (upd H p (.ins C dx (tF k r ((all.length : Int) + 1) s d))) := (Tups.refl H).put h1 (fun _ z => by cases z)
   generalize upd H p (.ins C dx (tF k r ((all.length : Int) + 1) s d)) = Ha at a1 a2 a3 aB aT ⊢
   refine ⟨_, rfl, p, C, dx, _, _, rfl, a1, TC.cl_Teller, TC.n_total, qYJ, _, rfl, _, rfl, (show 3 ≤ sizeLine by decide), fun c hc => ?_⟩
   have sb := Same.new (o := .tup [.int ((all.length : Int) + 1), .str t, .str x]) hc
   have b1 := sb _ _ a1
   have b2 := sb _ _ a2
   have b3 := sb _ _ a3
   have bc : upd Ha c (.tup [.int ((all.length : Int) + 1), .str t, .str x]) c = some (mT ⟨(all.length : Int) + 1, t, x⟩) := qQ
   have bB : But [p, s, d] H _ := fun c' o e hc' => sb _ _ (aB c' o e hc')
   have bT := aT.trans sb.tups
   generalize upd Ha c (.tup [.int ((all.length : Int) + 1), .str t, .str x]) = Hb at b1 b2 b3 bc bB bT ⊢
   have hkl : kvs.length < sizeLine := by
     have h1 := newest_len all
     rw [hdm.len, sizeLine_eq]
     omega
   refine ⟨_, rfl, _, rfl, p, C, dx, _, _, rfl, b1, TC.cl_Teller, TC.n_newest, tF_newest, _, rfl, d, _, rfl, DPut.k (k := Sum.inr t) b3 hkl, ?_⟩
   have cT : Tups Hb (upd Hb d (.dK (putK kvs (Sum.inr t) (.ref c)))) := (Tups.refl Hb).put b3 (fun _ z => by cases z)
   have c1 : upd Hb d (.dK (putK kvs (Sum.inr t) (.ref c))) p = _ := (qY npd).trans b1
   have c2 : upd Hb d (.dK (putK kvs (Sum.inr t) (.ref c))) s = _ := (qY nsd).trans b2
   have c3 : upd Hb d (.dK (putK kvs (Sum.inr t) (.ref c))) d = some (.dK (putK kvs (Sum.inr t) (.ref c))) := qQ
   have cc := cT _ _ bc
   have cB : But [p, s, d] H (upd Hb d (.dK (putK kvs (Sum.inr t) (.ref c)))) := fun c' o e hc' => by rw [qY (fun z => hc' (by rw [z]; simp))]; exact bB c' o e hc'
   have cTT := bT.trans cT
   generalize upd Hb d (.dK (putK kvs (Sum.inr t) (.ref c))) = Hc at c1 c2 c3 cc cB cTT ⊢
   have hyl := hms.len
   have hll := JM k all
   refine ⟨_, rfl, p, C, dx, _, _, rfl, c1, TC.cl_Teller, TC.n_stored, qUZ, .inl ⟨rfl, _, SqL.ofL c2⟩, _, rfl, s, ys, .ref c, rfl, rfl, c2, by rw [sizeLine_eq]; omega, ?_⟩
   have dT : Tups Hc (upd Hc s (.lst (ys ++ [.ref c]))) := (Tups.refl Hc).put c2 (fun _ z => by cases z)
   have d1 : upd Hc s (.lst (ys ++ [.ref c])) p = _ := (qY nps).trans c1
   have d2 : upd Hc s (.lst (ys ++ [.ref c])) s = some (.lst (ys ++ [.ref c])) := qQ
   have d3 : upd Hc s (.lst (ys ++ [.ref c])) d = _ := (qY nsd.symm).trans c3
   have dc := dT _ _ cc
   have dB : But [p, s, d] H (upd Hc s (.lst (ys ++ [.ref c]))) := fun c' o e hc' => by rw [qY (fun z => hc' (by rw [z]; simp))]; exact cB c' o e hc'
   have dTT := cTT.trans dT
   generalize upd Hc s (.lst (ys ++ [.ref c])) = Hd at d1 d2 d3 dc dB dTT ⊢
   have mAll : Ms Hd (ys ++ [.ref c]) (vZ k all ++ [⟨(all.length : Int) + 1, t, x⟩]) := (hms.tups dTT).append (Ms.one dc)
   have nAll : DM Hd (putK kvs (Sum.inr t) (.ref c)) (Zq (all ++ [⟨(all.length : Int) + 1, t, x⟩])) := by
     rw [newest_snoc]
     exact (hdm.tups dTT).put t (Mv dc)
   have eT : tF k r ((all.length : Int) + 1) s d = tF k r ((all ++ [(⟨(all.length : Int) + 1, t, x⟩ : Msg)]).length : Int) s d := by rw [List.length_append, List.length_singleton]; rfl
   have elen : (((ys ++ [V.ref c]).length : Nat) : Int) = (min all.length k.toNat : Nat) + 1 := by rw [List.length_append, List.length_singleton, hyl, hll]; rfl
   refine ⟨_, rfl, p, C, dx, _, _, rfl, d1, TC.cl_Teller, TC.n_stored, qUZ, s, _, rfl, .inl (SqL.ofL d2), _, rfl, p, C, dx, _, _, rfl, d1, TC.cl_Teller, TC.n_keep, tF_keep, _, _, rfl, rfl, _, rfl, ?_⟩
   refine ite2 (fun hg => ?_) (fun hg => ?_)
   · have hg' : (((ys ++ [V.ref c]).length : Nat) : Int) > k := of_decide_eq_true hg
     have hfull : k.toNat ≤ all.length := by omega
     obtain ⟨y, yr, ey⟩ : ∃ y yr, ys ++ [V.ref c] = y :: yr := by
       cases ys with
       | nil => exact ⟨_, _, rfl⟩
       | cons y yr => exact ⟨_, _, rfl⟩
     have hix : seqIndex? 0 (ys ++ [V.ref c]).length = some 0 := by
       refine (ixN_seq (j := 0) ?_).1
       unfold ixN
       rw [if_pos (by decide), if_pos (by rw [ey, List.length_cons]; omega)]
       rfl
     refine ⟨_, rfl, p, C, dx, _, _, rfl, d1, TC.cl_Teller, TC.n_stored, qUZ, .inl ⟨rfl, _, SqL.ofL d2⟩, s, _, 0, 0, y, rfl, rfl, d2, by decide, by decide, hix, by rw [ey]; rfl, ?_⟩
     have e1 : upd Hd s (.lst ((ys ++ [V.ref c]).eraseIdx 0)) p = _ := (qY nps).trans d1
     refine ⟨_, rfl, p, C, dx, _, _, rfl, e1, TC.cl_Teller, TC.n_total, qYJ, ?_⟩
     have eT2 : Tups Hd (upd Hd s (.lst ((ys ++ [V.ref c]).eraseIdx 0))) := (Tups.refl Hd).put d2 (fun _ z => by cases z)
     refine q _ ⟨⟨dx, ?_⟩, ⟨_, qQ, ?_⟩, ⟨_, (qY nsd.symm).trans d3, nAll.tups eT2⟩⟩ fun c' o e hc' => ?_
     · rw [← eT]; exact e1
     · have ee : (ys ++ [V.ref c]).eraseIdx 0 = (ys ++ [V.ref c]).drop 1 := by rw [ey]; rfl
       rw [lastK_full hfull]
       rw [ee] at eT2 ⊢
       exact (mAll.drop 1).tups eT2
     · rw [qY (fun z => hc' (by rw [z]; simp))]; exact dB c' o e hc'
   · have hg' : ¬ (((ys ++ [V.ref c]).length : Nat) : Int) > k := fun z => hg (decide_eq_true z)
     have hsm : all.length + 1 ≤ k.toNat := by omega
     refine ⟨_, rfl, p, C, dx, _, _, rfl, d1, TC.cl_Teller, TC.n_total, qYJ, ?_⟩
     refine q _ ⟨⟨dx, ?_⟩, ⟨_, d2, ?_⟩, ⟨_, d3, nAll⟩⟩ dB
     · rw [← eT]; exact d1
     · rw [lastK_small hsm]; exact mAll
abbrev ZZ : Stmt := vQ (top 19) 2
abbrev N_Teller_told : List Str := ["self"]
theorem sc_Teller_told : FnScope N_Teller_told ["self"] (qZ ZZ) := ⟨rfl, rfl, rfl, by decide +kernel, rfl, by decide +kernel, by decide +kernel⟩
theorem ok_Teller_told {f C : Addr} {fd : FuncData} (F : Fun K "told" "Teller.told" ZZ f fd) (TC : TellerC K mg C) : FnOk P w K mg base CX0 1 f fd ["self"] (spTold C) := by
 refine F.ok sc_Teller_told (fun vs H Q E h => ?_) (fun cdv A outer s0 H vs Q E hr h => ?_)
 · obtain ⟨p, k, r, all, s, d, rfl, _⟩ := h; rfl
 · obtain ⟨p, k, r, all, s, d, rfl, TA, q⟩ := h
   refine ⟨_, (qV (qz (vJ K (pv 0) rfl))), ?_⟩
   obtain ⟨dx, h1⟩ := TA.ob
   exact ⟨_, rfl, p, C, dx, _, _, rfl, h1, TC.cl_Teller, TC.n_total, qYJ, q⟩
abbrev QG : Stmt := vQ (top 19) 4
abbrev N_Teller_oldest : List Str := ["self"]
theorem sc_Teller_oldest : FnScope N_Teller_oldest ["self"] (qZ QG) := ⟨rfl, rfl, rfl, by decide +kernel, rfl, by decide +kernel, by decide +kernel⟩
theorem ok_Teller_oldest {f C : Addr} {fd : FuncData} (F : Fun K "oldest" "Teller.oldest" QG f fd) (T : Txt mg) (TC : TellerC K mg C) : FnOk P w K mg base CX0 1 f fd ["self"] (zVZ C) := by
 refine F.ok sc_Teller_oldest (fun vs H Q E h => ?_) (fun cdv A outer s0 H vs Q E hr h => ?_)
 · obtain ⟨p, k, r, all, s, d, rfl, _⟩ := h; rfl
 · obtain ⟨p, k, r, all, s, d, rfl, TA, q⟩ := h
   refine ⟨_, (qV (qz (yz QB (yz Jz (vJ K (pv 0) rfl) (yJ (vU K) (by rfl) T.b_len PySem.boot_len (qU (vJ K (pv 0) rfl) as_nil))) qG))), ?_⟩
   obtain ⟨dx, h1⟩ := TA.ob
   obtain ⟨ys, hs, hm⟩ := TA.st
   rw [← hm.len] at q
   exact ⟨_, rfl, p, C, dx, _, _, rfl, h1, TC.cl_Teller, TC.n_total, qYJ, _, rfl, p, C, dx, _, _, rfl, h1, TC.cl_Teller, TC.n_stored, qUZ, s, ys, rfl, .inl (SqL.ofL hs), _, _, rfl, rfl, _, _, rfl, rfl, q⟩
abbrev QD : Stmt := vQ (top 19) 6
abbrev N_Teller_behind : List Str := ["self", "number", "topics", "found"]
theorem sc_Teller_behind : FnScope N_Teller_behind ["self", "number", "topics"] (qZ QD) := ⟨rfl, rfl, rfl, by decide +kernel, rfl, by decide +kernel, by decide +kernel⟩
theorem ok_Teller_behind {f C : Addr} {fd : FuncData} (F : Fun K "behind" "Teller.behind" QD f fd) (T : Txt mg) (TC : TellerC K mg C) (c_of_topics : Callee P w K mg base 2 "of_topics" ["messages", "topics"] (spOfT K)) (c_with_greater_numbers : Callee P w K mg base 2 "with_greater_numbers" ["messages", "number"] spGreater)
   (m_oldest : CalleeM P w K mg base 1 C "oldest" ["self"] (zVZ C)) : FnOk P w K mg base CX0 3 f fd ["self", "number", "topics"] (spBehind K C) := by
 refine F.ok sc_Teller_behind (fun vs H Q E h => ?_) (fun cdv A outer s0 H vs Q E hr h => ?_)
 · obtain ⟨p, n, tv, ts, k, r, all, s, d, rfl, _⟩ := h; rfl
 · obtain ⟨p, n, tv, ts, k, r, all, s, d, rfl, TA, hlen, hn0, hn1, htv, q⟩ := h
   refine ⟨_, (qJ (zY (PW.pt (pw_or (qw op_lt (pv 1) qG (yU _)) (pw_or1 (qw op_gt (pv 1) (vJ K (pv 0) rfl) (yU _))))) (qV ps_never) yv)
     (qJ (yB (i := 3) sc_Teller_behind.nd rfl (Or.inl rfl) (zB c_of_topics (hr.mono (by decide)) (qU (zB c_with_greater_numbers (hr.mono (by decide)) (qU (vJ K (pv 0) rfl) (qM (pv 1) as_nil))) (qM (pv 2) as_nil))))
     (qV (qz (Zz (qM (pv 3) (qM (yJ (zQQ rfl) (by rfl) T.b_max PyProof.Rows.boot_max (qU qG (qM (yz Jz (yz Jz (zz m_oldest TC.cl_Teller (hr.mono (by decide)) (pv 0)) qG) (pv 1)) as_nil))) as_nil))))))), ?_⟩
   obtain ⟨dx, h1⟩ := TA.ob
   obtain ⟨ys, hs, hm⟩ := TA.st
   have hll := JM k all
   refine ⟨_, rfl, _, _, rfl, rfl, _, rfl, ?_⟩
   refine ite2 (fun z => absurd (of_decide_eq_true z) (by omega)) (fun _ => ?_)
   refine ⟨_, rfl, _, rfl, p, C, dx, _, _, rfl, h1, TC.cl_Teller, TC.n_total, qYJ, _, _, rfl, rfl, _, rfl, ?_⟩
   refine ite2 (fun z => absurd (of_decide_eq_true z) (by omega)) (fun _ => ?_)
   refine ⟨_, rfl, p, C, dx, _, _, rfl, h1, TC.cl_Teller, TC.n_stored, qUZ, _, rfl, s, ys, _, n, rfl, hs, hm, by omega, fun p1 y1 H1 s1 n1 e1 m1 => ?_⟩
   have hfl : ((vZ k all).filter fun m => decide (m.n > n)).length ≤ (vZ k all).length := List.length_filter_le _ _
   refine ⟨_, rfl, p1, y1, _, tv, ts, rfl, e1, m1, by omega, htv.same s1, fun p2 y2 H2 s2 n2 e2 m2 => ?_⟩
   have s12 := s1.trans s2
   obtain ⟨dx', g1⟩ := (TA.same s12).ob
   refine ⟨_, rfl, _, rfl, p, dx', _, rfl, g1, tF_no (by decide +kernel) (by decide +kernel) (by decide +kernel) (by decide +kernel) (by decide +kernel), p, k, r, all, s, d, rfl, TA.same s12, ?_⟩
   refine ⟨_, _, rfl, rfl, _, rfl, _, _, rfl, rfl, 0, _, rfl, (show 2 ≤ sizeLine by decide), fun p3 hp3 => ?_⟩
   have s3 := Same.new (o := .tup [.ref p2, .int (QM k n all)]) hp3
   exact q p3 p2 y2 _ (s12.trans s3) (s12.free hp3) (s1.free n2) qQ (s3 _ _ e2) (m2.same s3)
abbrev Qq : Stmt := vQ (top 17) 0
abbrev N_Road___init__ : List Str := ["self", "size", "way"]
theorem sc_Road___init__ : FnScope N_Road___init__ ["self", "size", "way"] (qZ Qq) := ⟨rfl, rfl, rfl, by decide +kernel, rfl, by decide +kernel, by decide +kernel⟩
theorem ok_Road_init {f C : Addr} {fd : FuncData} (F : Fun K "__init__" "Road.__init__" Qq f fd) (TC : RoadC K mg C) : FnOk P w K mg base CX0 1 f fd ["self", "size", "way"] (spInitR C) := by
 refine F.ok sc_Road___init__ (fun vs H Q E h => ?_) (fun cdv A outer s H vs Q E hr h => ?_)
 · obtain ⟨p, dx, sz, way, rfl, _⟩ := h; rfl
 · obtain ⟨p, dx, sz, way, rfl, hp, q⟩ := h
   refine ⟨_, (qJ (zv K (pv 0) (pv 1) rfl)
     (qJ (zv K (pv 0) (pv 2) rfl)
     (qJ (zv K (pv 0) (vw as_nil) rfl)
     (qJ (zv K (pv 0) (vw as_nil) rfl)
     (qV (zv K (pv 0) MB rfl)))))), ?_⟩
   have l1 := YV "size" (.int sz) []
   have l2 := YV "way" (.str way) (putF "size" (.int sz) [])
   have l0 : ([] : List (Str × V)).length = 0 := rfl
   refine ⟨_, rfl, _, rfl, p, C, dx, [], rfl, hp, TC.cl_Road, TC.n_size, (by show 0 < 1000; decide), ?_⟩
   refine ⟨_, rfl, _, rfl, p, C, dx, _, rfl, qQ, TC.cl_Road, TC.n_way, by omega, ?_⟩
   refine ⟨Nat.zero_le _, fun r hr => ?_⟩
   have npr : p ≠ r := qB qQ hr
   refine ⟨_, rfl, p, C, dx, _, rfl, (by rw [qY npr]; exact qQ), TC.cl_Road, TC.n_row, by omega, ?_⟩
   refine ⟨Nat.zero_le _, fun d hd => ?_⟩
   have npd : p ≠ d := qB qQ hd
   have nrd : r ≠ d := fun e => by rw [← e, qY npr.symm, qQ] at hd; cases hd
   have l3 := YV "row" (.ref r) (putF "way" (.str way) (putF "size" (.int sz) []))
   refine ⟨_, rfl, p, C, dx, _, rfl, (by rw [qY npd]; exact qQ), TC.cl_Road, TC.n_dropped, by omega, ?_⟩
   have l4 := YV "dropped" (.ref d) (putF "row" (.ref r) (putF "way" (.str way) (putF "size" (.int sz) [])))
   refine ⟨_, rfl, p, C, dx, _, rfl, qQ, TC.cl_Road, TC.n_broken, by omega, ?_⟩
   rw [rF_make]
   have hr0 : H r = none := by rw [qY npr.symm, qY npr.symm] at hr; exact hr
   have hd0 : H d = none := by rw [qY npd.symm, qY nrd.symm, qY npd.symm, qY npd.symm] at hd; exact hd
   refine q r d _ ⟨⟨dx, qQ⟩, ⟨[], ?_, Ms.nil⟩, ?_, nrd⟩ ⟨fun b o e hb => ?_, fun b xs e => ?_, fun c hc => ?_⟩
   · rw [qY npr.symm, qY npr.symm, qY nrd, qY npr.symm, qQ]
   · rw [qY npd.symm, qY npd.symm, qQ]; rfl
   · have hb' : b ≠ p := by simpa using hb
     rw [qY hb', qY hb', qY (qB e hd0), qY hb', qY (qB e hr0), qY hb', qY hb']; exact e
   · have hb' : b ≠ p := zJ e hp (by intro z; cases z)
     rw [qY hb', qY hb', qY (qB e hd0), qY hb', qY (qB e hr0), qY hb', qY hb']; exact e
   · simp only [List.mem_cons, List.not_mem_nil, or_false] at hc
     rcases hc with rfl | rfl | rfl
     · exact .inl (by simp)
     · exact .inr hr0
     · exact .inr hd0
abbrev zG : Stmt := vQ (top 17) 3
abbrev yZJ : List Str := ["self", "messages"]
theorem QYQ : FnScope yZJ ["self", "messages"] (qZ zG) := ⟨rfl, rfl, rfl, by decide +kernel, rfl, by decide +kernel, by decide +kernel⟩
theorem ok_Road_leave_out {f C : Addr} {fd : FuncData} (F : Fun K "leave_out" "Road.leave_out" zG f fd) (TC : RoadC K mg C) (c_number_of : Callee P w K mg base 1 "number_of" ["message"] (yJQ 0)) : FnOk P w K mg base CX0 2 f fd ["self", "messages"] (spLeave C) := by
 refine F.ok QYQ (fun vs H Q E h => ?_) (fun cdv A outer s0 H vs Q E hr h => ?_)
 · obtain ⟨p, b, xs, ms, sz, way, s, r, d, rfl, _⟩ := h; rfl
 · obtain ⟨p, b, xs, ms, sz, way, s, r, d, rfl, RA, hb, hm, hml, hol, q⟩ := h
   refine ⟨_, (qV (vY (k_bm K PySem.F.plainAttrs_list PySem.F.slot_list_extend PySem.F.type_list_extend yYZ (vJ K (pv 0) rfl) (zq (vUJ (N' := ["message"]) (ix := [none]) (own := [0]) rfl (cs_of (osc := qZ zG) (ON := yZJ) rfl rfl (by decide +kernel)) (by decide) (YG K (pv 1)) (fun _ _ _ _ => (Qz (i := 0) (show (["message"] : List Str).Nodup by decide +kernel) rfl (Or.inl rfl))) qZY (fun _ _ _ _ => pifs_nil) (fun _ _ _ _ => (zB c_number_of (hr.mono (by decide)) (qU (pv 0) as_nil)))) YB)))), ?_⟩
   obtain ⟨⟨dx, h1⟩, ⟨ys, h2, h3⟩, h4, h5⟩ := id RA
   refine ⟨_, rfl, p, C, dx, _, _, rfl, h1, TC.cl_Road, TC.n_dropped, rF_dropped, .inl ⟨rfl, _, SqL.ofL h4⟩, _, rfl, b, rfl, ⟨xs, SqL.ofL hb⟩, ?_⟩
   refine ⟨_, PMap H ms fun m => .int m.n, szl (by omega), PMap.zero, PMap.step hb hm (fun c m R N hmm hc hR => ?_), fun ys' H2 hP => ?_⟩
   · exact Qv (rd_yes (iteT ⟨_, rfl, c, _, _, _, rfl, hc, hR⟩))
   · obtain ⟨hst, rfl, rfl⟩ := PMap.done (K := K) hb hm hP
     refine ⟨hst, fun D hD => ?_⟩
     have s1 := Same.new (o := .lst (ms.map fun m => V.int m.n)) hD
     refine ⟨d, D, _, _, rfl, rfl, s1 _ _ h4, qQ, by rw [List.length_map, List.length_map, sizeLine_eq]; omega, ?_⟩
     have st : Stp [d] H [d] _ := (s1.step [d]).trans (Stp.put (o := .lst (s.out.map V.int ++ ms.map fun m => V.int m.n)) (s1 _ _ h4) (fun _ z => by cases z) (by simp))
     refine q _ ⟨⟨dx, st.keep h1 (by simp [RA.npd])⟩, ⟨ys, st.keep h2 (by simp [h5]), h3.step st⟩, ?_, h5⟩ st
     rw [qQ, List.map_append, List.map_map]; rfl
abbrev vD : Stmt := vQ (top 17) 2
abbrev yZZ : List Str := ["self", "message"]
theorem qJZ : FnScope yZZ ["self", "message"] (qZ vD) := ⟨rfl, rfl, rfl, by decide +kernel, rfl, by decide +kernel, by decide +kernel⟩
theorem qUQ {f C : Addr} {fd : FuncData} (F : Fun K "put_without_room" "Road.put_without_room" vD f fd) (TC : RoadC K mg C) (m_leave_out : CalleeM P w K mg base 2 C "leave_out" ["self", "messages"] (spLeave C)) : FnOk P w K mg base CX0 3 f fd ["self", "message"] (spPutW C) := by
 refine F.ok qJZ (fun vs H Q E h => ?_) (fun cdv A outer s0 H vs Q E hr h => ?_)
 · obtain ⟨p, c, m, sz, way, s, r, d, rfl, _⟩ := h; rfl
 · obtain ⟨p, c, m, sz, way, s, r, d, rfl, RA, hc, hrl, hol, hcut, hns, q⟩ := h
   refine ⟨_, (qJ (zY (qw MG (vJ K (pv 0) rfl) qv (yU _)) (qJ (vY (Qw m_leave_out TC.cl_Road (hr.mono (by decide)) (pv 0) (qU (Jy (MD K) (vJ K (pv 0) rfl) qJQ (qZJ qG)) as_nil)))
     (qJ (zv K (pv 0) (yz vYY (Jy (MD K) (vJ K (pv 0) rfl) (qZJ qG) qJQ) (vw (qM (pv 1) as_nil))) rfl)
     (qV (qz MB)))) yv)
     (qJ (zY (qw MG (vJ K (pv 0) rfl) qv (yU _)) (qJ (vY (Qw m_leave_out TC.cl_Road (hr.mono (by decide)) (pv 0) (qU (vw (qM (pv 1) as_nil)) as_nil)))
     (qV (qz MB))) yv)
     (qJ (vY (Qw m_leave_out TC.cl_Road (hr.mono (by decide)) (pv 0) (qU (yz vYY (vJ K (pv 0) rfl) (vw (qM (pv 1) as_nil))) as_nil)))
     (qJ (zv K (pv 0) (vw as_nil) rfl)
     (qJ (zv K (pv 0) MB rfl)
     (qV (qz MB))))))), ?_⟩
   obtain ⟨⟨dx, h1⟩, ⟨ys, h2, h3⟩, h4, h5⟩ := id RA
   have no : ∀ {r d : Addr} {b : Bool}, (rF sz way r d b).lookup ("leave_out" : Str) = none := rF_no (by decide +kernel) (by decide +kernel) (by decide +kernel) (by decide +kernel) (by decide +kernel)
   have lF : ∀ {r d : Addr} {b : Bool}, (rF sz way r d b).length < 1000 := by intro r d b; show 5 < 1000; decide
   have hyl := h3.len
   have hsc : ¬ s.cut = true := by rw [hcut]; decide
   refine ⟨_, rfl, p, C, dx, _, _, rfl, h1, TC.cl_Road, TC.n_way, rF_way, rfl, _, rfl, ?_⟩
   refine ite2 (fun ho => ?_) (fun ho => ?_)
   · have how : way = "old" := by simpa using ho
     have eS : ZD sz way s m = { s with rows := s.rows.drop 1 ++ [m], out := s.out ++ (s.rows.take 1).map (·.n) } := by
       unfold ZD; rw [if_neg hsc, if_neg hns, if_pos how]
     have eB : yUY sz way s = true := by unfold yUY; rw [if_neg hsc, if_neg hns, if_pos how]
     rw [eS, eB] at q
     refine ⟨_, rfl, p, dx, _, rfl, h1, no, _, rfl, p, C, dx, _, _, rfl, h1, TC.cl_Road, TC.n_row, vQY, _, rfl, r, ys, rfl, SqL.ofL h2, fun l hl => ?_⟩
     rw [cut_to (by decide)]
     have s1 := Same.new (o := .lst (ys.take (1 : Int).toNat)) hl
     refine ⟨p, l, _, s.rows.take 1, sz, way, s, r, d, rfl, RA.same s1, qQ, (h3.same s1).take 1, by rw [List.length_take]; omega, hol, fun H2 RA2 st2 => ?_⟩
     have st2' := (s1.step [d]).trans st2
     obtain ⟨⟨dx2, g1⟩, ⟨ys2, g2, g3⟩, g4, g5⟩ := id RA2
     refine ⟨_, rfl, p, C, dx2, _, _, rfl, g1, TC.cl_Road, TC.n_row, vQY, _, rfl, r, ys2, rfl, SqL.ofL g2, fun l2 hl2 => ?_⟩
     rw [vJY (by decide)]
     have s3 := Same.new (o := .lst (ys2.drop (1 : Int).toNat)) hl2
     refine ⟨_, rfl, (show 1 ≤ sizeLine by decide), fun l3 hl3 => ?_⟩
     have s4 := s3.trans (Same.new (o := .lst [.ref c]) hl3)
     refine ⟨l2, l3, _, _, rfl, rfl, (Same.new (o := .lst [.ref c]) hl3) _ _ qQ, qQ, by rw [List.length_drop, sizeLine_eq, g3.len]; show _ - _ + 1 ≤ _; have : ({ s with out := s.out ++ (s.rows.take 1).map (·.n) } : RS).rows.length = s.rows.length := rfl; omega, fun l4 hl4 => ?_⟩
     have s5 := s4.trans (Same.new (o := .lst (ys2.drop (1 : Int).toNat ++ [.ref c])) hl4)
     have i1 := s5 _ _ g1
     refine ⟨_, rfl, p, C, dx2, _, rfl, i1, TC.cl_Road, TC.n_row, lF, ?_⟩
     rw [rF_setRow]
     have np4 : p ≠ l4 := qB (s4 _ _ g1) hl4
     have nd4 : l4 ≠ d := (qB (s4 _ _ g4) hl4).symm
     have st : Stp [p, r, d] H [p, l4, d] _ := ((st2'.up (qs := [p, r, d]) (by simp)).trans ((s4.step [p, r, d]).trans (Stp.make (o := .lst (ys2.drop (1 : Int).toNat ++ [.ref c])) hl4))).trans ((Stp.put (p := p) (ps := [p, l4, d]) (o := .ins C dx2 (rF sz way l4 d s.cut)) i1 (fun _ z => by cases z) (by simp)).weak (qs := l4 :: [p, r, d]) (by simp) (by simp))
     have hc2 := st.tup _ _ hc
     refine q l4 _ ⟨⟨dx2, qQ⟩, ⟨_, (qY np4.symm).trans qQ, ?_⟩, ?_, nd4⟩ st
     · exact ((g3.drop 1).tups (s5.tups.trans (Stp.put (ps := [p]) (o := .ins C dx2 (rF sz way l4 d s.cut)) i1 (fun _ z => by cases z) (by simp)).tup)).append (Ms.one hc2)
     · rw [qY (zJ g1 g4 (by intro z; cases z)).symm]
       exact s5 _ _ g4
   · have how : ¬ way = "old" := by simpa using ho
     refine ⟨_, rfl, p, C, dx, _, _, rfl, h1, TC.cl_Road, TC.n_way, rF_way, rfl, _, rfl, ?_⟩
     refine ite2 (fun hw => ?_) (fun hw => ?_)
     · have hwn : way = "new" := by simpa using hw
       have eS : ZD sz way s m = { s with out := s.out ++ [m.n] } := by
         unfold ZD; rw [if_neg hsc, if_neg hns, if_neg how, if_pos hwn]
       have eB : yUY sz way s = false := by unfold yUY; rw [if_neg hsc, if_neg hns, if_neg how]
       rw [eS, eB] at q
       refine ⟨_, rfl, p, dx, _, rfl, h1, no, _, rfl, (show 1 ≤ sizeLine by decide), fun l hl => ?_⟩
       have s1 := Same.new (o := .lst [.ref c]) hl
       exact ⟨p, l, _, [m], sz, way, s, r, d, rfl, RA.same s1, qQ, Ms.one (s1 _ _ hc), (show 1 < 64 by decide), hol, fun H2 RA2 st2 => q r H2 RA2 (((s1.step [d]).trans st2).up (by simp))⟩
     · have hwn : ¬ way = "new" := by simpa using hw
       have eS : ZD sz way s m = ⟨[], s.out ++ (s.rows ++ [m]).map (·.n), true⟩ := by
         unfold ZD; rw [if_neg hsc, if_neg hns, if_neg how, if_neg hwn]
       have eB : yUY sz way s = false := by unfold yUY; rw [if_neg hsc, if_neg hns, if_neg how]
       rw [eS, eB] at q
       refine ⟨_, rfl, p, dx, _, rfl, h1, no, _, rfl, p, C, dx, _, _, rfl, h1, TC.cl_Road, TC.n_row, vQY, _, rfl, (show 1 ≤ sizeLine by decide), fun l hl => ?_⟩
       have s1 := Same.new (o := .lst [.ref c]) hl
       refine ⟨r, l, _, _, rfl, rfl, s1 _ _ h2, qQ, by rw [sizeLine_eq, hyl]; show _ + 1 ≤ _; omega, fun l2 hl2 => ?_⟩
       have s2 := s1.trans (Same.new (o := .lst (ys ++ [.ref c])) hl2)
       refine ⟨p, l2, _, s.rows ++ [m], sz, way, s, r, d, rfl, RA.same s2, qQ, (h3.same s2).append (Ms.one (s2 _ _ hc)), by rw [List.length_append]; show _ + 1 < _; omega, hol, fun H3 RA3 st3 => ?_⟩
       obtain ⟨⟨dx3, g1⟩, ⟨ys3, g2, g3⟩, g4, g5⟩ := id RA3
       refine ⟨Nat.zero_le _, fun l4 hl4 => ?_⟩
       have s4 := Same.new (o := .lst []) hl4
       have i1 := s4 _ _ g1
       refine ⟨_, rfl, p, C, dx3, _, rfl, i1, TC.cl_Road, TC.n_row, lF, ?_⟩
       rw [rF_setRow]
       refine ⟨_, rfl, p, C, dx3, _, rfl, qQ, TC.cl_Road, TC.n_broken, lF, ?_⟩
       rw [QZQ, upd_upd]
       have np4 : p ≠ l4 := qB g1 hl4
       have nd4 : l4 ≠ d := (qB g4 hl4).symm
       have st : Stp [p, r, d] H [p, l4, d] _ := ((((s2.step [d]).trans st3).up (qs := [p, r, d]) (by simp)).trans (Stp.make (o := .lst []) hl4)).trans ((Stp.put (p := p) (ps := [p, l4, d]) (o := .ins C dx3 (rF sz way l4 d true)) i1 (fun _ z => by cases z) (by simp)).weak (qs := l4 :: [p, r, d]) (by simp) (by simp))
       refine q l4 _ ⟨⟨dx3, qQ⟩, ⟨_, (qY np4.symm).trans qQ, Ms.nil⟩, ?_, nd4⟩ st
       rw [qY (zJ g1 g4 (by intro z; cases z)).symm]
       exact s4 _ _ g4
abbrev JJ : Stmt := vQ (top 17) 1
abbrev N_Road_put : List Str := ["self", "message"]
theorem sc_Road_put : FnScope N_Road_put ["self", "message"] (qZ JJ) := ⟨rfl, rfl, rfl, by decide +kernel, rfl, by decide +kernel, by decide +kernel⟩
theorem ok_Road_put {f C : Addr} {fd : FuncData} (F : Fun K "put" "Road.put" JJ f fd) (T : Txt mg) (TC : RoadC K mg C) (m_leave_out : CalleeM P w K mg base 2 C "leave_out" ["self", "messages"] (spLeave C)) (m_put_without_room : CalleeM P w K mg base 3 C "put_without_room" ["self", "message"] (spPutW C)) : FnOk P w K mg base CX0 4 f fd ["self", "message"] (spPut C) := by
 refine F.ok sc_Road_put (fun vs H Q E h => ?_) (fun cdv A outer s0 H vs Q E hr h => ?_)
 · obtain ⟨p, c, m, sz, way, s, r, d, rfl, _⟩ := h; rfl
 · obtain ⟨p, c, m, sz, way, s, r, d, rfl, RA, hc, hrl, hol, q⟩ := h
   refine ⟨_, (qJ (zY (pt_val (vJ K (pv 0) rfl)) (qJ (vY (Qw m_leave_out TC.cl_Road (hr.mono (by decide)) (pv 0) (qU (vw (qM (pv 1) as_nil)) as_nil)))
     (qV (qz MB))) yv)
     (qJ (zY (qw op_lt (yJ (vU K) (by rfl) T.b_len PySem.boot_len (qU (vJ K (pv 0) rfl) as_nil)) (vJ K (pv 0) rfl) (yU _)) (qJ (vY (k_bm K PySem.F.plainAttrs_list PySem.F.slot_list_append PySem.F.type_list_append UQ (vJ K (pv 0) rfl) (zq (pv 1) YB)))
     (qV (qz MB))) yv)
     (qV (qz (Qw m_put_without_room TC.cl_Road (hr.mono (by decide)) (pv 0) (qU (pv 1) as_nil)))))), ?_⟩
   obtain ⟨⟨dx, h1⟩, ⟨ys, h2, h3⟩, h4, h5⟩ := id RA
   have no1 : ∀ {r d : Addr} {b : Bool}, (rF sz way r d b).lookup ("leave_out" : Str) = none := rF_no (by decide +kernel) (by decide +kernel) (by decide +kernel) (by decide +kernel) (by decide +kernel)
   have no2 : ∀ {r d : Addr} {b : Bool}, (rF sz way r d b).lookup ("put_without_room" : Str) = none := rF_no (by decide +kernel) (by decide +kernel) (by decide +kernel) (by decide +kernel) (by decide +kernel)
   have hyl := h3.len
   refine ⟨_, rfl, p, C, dx, _, _, rfl, h1, TC.cl_Road, TC.n_broken, rF_broken, _, rfl, ?_⟩
   refine ite2 (fun hsc => ?_) (fun hsc => ?_)
   · have eS : ZD sz way s m = { s with out := s.out ++ [m.n] } := by unfold ZD; rw [if_pos hsc]
     have eB : yUY sz way s = false := by unfold yUY; rw [if_pos hsc]
     rw [eS, eB] at q
     refine ⟨_, rfl, p, dx, _, rfl, h1, no1, _, rfl, (show 1 ≤ sizeLine by decide), fun l hl => ?_⟩
     have s1 := Same.new (o := .lst [.ref c]) hl
     exact ⟨p, l, _, [m], sz, way, s, r, d, rfl, RA.same s1, qQ, Ms.one (s1 _ _ hc), (show 1 < 64 by decide), hol, fun H2 RA2 st2 => q r H2 RA2 (((s1.step [d]).trans st2).up (by simp))⟩
   · refine ⟨_, rfl, p, C, dx, _, _, rfl, h1, TC.cl_Road, TC.n_row, vQY, r, ys, rfl, .inl (SqL.ofL h2), _, rfl, p, C, dx, _, _, rfl, h1, TC.cl_Road, TC.n_size, rF_size, _, _, rfl, rfl, _, rfl, ?_⟩
     refine ite2 (fun hlt => ?_) (fun hlt => ?_)
     · have hlt' : (s.rows.length : Int) < sz := by rw [← hyl]; exact of_decide_eq_true hlt
       have eS : ZD sz way s m = { s with rows := s.rows ++ [m] } := by unfold ZD; rw [if_neg hsc, if_pos hlt']
       have eB : yUY sz way s = true := by unfold yUY; rw [if_neg hsc, if_pos hlt']
       rw [eS, eB] at q
       refine ⟨_, rfl, p, C, dx, _, _, rfl, h1, TC.cl_Road, TC.n_row, vQY, .inl ⟨rfl, _, SqL.ofL h2⟩, _, rfl, r, ys, .ref c, rfl, rfl, h2, by rw [sizeLine_eq, hyl]; omega, ?_⟩
       have st : Stp [r] H [r] (upd H r (.lst (ys ++ [.ref c]))) := Stp.put h2 (fun _ z => by cases z) (by simp)
       exact q r _ ⟨⟨dx, st.keep h1 (by simp [RA.npr])⟩, ⟨_, qQ, (h3.step st).append (Ms.one (st.tup _ _ hc))⟩, st.keep h4 (by simp [h5.symm]), h5⟩ (st.up (by simp))
     · have hlt' : ¬ (s.rows.length : Int) < sz := by rw [← hyl]; exact fun z => hlt (decide_eq_true z)
       exact ⟨_, rfl, p, dx, _, rfl, h1, no2, _, rfl, p, c, m, sz, way, s, r, d, rfl, RA, hc, hrl, hol, by simpa using hsc, hlt', q⟩
abbrev MY : Stmt := vQ (top 17) 4
abbrev N_Road_take : List Str := ["self", "many", "taken"]
theorem sc_Road_take : FnScope N_Road_take ["self", "many"] (qZ MY) := ⟨rfl, rfl, rfl, by decide +kernel, rfl, by decide +kernel, by decide +kernel⟩
theorem ok_Road_take {f C : Addr} {fd : FuncData} (F : Fun K "take" "Road.take" MY f fd) (T : Txt mg) (TC : RoadC K mg C) : FnOk P w K mg base CX0 1 f fd ["self", "many"] (spTakeR C) := by
 refine F.ok sc_Road_take (fun vs H Q E h => ?_) (fun cdv A outer s0 H vs Q E hr h => ?_)
 · obtain ⟨p, n, sz, way, s, r, d, rfl, _⟩ := h; rfl
 · obtain ⟨p, n, sz, way, s, r, d, rfl, RA, hn, q⟩ := h
   refine ⟨_, (qJ (yB (i := 2) sc_Road_take.nd rfl (Or.inl rfl) (Jy (MD K) (vJ K (pv 0) rfl) qJQ (qZJ (yJ (zQQ rfl) (by rfl) T.b_max PyProof.Rows.boot_max (qU qG (qM (pv 1) as_nil))))))
     (qJ (zv K (pv 0) (Jy (MD K) (vJ K (pv 0) rfl) (qZJ (yJ (vU K) (by rfl) T.b_len PySem.boot_len (qU (pv 2) as_nil))) qJQ) rfl)
     (qV (qz (pv 2))))), ?_⟩
   obtain ⟨⟨dx, h1⟩, ⟨ys, h2, h3⟩, h4, h5⟩ := id RA
   have lF : ∀ {r d : Addr} {b : Bool}, (rF sz way r d b).length < 1000 := by intro r d b; show 5 < 1000; decide
   have hmx : (if n > 0 then n else 0) = n := by split <;> omega
   refine ⟨_, rfl, p, C, dx, _, _, rfl, h1, TC.cl_Road, TC.n_row, vQY, _, rfl, _, _, rfl, _, rfl, r, ys, rfl, SqL.ofL h2, fun l hl => ?_⟩
   rw [hmx, cut_to hn]
   have s1 := Same.new (o := .lst (ys.take n.toNat)) hl
   refine ⟨_, rfl, p, C, dx, _, _, rfl, s1 _ _ h1, TC.cl_Road, TC.n_row, vQY, _, rfl, l, _, rfl, .inl (SqL.ofL qQ), _, rfl, r, ys, rfl, SqL.ofL (s1 _ _ h2), fun l2 hl2 => ?_⟩
   have e2 : cutV ys (some (((ys.take n.toNat).length : Nat) : Int)) none = ys.drop n.toNat := by
     rw [vJY (by omega), Int.toNat_natCast, List.length_take]
     by_cases hh : n.toNat ≤ ys.length
     · rw [Nat.min_eq_left hh]
     · rw [Nat.min_eq_right (by omega), List.drop_of_length_le (Nat.le_refl _), List.drop_of_length_le (by omega)]
   rw [e2]
   have s2 := s1.trans (Same.new (o := .lst (ys.drop n.toNat)) hl2)
   have i1 := s2 _ _ h1
   refine ⟨_, rfl, p, C, dx, _, rfl, i1, TC.cl_Road, TC.n_row, lF, ?_⟩
   rw [rF_setRow]
   have np2 : p ≠ l2 := qB (s1 _ _ h1) hl2
   have nd2 : l2 ≠ d := (qB (s1 _ _ h4) hl2).symm
   have nl2 : l ≠ l2 := qB qQ hl2
   have nlp : l ≠ p := (qB h1 hl).symm
   have stp := Stp.put (p := p) (ps := [p]) (o := .ins C dx (rF sz way l2 d s.cut)) i1 (fun _ z => by cases z) (by simp)
   have st : Stp [p, r, d] H [p, l2, d] _ := ((s1.step [p, r, d]).trans (Stp.make (o := .lst (ys.drop n.toNat)) hl2)).trans (stp.weak (qs := l2 :: [p, r, d]) (by simp) (by simp))
   refine ⟨_, rfl, q l _ l2 _ ⟨⟨dx, qQ⟩, ⟨_, (qY np2.symm).trans qQ, (h3.drop _).step st⟩, ?_, nd2⟩ st hl ?_ ?_ ((h3.take _).step st)⟩
   · rw [qY RA.npd.symm]; exact s2 _ _ h4
   · simp [nlp, nl2, (qB h4 hl).symm]
   · rw [qY nlp, qY nl2, qQ]
abbrev YY : Stmt := vQ (top 17) 5
abbrev N_Road_waiting : List Str := ["self"]
theorem sc_Road_waiting : FnScope N_Road_waiting ["self"] (qZ YY) := ⟨rfl, rfl, rfl, by decide +kernel, rfl, by decide +kernel, by decide +kernel⟩
theorem ok_Road_waiting {f C : Addr} {fd : FuncData} (F : Fun K "waiting" "Road.waiting" YY f fd) (T : Txt mg) (TC : RoadC K mg C) : FnOk P w K mg base CX0 1 f fd ["self"] (spWait C) := by
 refine F.ok sc_Road_waiting (fun vs H Q E h => ?_) (fun cdv A outer s0 H vs Q E hr h => ?_)
 · obtain ⟨p, sz, way, s, r, d, rfl, _⟩ := h; rfl
 · obtain ⟨p, sz, way, s, r, d, rfl, RA, q⟩ := h
   refine ⟨_, (qV (qz (yZY (vVY K) (by rfl) T.b_list PyProof.Rows.boot_list (qU (vJ K (pv 0) rfl) as_nil)))), ?_⟩
   obtain ⟨⟨dx, h1⟩, ⟨ys, h2, h3⟩, h4, h5⟩ := id RA
   exact ⟨_, rfl, p, C, dx, _, _, rfl, h1, TC.cl_Road, TC.n_row, vQY, r, ys, rfl, .inl (SqL.ofL h2), fun l hl => q l ys hl (h3.same (Same.new hl))⟩
abbrev MZ : Stmt := vQ (top 17) 8
abbrev N_Road_mend : List Str := ["self"]
theorem sc_Road_mend : FnScope N_Road_mend ["self"] (qZ MZ) := ⟨rfl, rfl, rfl, by decide +kernel, rfl, by decide +kernel, by decide +kernel⟩
theorem ok_Road_mend {f C : Addr} {fd : FuncData} (F : Fun K "mend" "Road.mend" MZ f fd) (TC : RoadC K mg C) : FnOk P w K mg base CX0 1 f fd ["self"] (spMend C) := by
 refine F.ok sc_Road_mend (fun vs H Q E h => ?_) (fun cdv A outer s0 H vs Q E hr h => ?_)
 · obtain ⟨p, sz, way, s, r, d, rfl, _⟩ := h; rfl
 · obtain ⟨p, sz, way, s, r, d, rfl, RA, q⟩ := h
   refine ⟨_, (qV (zv K (pv 0) MB rfl)), ?_⟩
   obtain ⟨⟨dx, h1⟩, ⟨ys, h2, h3⟩, h4, h5⟩ := id RA
   refine ⟨_, rfl, p, C, dx, _, rfl, h1, TC.cl_Road, TC.n_broken, (show 5 < 1000 by decide), ?_⟩
   rw [QZQ]
   have st : Stp [p] H [p] (upd H p (.ins C dx (rF sz way r d false))) := Stp.put h1 (fun _ z => by cases z) (by simp)
   exact q _ ⟨⟨dx, qQ⟩, ⟨ys, st.keep h2 (by simp [RA.npr.symm]), h3.step st⟩, st.keep h4 (by simp [RA.npd.symm]), h5⟩ (st.up (by simp))
theorem no_h {C : Addr} {H : Hp} {a : HA} {s : HS} {ex : List (Str × V)} (h : HAt C H a s ex) {nx : Int} {f : Str} (hf : f = "expects" ∨ f = "take" ∨ f = "take_all" ∨ f = "refuse_others" ∨ f = "hear_held" ∨ f = "heard" ∨ f = "early" ∨ f = "missing" ∨ f = "lost" ∨ f = "give_up" ∨ f = "state") : (hF nx a.q a.h a.k a.g ex).lookup f = none := by
 rcases hf with rfl | rfl | rfl | rfl | rfl | rfl | rfl | rfl | rfl | rfl | rfl <;> exact (hF_no (by decide +kernel) (by decide +kernel) (by decide +kernel) (by decide +kernel) (by decide +kernel)).trans (h.exn _ (by decide +kernel))
abbrev QZ : Stmt := vQ (top 14) 0
abbrev N_Hearer___init__ : List Str := ["self"]
theorem zZZ : FnScope N_Hearer___init__ ["self"] (qZ QZ) := ⟨rfl, rfl, rfl, by decide +kernel, rfl, by decide +kernel, by decide +kernel⟩
theorem ok_Hearer_init {f C : Addr} {fd : FuncData} (F : Fun K "__init__" "Hearer.__init__" QZ f fd) (TC : HearC K C) : FnOk P w K mg base CX0 1 f fd ["self"] (spInitH C) := by
 refine F.ok zZZ (fun vs H Q E h => ?_) (fun cdv A outer s H vs Q E hr h => ?_)
 · obtain ⟨p, dx, rfl, _⟩ := h; rfl
 · obtain ⟨p, dx, rfl, hp, qq⟩ := h
   refine ⟨_, (qJ (zv K (pv 0) qG rfl)
     (qJ (zv K (pv 0) (vw as_nil) rfl)
     (qJ (zv K (pv 0) Mq rfl)
     (qJ (zv K (pv 0) Mq rfl)
     (qV (zv K (pv 0) (vw as_nil) rfl)))))), ?_⟩
   have l0 : ([] : List (Str × V)).length = 0 := rfl
   have l1 := YV "next_number" (.int 1) []
   refine ⟨_, rfl, p, C, dx, [], rfl, hp, TC.cl_Hearer, TC.n_next_number, (by show 0 < 1000; decide), ?_⟩
   refine ⟨Nat.zero_le _, fun q hq => ?_⟩
   have npq : p ≠ q := qB qQ hq
   refine ⟨_, rfl, p, C, dx, _, rfl, (by rw [qY npq]; exact qQ), TC.cl_Hearer, TC.n_past, by omega, ?_⟩
   have l2 := YV "past" (.ref q) (putF "next_number" (.int 1) [])
   intro h hh
   have nph : p ≠ h := qB qQ hh
   have nqh : q ≠ h := fun e => by rw [← e, qY npq.symm, qQ] at hh; cases hh
   refine ⟨_, rfl, p, C, dx, _, rfl, (by rw [qY nph]; exact qQ), TC.cl_Hearer, TC.n_held, by omega, ?_⟩
   have l3 := YV "held" (.ref h) (putF "past" (.ref q) (putF "next_number" (.int 1) []))
   intro k hk
   have npk : p ≠ k := qB qQ hk
   have nhk : h ≠ k := fun e => by rw [← e, qY nph.symm, qQ] at hk; cases hk
   have nqk : q ≠ k := fun e => by rw [← e, qY npq.symm, qY nqh, qY npq.symm, qQ] at hk; cases hk
   refine ⟨_, rfl, p, C, dx, _, rfl, (by rw [qY npk]; exact qQ), TC.cl_Hearer, TC.n_known, by omega, ?_⟩
   have l4 := YV "known" (.ref k) (putF "held" (.ref h) (putF "past" (.ref q) (putF "next_number" (.int 1) [])))
   refine ⟨Nat.zero_le _, fun g hg => ?_⟩
   have npg : p ≠ g := qB qQ hg
   have nkg : k ≠ g := fun e => by rw [← e, qY npk.symm, qQ] at hg; cases hg
   have nhg : h ≠ g := fun e => by rw [← e, qY nph.symm, qY nhk, qY nph.symm, qQ] at hg; cases hg
   have nqg : q ≠ g := fun e => by rw [← e, qY npq.symm, qY nqk, qY npq.symm, qY nqh, qY npq.symm, qQ] at hg; cases hg
   refine ⟨_, rfl, p, C, dx, _, rfl, (by rw [qY npg]; exact qQ), TC.cl_Hearer, TC.n_given_up, by omega, ?_⟩
   rw [hF_make]
   have q0 : H q = none := by rw [qY npq.symm] at hq; exact hq
   have h0 : H h = none := by rw [qY nph.symm, qY nqh.symm, qY nph.symm] at hh; exact hh
   have k0 : H k = none := by rw [qY npk.symm, qY nhk.symm, qY npk.symm, qY nqk.symm, qY npk.symm] at hk; exact hk
   have g0 : H g = none := by rw [qY npg.symm, qY nkg.symm, qY npg.symm, qY nhg.symm, qY npg.symm, qY nqg.symm, qY npg.symm] at hg; exact hg
   refine qq ⟨p, q, h, k, g⟩ _ rfl ⟨⟨dx, qQ⟩, ⟨[], ?_, Ms.nil⟩, ⟨[], ?_, .nil⟩, ⟨[], [], ?_, .nil, List.nodup_nil, Nat.le_refl _, (fun m => by simp [hs0])⟩, ?_, nqg, nhk, fun _ _ => rfl, by decide⟩ ⟨fun b o e hb => ?_, fun b xs e => ?_, fun c hc => ?_⟩
   · show upd _ _ _ q = _; rw [qY npq.symm, qY nqg, qY npq.symm, qY nqk, qY npq.symm, qY nqh, qY npq.symm, qQ]
   · show upd _ _ _ h = _; rw [qY nph.symm, qY nhg, qY nph.symm, qY nhk, qY nph.symm, qQ]
   · show upd _ _ _ k = _; rw [qY npk.symm, qY nkg, qY npk.symm, qQ]
   · show upd _ _ _ g = _; rw [qY npg.symm, qQ]; rfl
   · have hb' : b ≠ p := by simpa using hb
     rw [qY hb', qY (qB e g0), qY hb', qY (qB e k0), qY hb', qY (qB e h0), qY hb', qY (qB e q0), qY hb']; exact e
   · have hb' : b ≠ p := zJ e hp (by intro z; cases z)
     rw [qY hb', qY (qB e g0), qY hb', qY (qB e k0), qY hb', qY (qB e h0), qY hb', qY (qB e q0), qY hb']; exact e
   · simp only [HA.fp, List.mem_cons, List.not_mem_nil, or_false] at hc
     rcases hc with rfl | rfl | rfl | rfl | rfl
     · exact .inl (by simp)
     · exact .inr q0
     · exact .inr h0
     · exact .inr k0
     · exact .inr g0
abbrev QV : Stmt := vQ (top 14) 1
abbrev N_Hearer_expects : List Str := ["self"]
theorem QYY : FnScope N_Hearer_expects ["self"] (qZ QV) := ⟨rfl, rfl, rfl, by decide +kernel, rfl, by decide +kernel, by decide +kernel⟩
theorem ok_Hearer_expects {f C : Addr} {fd : FuncData} (F : Fun K "expects" "Hearer.expects" QV f fd) (TC : HearC K C) : FnOk P w K mg base CX0 1 f fd ["self"] (vUZ C) := by
 refine F.ok QYY (fun vs H Q E h => ?_) (fun cdv A outer s0 H vs Q E hr h => ?_)
 · obtain ⟨a, s, ex, rfl, _⟩ := h; rfl
 · obtain ⟨a, s, ex, rfl, hA, q⟩ := h
   refine ⟨_, (qV (qz (vJ K (pv 0) rfl))), ?_⟩
   obtain ⟨dx, h1⟩ := hA.ob
   exact ⟨_, rfl, a.p, C, dx, _, _, rfl, h1, TC.cl_Hearer, TC.n_next_number, Jw, q⟩
abbrev YZ : Stmt := vQ (top 14) 6
abbrev N_Hearer_heard : List Str := ["self"]
theorem sc_Hearer_heard : FnScope N_Hearer_heard ["self"] (qZ YZ) := ⟨rfl, rfl, rfl, by decide +kernel, rfl, by decide +kernel, by decide +kernel⟩
theorem ok_Hearer_heard {f C : Addr} {fd : FuncData} (F : Fun K "heard" "Hearer.heard" YZ f fd) (T : Txt mg) (TC : HearC K C) : FnOk P w K mg base CX0 1 f fd ["self"] (spHeard C) := by
 refine F.ok sc_Hearer_heard (fun vs H Q E h => ?_) (fun cdv A outer s0 H vs Q E hr h => ?_)
 · obtain ⟨a, s, ex, rfl, _⟩ := h; rfl
 · obtain ⟨a, s, ex, rfl, hA, q⟩ := h
   refine ⟨_, (qV (qz (yZY (vVY K) (by rfl) T.b_list PyProof.Rows.boot_list (qU (vJ K (pv 0) rfl) as_nil)))), ?_⟩
   obtain ⟨dx, h1⟩ := hA.ob
   obtain ⟨ys, h2, h3⟩ := hA.pa
   exact ⟨_, rfl, a.p, C, dx, _, _, rfl, h1, TC.cl_Hearer, TC.n_past, hF_past, a.q, ys, rfl, .inl (SqL.ofL h2), fun l hl => q l ys hl (h3.same (Same.new hl))⟩
abbrev zD : Stmt := vQ (top 14) 5
abbrev zUJ : List Str := ["self", "heard"]
theorem sc_Hearer_hear_held : FnScope zUJ ["self"] (qZ zD) := ⟨rfl, rfl, rfl, by decide +kernel, rfl, by decide +kernel, by decide +kernel⟩
theorem hear_mem {s : HS} (d : Diff s.held) : Diff (yM s).held ∧ (yM s).heard.length + (yM s).held.length = s.heard.length + s.held.length ∧ ∀ m, (m ∈ (yM s).heard ∨ m ∈ (yM s).held) ↔ (m ∈ s.heard ∨ m ∈ s.held) := by
 refine (UY (P := fun t => Diff t.held ∧ t.heard.length + t.held.length = s.heard.length + s.held.length ∧ ∀ m, (m ∈ t.heard ∨ m ∈ t.held) ↔ (m ∈ s.heard ∨ m ∈ s.held)) ?_ s ⟨d, rfl, fun _ => Iff.rfl⟩).1
 rintro t m ⟨h1, h2, h3⟩ e
 obtain ⟨hm, hn⟩ := zU e
 refine ⟨Zv h1, ?_, fun x => ?_⟩
 · have := vVJ h1 hm
   show (t.heard ++ [m]).length + (YD t.held m.n).length = _
   rw [List.length_append, List.length_singleton]; omega
 · rw [← h3 x]
   show (x ∈ t.heard ++ [m] ∨ x ∈ YD t.held m.n) ↔ _
   rw [List.mem_append, List.mem_singleton, dropN_mem]
   constructor
   · rintro ((z | rfl) | ⟨z, _⟩)
     · exact .inl z
     · exact .inr hm
     · exact .inr z
   · rintro (z | z)
     · exact .inl (.inl z)
     · by_cases ee : x.n = m.n
       · exact .inl (.inr (h1.eq z hm ee))
       · exact .inr ⟨z, ee⟩
theorem zQJ {f C : Addr} {fd : FuncData} (F : Fun K "hear_held" "Hearer.hear_held" zD f fd) (TC : HearC K C) : FnOk P w K mg base CX0 1 f fd ["self"] (spHear C) := by
 refine F.ok sc_Hearer_hear_held (fun vs H Q E h => ?_) (fun cdv A outer s0 H vs Q E hr h => ?_)
 · obtain ⟨a, s, ex, rfl, _⟩ := h; rfl
 · obtain ⟨a, s, ex, rfl, hA, hd, hsm, q⟩ := h
   refine ⟨_, (qJ (yB (i := 1) sc_Hearer_hear_held.nd rfl (Or.inl rfl) (vw as_nil))
     (qJ (ps_while PassesOwn.never (zZJ (pc_din (yG hr) (vJ K (pv 0) rfl) (vJ K (pv 0) rfl))) (qJ (vY (k_bm K PySem.F.plainAttrs_list PySem.F.slot_list_append PySem.F.type_list_append UQ (pv 1) (zq (vQJ (vJ K (pv 0) rfl) (vJ K (pv 0) rfl) ⟨rfl, rfl, rfl, rfl⟩) YB)))
     (qV (zv K (pv 0) (yz QB (vJ K (pv 0) rfl) qG) rfl))))
     (qJ (vY (k_bm K PySem.F.plainAttrs_list PySem.F.slot_list_extend PySem.F.type_list_extend yYZ (vJ K (pv 0) rfl) (zq (pv 1) YB)))
     (qV (qz (pv 1)))))), ?_⟩
   obtain ⟨npq, nph, npk, npg, nqh, nqk, nqg, nhk, nhg, nkg⟩ := hA.apart
   obtain ⟨⟨dx, h1⟩, ⟨yq, h2, m2⟩, ⟨kh, h3, d3⟩, hkn, h5, _, _, hex, hexl⟩ := id hA
   obtain ⟨hD, hL, hM⟩ := hear_mem hd
   unfold HS.small at hsm
   refine ⟨Nat.zero_le _, fun l hl0 => ?_⟩
   have nl : l ∉ a.fp := hA.free hl0
   have nl' : l ≠ a.p ∧ l ≠ a.q ∧ l ≠ a.h ∧ l ≠ a.k ∧ l ≠ a.g := by simpa [HA.fp] using nl
   have s1 := Same.new (o := .lst []) hl0
   let W : Nat → St → Hp → Prop := fun m σ H' => ∃ (t : HS) (found : List Msg) (fs : List V) (kv : List (Key × V)), m = t.held.length ∧ σ = [some (.ref a.p), some (.ref l)] ∧ yM t = yM s ∧ t.heard = s.heard ++ found ∧ t.lost = s.lost ∧ t.heard.length + t.held.length = s.heard.length + s.held.length ∧
     H' a.p = some (.ins C dx (hF t.next a.q a.h a.k a.g ex)) ∧ H' a.h = some (.dK kv) ∧ DI H' kv t.held ∧ H' l = some (.lst fs) ∧ Ms H' fs found ∧ Diff t.held ∧ Stp [l, a.p, a.h] (upd H l (.lst [])) [l, a.p, a.h] H'
   refine ⟨W, ?_, ?_⟩
   · exact ⟨_, s, [], [], kh, rfl, rfl, rfl, (List.append_nil _).symm, rfl, rfl, s1 _ _ h1, s1 _ _ h3, d3.same s1, qQ, Ms.nil, hd, Stp.refl _ _⟩
   · rintro m σ H' ⟨t, found, fs, kv, rfl, rfl, et, eh, el, esz, g1, g3, gd, gl, gm, gdf, st⟩
     refine ⟨_, rfl, a.p, C, dx, _, _, rfl, g1, TC.cl_Hearer, TC.n_next_number, Jw, _, rfl, a.p, C, dx, _, _, rfl, g1, TC.cl_Hearer, TC.n_held, hF_held, a.h, _, rfl, DGet.k (k := Sum.inl t.next) g3, _, rfl, ?_⟩
     have lfs := gm.len
     have lfo : found.length ≤ 3000 := by have := congrArg List.length eh; rw [List.length_append] at this; omega
     cases e : UB t.held t.next with
     | none =>
       rw [gd.none _ e]
       refine iteF ?_
       have eS : yM s = t := by rw [← et]; exact JB e
       have g2 := st.keep (s1 _ _ h2) (by simp [nl'.2.1.symm, npq.symm, nqh])
       have g5 := st.keep (s1 _ _ h5) (by simp [nl'.2.2.2.2.symm, npg.symm, nhg.symm])
       obtain ⟨kvk, mk, hk1, hk2, hk3, hk4, hk5⟩ := hkn
       have g4 := st.keep (s1 _ _ hk1) (by simp [nl'.2.2.2.1.symm, npk.symm, nhk.symm])
       have m2' := (m2.same s1).step st
       have lyq := m2.len
       refine ⟨_, rfl, a.p, C, dx, _, _, rfl, g1, TC.cl_Hearer, TC.n_past, hF_past, .inl ⟨rfl, _, SqL.ofL g2⟩, _, rfl, a.q, l, yq, fs, rfl, rfl, g2, gl, by rw [sizeLine_eq]; omega, ?_⟩
       have sq := Stp.put (ps := [a.q]) (o := .lst (yq ++ fs)) g2 (fun _ z => by cases z) (by simp)
       refine ⟨_, rfl, ?_⟩
       rw [eS] at q hM hL
       have st' : Stp a.fp H (l :: a.fp) _ := ((Stp.make (ps := a.fp) (o := .lst []) hl0).trans (st.weak (qs := l :: a.fp) (by simp [HA.fp]) (by intro c hc; exact .inr hc))).trans (sq.weak (qs := l :: a.fp) (by simp [HA.fp]) (by intro c hc; exact .inr hc))
       refine q l fs found _ ⟨⟨dx, sq.keep g1 (by simp [npq])⟩, ⟨_, qQ, ?_⟩, ⟨kv, sq.keep g3 (by simp [nqh.symm]), gd.tups sq.tup⟩, ⟨kvk, mk, sq.keep g4 (by simp [nqk.symm]), ((hk2.same s1).tups st.tup).tups sq.tup, hk3, by omega, fun m => (hk5 m).trans (hM m).symm⟩, ?_, nqg, nhk, hex, hexl⟩ eh st' hl0 nl (sq.keep gl (by simp [nl'.2.1])) (gm.step sq)
       · rw [eh]; exact (m2'.step sq).append (gm.step sq)
       · rw [el]; exact sq.keep g5 (by simp [nqg.symm])
     | some m =>
       obtain ⟨c, hv, hc⟩ := gd.some _ e
       obtain ⟨hmm, hmn⟩ := zU e
       rw [hv]
       refine iteT ?_
       refine ⟨fun σ' H2 => ∃ m', m' < t.held.length ∧ W m' σ' H2, fun _ _ z => z, ?body⟩
       case body =>
         refine ⟨_, rfl, .inl ⟨rfl, _, SqL.ofL gl⟩, _, rfl, a.p, C, dx, _, _, rfl, g1, TC.cl_Hearer, TC.n_held, hF_held, a.h, rfl, .inl ⟨kv, .inl g3⟩, _, rfl, a.p, C, dx, _, _, rfl, g1, TC.cl_Hearer, TC.n_next_number, Jw, kv, Sum.inl t.next, .ref c, g3, rfl, hv, ?_⟩
         have sa := Stp.put (ps := [a.h]) (o := .dK (UZ kv (Sum.inl t.next))) g3 (fun _ z => by cases z) (by simp)
         have gl1 := sa.keep gl (by simp [nl'.2.2.1])
         refine ⟨l, fs, .ref c, rfl, rfl, gl1, by rw [sizeLine_eq]; omega, ?_⟩
         have sb := Stp.put (ps := [l]) (o := .lst (fs ++ [.ref c])) gl1 (fun _ z => by cases z) (by simp)
         have g1b := sb.keep (sa.keep g1 (by simp [nph])) (by simp [nl'.1.symm])
         refine ⟨_, rfl, a.p, C, dx, _, _, rfl, g1b, TC.cl_Hearer, TC.n_next_number, Jw, _, _, rfl, rfl, _, rfl, a.p, C, dx, _, rfl, g1b, TC.cl_Hearer, TC.n_next_number, ?_, ?_⟩
         · exact hF_len hexl
         rw [hF_setNext]
         have sc := Stp.put (ps := [a.p]) (o := .ins C dx (hF (t.next + 1) a.q a.h a.k a.g ex)) g1b (fun _ z => by cases z) (by simp)
         have dl := vVJ gdf hmm
         exact ⟨_, dropN_lt hmm, ⟨t.heard ++ [m], YD t.held m.n, t.lost⟩, found ++ [m], fs ++ [.ref c], UZ kv (Sum.inl t.next), rfl, rfl, by rw [← zUQ e]; exact et, by rw [eh, List.append_assoc], el, by show (t.heard ++ [m]).length + (YD t.held m.n).length = _; rw [List.length_append, List.length_singleton]; omega,
           by rw [vVQ]; exact qQ, sc.keep (sb.keep qQ (by simp [nl'.2.2.1.symm])) (by simp [nph.symm]), by rw [hmn]; exact ((gd.drop t.next).tups sa.tup).tups (sb.tup.trans sc.tup), sc.keep qQ (by simp [nl'.1]), (((gm.step sa).step sb).append (Ms.one (sb.tup _ _ (sa.tup _ _ hc)))).step sc, Zv gdf,
           st.trans ((sa.up (by simp)).trans ((sb.up (by simp)).trans (sc.up (by simp))))⟩
abbrev vy : Stmt := vQ (top 14) 4
abbrev yUQ : List Str := ["self", "messages", "fresh", "message", "number"]
theorem sc_Hearer_refuse_others : FnScope yUQ ["self", "messages"] (qZ vy) := ⟨rfl, rfl, rfl, by decide +kernel, rfl, by decide +kernel, by decide +kernel⟩
theorem yYY {f C : Addr} {fd : FuncData} (F : Fun K "refuse_others" "Hearer.refuse_others" vy f fd) (TC : HearC K C) (c_number_of : Callee P w K mg base 1 "number_of" ["message"] (yJQ 0)) : FnOk P w K mg base CX0 2 f fd ["self", "messages"] (zVY C) := by
 refine F.ok sc_Hearer_refuse_others (fun vs H Q E h => ?_) (fun cdv A outer s0 H vs Q E hr h => ?_)
 · obtain ⟨a, s, ex, b, xs, ms, rfl, _⟩ := h; rfl
 · obtain ⟨a, s, ex, b, xs, ms, rfl, hA, hb, hm, hml, hfit, hok, q⟩ := h
   refine ⟨_, (qJ (yB (i := 2) sc_Hearer_refuse_others.nd rfl (Or.inl rfl) Mq)
     (qV (qJJ PassesOwn.never rfl (YG K (pv 1)) (Qz (i := 3) sc_Hearer_refuse_others.nd rfl (Or.inl rfl)) (qJ (yB (i := 4) sc_Hearer_refuse_others.nd rfl (Or.inl rfl) (zB c_number_of (hr.mono (by decide)) (qU (pv 3) as_nil)))
     (qJ (zY (qw (vYQ hr.units) (pe_dget2 (yG hr) (vJ K (pv 0) rfl) (pv 4) (pe_dget2 (yG hr) (pv 2) (pv 4) (pv 3) ⟨rfl, rfl, rfl, rfl⟩) ⟨rfl, rfl, rfl, rfl⟩) (pv 3) (yU _)) (qV ps_never) yv)
     (qV (zY (qw op_ge (pv 4) (vJ K (pv 0) rfl) (yU _)) (qV (Yv (yG hr) (pv 2) (pv 4) (pv 3) rfl)) yv))))))), ?_⟩
   intro f0 hf0
   have s1 := Same.new (o := .dK []) hf0
   have hxl := hm.len
   refine ⟨_, rfl, b, rfl, ⟨xs, SqL.ofL (s1 _ _ hb)⟩, vZJ (K := K) (a := b) (xs := xs) (fun i σ H' => ∃ (o3 o4 : Option V) (kv : List (Key × V)) (fr : List Msg), σ = [some (.ref a.p), some (.ref b), some (.ref f0), o3, o4] ∧ H' f0 = some (.dK kv) ∧ DI H' kv fr ∧ fr.length ≤ i ∧ (∀ x ∈ fr, x ∈ ms) ∧ Same H H')
     ⟨none, none, [], [], rfl, qQ, .nil, Nat.le_refl _, (fun _ z => nomatch z), s1⟩ (fun i σ H' _ ⟨_, _, _, _, _, _, _, _, _, sH⟩ => SqL.ofL (sH _ _ hb)) ?_ ?_⟩
   · rintro i y σ H' hi ⟨o3, o4, kv, fr, rfl, hf, dF, hfl, hfm, sH⟩
     have hil : i < ms.length := by rw [← hxl]; exact (List.getElem?_eq_some_iff.mp hi).1
     obtain ⟨c, ec, hc⟩ := (hm.same sH).get hil
     rw [hi] at ec
     obtain rfl := Option.some.inj ec
     have hmem := List.getElem_mem hil
     generalize ms[i] = m at hc hmem
     refine Qv ?_
     obtain ⟨⟨dx, h1⟩, _, _, ⟨kvk, mk, hk1, hk2, hk3, hk4, hk5⟩, _, _, _, _, _⟩ := hA.same sH
     refine ⟨_, rfl, c, _, _, _, rfl, hc, ?_⟩
     have hv : ∃ c', (valV kvk (Sum.inl m.n)).getD ((valV kv (Sum.inl m.n)).getD (.ref c)) = .ref c' ∧ H' c' = some (mT m) := by
       cases e : UB mk m.n with
       | some x =>
         obtain ⟨c', h1, h2⟩ := hk2.some _ e
         obtain ⟨hx, hn⟩ := zU e
         have : x = m := hfit.1 m hmem x ((hk5 x).mp hx) hn
         rw [h1]; exact ⟨c', rfl, by rw [← this]; exact h2⟩
       | none =>
         rw [hk2.none _ e]
         cases e' : UB fr m.n with
         | some x =>
           obtain ⟨c', h1, h2⟩ := dF.some _ e'
           obtain ⟨hx, hn⟩ := zU e'
           have : x = m := hfit.2 m hmem x (hfm x hx) hn
           rw [h1]; exact ⟨c', rfl, by rw [← this]; exact h2⟩
         | none => rw [dF.none _ e']; exact ⟨c, rfl, hc⟩
     obtain ⟨c', ev, hc'⟩ := hv
     refine ⟨_, rfl, a.p, C, dx, _, _, rfl, h1, TC.cl_Hearer, TC.n_known, hF_known, a.k, rfl, .inl ⟨kvk, .inl hk1⟩, _, rfl, _, rfl, f0, rfl, .inl ⟨kv, .inl hf⟩, _, rfl, _, rfl, _, DGet.k (k := Sum.inl m.n) hf, _, DGet.k (k := Sum.inl m.n) hk1, ?_⟩
     rw [ev]
     refine ⟨_, rfl, ne_D (Mv hc') (Mv hc) (shaped_m (hok m hmem)) ⟨_, rfl, iteF ?_⟩⟩
     refine ⟨_, rfl, _, rfl, a.p, C, dx, _, _, rfl, h1, TC.cl_Hearer, TC.n_next_number, Jw, _, _, rfl, rfl, _, rfl, ?_⟩
     refine ite2 (fun hz => ?_) (fun hz => ?_)
     · refine ⟨_, rfl, _, rfl, _, rfl, f0, _, rfl, DPut.k (k := Sum.inl m.n) hf (by rw [dF.len, sizeLine_eq]; omega), ?_⟩
       have st := Stp.put (ps := [f0]) (o := .dK (putK kv (Sum.inl m.n) (.ref c))) hf (fun _ z => by cases z) (by simp)
       have hpl : (putM fr m).length ≤ fr.length + 1 := putM_len
       refine ⟨_, _, _, putM fr m, rfl, qQ, (dF.put (Mv hc)).tups st.tup, by omega, fun x hx => ?_, fun z o hz => st.keep (sH z o hz) (by simp [qB hz hf0])⟩
       rcases (UV (fun y hy e => hfit.2 m hmem y (hfm y hy) e)).mp hx with z | rfl
       · exact hfm x z
       · exact hmem
     · exact ⟨_, _, kv, fr, rfl, hf, dF, by omega, hfm, sH⟩
   · rintro σ H' ⟨o3, o4, kv, fr, rfl, hf, dF, hfl, hfm, sH⟩
     exact q _ sH
abbrev QY : Stmt := vQ (top 14) 3
abbrev N_Hearer_take_all : List Str := ["self", "messages", "message", "number"]
theorem sc_Hearer_take_all : FnScope N_Hearer_take_all ["self", "messages"] (qZ QY) := ⟨rfl, rfl, rfl, by decide +kernel, rfl, by decide +kernel, by decide +kernel⟩
theorem fits_adds {s : HS} {ms : List Msg} (hf : Fits s ms) (i : Nat) : ∀ x, x ∈ ((ms.take i).foldl addS s).held → x ∈ s.held ∨ x ∈ ms := by
 induction i with
 | zero => intro x hx; exact .inl hx
 | succ i ih =>
   intro x hx
   by_cases hi : i < ms.length
   · rw [List.take_add_one, List.getElem?_eq_getElem hi, List.foldl_append] at hx
     have hx' : x ∈ (addS ((ms.take i).foldl addS s) ms[i]).held := hx
     unfold addS at hx'
     split at hx'
     · have hpp : ∀ y ∈ ((ms.take i).foldl addS s).held, y.n = ms[i].n → y = ms[i] := fun y hy e => by
         rcases ih y hy with w | w
         · exact hf.1 _ (List.getElem_mem hi) y (.inr w) e
         · exact hf.2 _ (List.getElem_mem hi) y w e
       rcases (UV hpp).mp hx' with z | z
       · exact ih x z
       · exact .inr (by rw [z]; exact List.getElem_mem hi)
     · exact ih x hx'
   · rw [List.take_of_length_le (by omega)] at hx
     rw [List.take_of_length_le (by omega)] at ih
     exact ih x hx
theorem zJY {f C : Addr} {fd : FuncData} (F : Fun K "take_all" "Hearer.take_all" QY f fd) (TC : HearC K C) (c_number_of : Callee P w K mg base 1 "number_of" ["message"] (yJQ 0)) (m_refuse_others : CalleeM P w K mg base 2 C "refuse_others" ["self", "messages"] (zVY C)) (m_hear_held : CalleeM P w K mg base 1 C "hear_held" ["self"] (spHear C)) : FnOk P w K mg base CX0 3 f fd ["self", "messages"] (vUQ C) := by
 refine F.ok sc_Hearer_take_all (fun vs H Q E h => ?_) (fun cdv A outer s0 H vs Q E hr h => ?_)
 · obtain ⟨a, s, ex, b, xs, ms, rfl, _⟩ := h; rfl
 · obtain ⟨a, s, ex, b, xs, ms, rfl, hA, hb, hm, hml, hfit, hok, hd, hsz, q⟩ := h
   refine ⟨_, (qJ (vY (Qw m_refuse_others TC.cl_Hearer (hr.mono (by decide)) (pv 0) (qU (pv 1) as_nil)))
     (qJ (qJJ PassesOwn.never rfl (YG K (pv 1)) (Qz (i := 2) sc_Hearer_take_all.nd rfl (Or.inl rfl)) (qJ (yB (i := 3) sc_Hearer_take_all.nd rfl (Or.inl rfl) (zB c_number_of (hr.mono (by decide)) (qU (pv 2) as_nil)))
     (qV (zY (qw op_ge (pv 3) (vJ K (pv 0) rfl) (yU _)) (qJ (Yv (yG hr) (vJ K (pv 0) rfl) (pv 3) (pv 2) rfl)
     (qV (Yv (yG hr) (vJ K (pv 0) rfl) (pv 3) (pv 2) rfl))) yv))))
     (qV (qz (zz m_hear_held TC.cl_Hearer (hr.mono (by decide)) (pv 0)))))), ?_⟩
   obtain ⟨dx, h1⟩ := hA.ob
   have hxl := hm.len
   refine ⟨_, rfl, a.p, dx, _, rfl, h1, no_h hA (.inr (.inr (.inr (.inl rfl)))), _, rfl, a, s, ex, b, xs, ms, rfl, hA, hb, hm, hml, hfit, hok, fun H1 s1 => ?_⟩
   refine ⟨_, rfl, b, rfl, ⟨xs, SqL.ofL (s1 _ _ hb)⟩, vZJ (K := K) (a := b) (xs := xs) (fun i σ H' => ∃ (o2 o3 : Option V), σ = [some (.ref a.p), some (.ref b), o2, o3] ∧ HAt C H' a ((ms.take i).foldl addS s) ex ∧ Diff ((ms.take i).foldl addS s).held ∧ ((ms.take i).foldl addS s).held.length ≤ s.held.length + i ∧ Stp [a.h, a.k] H [a.h, a.k] H')
     ⟨none, none, rfl, hA.same s1, hd, Nat.le_refl _, s1.step _⟩ (fun i σ H' _ ⟨_, _, _, _, _, _, st⟩ => SqL.ofL (st.keep hb ?nb)) ?_ ?_⟩
   case nb =>
     obtain ⟨kvs, h3, _⟩ := hA.he
     obtain ⟨kvs', _, h4, _⟩ := hA.kn
     simp [zJ hb h3 (by intro z; cases z), zJ hb h4 (by intro z; cases z)]
   · rintro i y σ H' hi ⟨o2, o3, rfl, hA', hd', hl', st⟩
     have hil : i < ms.length := by rw [← hxl]; exact (List.getElem?_eq_some_iff.mp hi).1
     obtain ⟨c, ec, hc⟩ := (hm.step st).get hil
     rw [hi] at ec
     obtain rfl := Option.some.inj ec
     have hmem := List.getElem_mem hil
     have enx := adds_next (ms.take i) s
     have ehd := yJJ (ms.take i) s
     have hfa := fits_adds hfit i
     rw [List.take_add_one, List.getElem?_eq_getElem hil, List.foldl_append]
     show gName _ _ _ _ _
     generalize ms[i] = m at hc hmem ⊢
     generalize (ms.take i).foldl addS s = t at hA' hd' hl' enx ehd hfa ⊢
     refine Qv ?_
     obtain ⟨npq, nph, npk, npg, nqh, nqk, nqg, nhk, nhg, nkg⟩ := hA'.apart
     obtain ⟨⟨dx', g1⟩, ⟨yq, g2, m2⟩, ⟨kh, g3, d3⟩, ⟨kvk, mk, g4, d4, hk3, hk4, hk5⟩, g5, _, _, hex, hexl⟩ := id hA'
     refine ⟨_, rfl, c, _, _, _, rfl, hc, ?_⟩
     refine ⟨_, rfl, _, rfl, a.p, C, dx', _, _, rfl, g1, TC.cl_Hearer, TC.n_next_number, Jw, _, _, rfl, rfl, _, rfl, ?_⟩
     have hsh : ∀ x ∈ t.held, x.n = m.n → x = m := fun x hx e => by
       rcases hfa x hx with z | z
       · exact hfit.1 m hmem x (.inr z) e
       · exact hfit.2 m hmem x z e
     have hsk : ∀ x ∈ mk, x.n = m.n → x = m := fun x hx e => by
       rcases (hk5 x).mp hx with z | z
       · exact hfit.1 m hmem x (.inl (ehd ▸ z)) e
       · exact hsh x z e
     refine ite2 (fun hz => ?_) (fun hz => ?_)
     · have hz' : m.n ≥ t.next := of_decide_eq_true hz
       have eA : (some m).toList.foldl addS t = ⟨t.heard, putM t.held m, t.lost⟩ := by show addS t m = _; unfold addS; rw [if_pos hz']
       refine ⟨_, rfl, _, rfl, a.p, C, dx', _, _, rfl, g1, TC.cl_Hearer, TC.n_held, hF_held, _, rfl, a.h, _, rfl, DPut.k (k := Sum.inl m.n) g3 (by rw [d3.len, sizeLine_eq]; omega), ?_⟩
       have sa := Stp.put (ps := [a.h]) (o := .dK (putK kh (Sum.inl m.n) (.ref c))) g3 (fun _ z => by cases z) (by simp)
       have g1a := sa.keep g1 (by simp [nph])
       have g4a := sa.keep g4 (by simp [nhk.symm])
       have hml2 : mk.length < 3000 := by
         have h2 := congrArg List.length ehd
         omega
       refine ⟨_, rfl, _, rfl, a.p, C, dx', _, _, rfl, g1a, TC.cl_Hearer, TC.n_known, hF_known, _, rfl, a.k, _, rfl, DPut.k (k := Sum.inl m.n) g4a (by rw [d4.len, sizeLine_eq]; omega), ?_⟩
       have sb := Stp.put (ps := [a.k]) (o := .dK (putK kvk (Sum.inl m.n) (.ref c))) g4a (fun _ z => by cases z) (by simp)
       have sab : Stp [a.h, a.k] H' [a.h, a.k] _ := (sa.up (by simp)).trans (sb.up (by simp))
       have hpl : (putM t.held m).length ≤ t.held.length + 1 := putM_len
       have hcb := sab.tup _ _ hc
       rw [eA]
       refine ⟨_, _, rfl, ⟨⟨dx', sab.keep g1 (by simp [nph, npk])⟩, ⟨yq, sab.keep g2 (by simp [nqh, nqk]), m2.step sab⟩, ⟨_, sb.keep qQ (by simp [nhk]), (d3.tups sab.tup).put (Mv hcb)⟩, ⟨_, putM mk m, qQ, (d4.tups sab.tup).put (Mv hcb), qYY hsk hk3, ?_, fun x => ?_⟩, sab.keep g5 (by simp [nhg.symm, nkg.symm]), nqg, nhk, hex, hexl⟩, qYY hsh hd', by show (putM t.held m).length ≤ _; omega, st.trans sab⟩
       · show (putM mk m).length ≤ t.heard.length + (putM t.held m).length
         rcases yQJ hsk with ⟨h, e⟩ | ⟨h, e⟩
         · rw [e]
           rcases yQJ hsh with ⟨_, e'⟩ | ⟨_, e'⟩
           · rw [e']; exact hk4
           · rw [e', List.length_append]; show _ ≤ _ + (_ + 1); omega
         · rw [e]
           rcases yQJ hsh with ⟨h', e'⟩ | ⟨_, e'⟩
           · exact absurd rfl (h m ((hk5 m).mpr (.inr h')))
           · rw [e', List.length_append, List.length_append]; show _ + 1 ≤ _ + (_ + 1); omega
       · rw [UV hsk, hk5 x]
         show _ ↔ x ∈ t.heard ∨ x ∈ putM t.held m
         rw [UV hsh]
         constructor
         · rintro ((z | z) | z)
           · exact .inl z
           · exact .inr (.inl z)
           · exact .inr (.inr z)
         · rintro (z | z | z)
           · exact .inl (.inl z)
           · exact .inl (.inr z)
           · exact .inr z
     · have hz' : ¬ m.n ≥ t.next := fun z => hz (decide_eq_true z)
       have eA : (some m).toList.foldl addS t = t := by show addS t m = _; unfold addS; rw [if_neg hz']
       rw [eA]
       exact ⟨_, _, rfl, hA', hd', by omega, st⟩
   · rintro σ H' ⟨o2, o3, rfl, hA', hd', hl', st⟩
     rw [hxl, List.take_length] at hA' hd' hl'
     obtain ⟨dx', g1⟩ := hA'.ob
     have e1 := yJJ ms s
     have e2 := zQZ ms s
     refine ⟨_, rfl, a.p, dx', _, rfl, g1, no_h hA' (.inr (.inr (.inr (.inr (.inl rfl))))), a, _, ex, rfl, hA', hd', by unfold HS.small; rw [e1, e2]; omega, fun l ys found H2 hA2 eh st2 hl0 nl el ml => ?_⟩
     rw [e1] at eh
     refine q l ys found H2 hA2 eh ((st.weak (qs := a.fp) (qs' := a.fp) (by simp [HA.fp]) (fun _ z => .inr z)).trans st2) ?_ nl el ml
     rcases (st.free' hl0) with z | z
     · exact absurd (show l ∈ a.fp by simp only [List.mem_cons, List.not_mem_nil, or_false] at z; rcases z with rfl | rfl <;> simp [HA.fp]) nl
     · exact z
abbrev ZU : Stmt := vQ (top 14) 9
abbrev N_Hearer_lost : List Str := ["self"]
theorem sc_Hearer_lost : FnScope N_Hearer_lost ["self"] (qZ ZU) := ⟨rfl, rfl, rfl, by decide +kernel, rfl, by decide +kernel, by decide +kernel⟩
theorem ok_Hearer_lost {f C : Addr} {fd : FuncData} (F : Fun K "lost" "Hearer.lost" ZU f fd) (T : Txt mg) (TC : HearC K C) : FnOk P w K mg base CX0 1 f fd ["self"] (spLost C) := by
 refine F.ok sc_Hearer_lost (fun vs H Q E h => ?_) (fun cdv A outer s0 H vs Q E hr h => ?_)
 · obtain ⟨a, s, ex, rfl, _⟩ := h; rfl
 · obtain ⟨a, s, ex, rfl, hA, q⟩ := h
   refine ⟨_, (qV (qz (yZY (vVY K) (by rfl) T.b_list PyProof.Rows.boot_list (qU (vJ K (pv 0) rfl) as_nil)))), ?_⟩
   obtain ⟨dx, h1⟩ := hA.ob
   exact ⟨_, rfl, a.p, C, dx, _, _, rfl, h1, TC.cl_Hearer, TC.n_given_up, hF_given, a.g, _, rfl, .inl (SqL.ofL hA.lo), fun l hl => q l hl⟩
abbrev QU : Stmt := vQ (top 14) 10
abbrev N_Hearer_give_up : List Str := ["self", "number", "heard"]
theorem sc_Hearer_give_up : FnScope N_Hearer_give_up ["self", "number"] (qZ QU) := ⟨rfl, rfl, rfl, by decide +kernel, rfl, by decide +kernel, by decide +kernel⟩
theorem ok_Hearer_give_up {f C : Addr} {fd : FuncData} (F : Fun K "give_up" "Hearer.give_up" QU f fd) (TC : HearC K C) (m_hear_held : CalleeM P w K mg base 1 C "hear_held" ["self"] (spHear C)) : FnOk P w K mg base CX0 2 f fd ["self", "number"] (spGive C) := by
 refine F.ok sc_Hearer_give_up (fun vs H Q E h => ?_) (fun cdv A outer s0 H vs Q E hr h => ?_)
 · obtain ⟨a, s, ex, n, rfl, _⟩ := h; rfl
 · obtain ⟨a, s, ex, n, rfl, hA, hd, hsm, hsl, hn, q⟩ := h
   refine ⟨_, (qJ (yB (i := 2) sc_Hearer_give_up.nd rfl (Or.inl rfl) (vw as_nil))
     (qJ (ps_while PassesOwn.never (qw op_lt (vJ K (pv 0) rfl) (pv 1) (yU _)) (qJ (vY (k_bm K PySem.F.plainAttrs_list PySem.F.slot_list_append PySem.F.type_list_append UQ (vJ K (pv 0) rfl) (zq (vJ K (pv 0) rfl) YB)))
     (qJ (zv K (pv 0) (yz QB (vJ K (pv 0) rfl) qG) rfl)
     (qV (vY (k_bm K PySem.F.plainAttrs_list PySem.F.slot_list_extend PySem.F.type_list_extend yYZ (pv 2) (zq (zz m_hear_held TC.cl_Hearer (hr.mono (by decide)) (pv 0)) YB)))))))
     (qV (qz (pv 2))))), ?_⟩
   refine ⟨Nat.zero_le _, fun l hl0 => ?_⟩
   have nl : l ∉ a.fp := hA.free hl0
   have s1 := Same.new (o := .lst []) hl0
   let W : Nat → St → Hp → Prop := fun m σ H' => ∃ (t : HS) (found : List Msg) (fs : List V), m = (n - t.next).toNat ∧ σ = [some (.ref a.p), some (.int n), some (.ref l)] ∧ vv n t = vv n s ∧ t.heard = s.heard ++ found ∧ t.heard.length + t.held.length = s.heard.length + s.held.length ∧ t.lost.length ≤ 500 ∧ Diff t.held ∧
     HAt C H' a t ex ∧ H' l = some (.lst fs) ∧ Ms H' fs found ∧ Stp a.fp H (l :: a.fp) H'
   refine ⟨W, ?_, ?_⟩
   · exact ⟨_, s, [], [], rfl, rfl, rfl, (List.append_nil _).symm, rfl, by omega, hd, hA.same s1, qQ, Ms.nil, Stp.make hl0⟩
   · rintro m σ H' ⟨t, found, fs, rfl, rfl, et, eh, esz, hlo, hdt, hAt, gl, gm, st⟩
     obtain ⟨npq, nph, npk, npg, nqh, nqk, nqg, nhk, nhg, nkg⟩ := hAt.apart
     obtain ⟨⟨dx, g1⟩, ⟨yq, g2, m2⟩, ⟨kh, g3, d3⟩, ⟨kvk, mk, g4, d4, hk3, hk4, hk5⟩, g5, _, _, hex, hexl⟩ := id hAt
     have nl' : l ≠ a.p ∧ l ≠ a.q ∧ l ≠ a.h ∧ l ≠ a.k ∧ l ≠ a.g := by simpa [HA.fp] using nl
     have hnx : t.next = (t.heard.length : Int) + (t.lost.length : Int) + 1 := rfl
     have hlf := congrArg List.length eh
     rw [List.length_append] at hlf
     refine ⟨_, rfl, a.p, C, dx, _, _, rfl, g1, TC.cl_Hearer, TC.n_next_number, Jw, _, rfl, _, _, rfl, rfl, _, rfl, ?_⟩
     refine ite2 (fun hz => ?_) (fun hz => ?_)
     · have hz' : t.next < n := of_decide_eq_true hz
       refine ⟨fun σ' H2 => ∃ m', m' < (n - t.next).toNat ∧ W m' σ' H2, fun _ _ z => z, ?_⟩
       refine ⟨_, rfl, a.p, C, dx, _, _, rfl, g1, TC.cl_Hearer, TC.n_given_up, hF_given, .inl ⟨rfl, _, SqL.ofL g5⟩, _, rfl, a.p, C, dx, _, _, rfl, g1, TC.cl_Hearer, TC.n_next_number, Jw, a.g, _, _, rfl, rfl, g5, by rw [List.length_map, sizeLine_eq]; omega, ?_⟩
       have sa := Stp.put (ps := [a.g]) (o := .lst (t.lost.map V.int ++ [.int t.next])) g5 (fun _ z => by cases z) (by simp)
       have g1a := sa.keep g1 (by simp [npg])
       refine ⟨_, rfl, a.p, C, dx, _, _, rfl, g1a, TC.cl_Hearer, TC.n_next_number, Jw, _, _, rfl, rfl, _, rfl, a.p, C, dx, _, rfl, g1a, TC.cl_Hearer, TC.n_next_number, hF_len hexl, ?_⟩
       rw [hF_setNext]
       have sb := Stp.put (ps := [a.p]) (o := .ins C dx (hF (t.next + 1) a.q a.h a.k a.g ex)) g1a (fun _ z => by cases z) (by simp)
       have sab : Stp [a.p, a.g] H' [a.p, a.g] _ := (sa.up (by simp)).trans (sb.up (by simp))
       have hAb : HAt C _ a (lose t) ex := ⟨⟨dx, by rw [ZB]; exact qQ⟩, ⟨yq, sab.keep g2 (by simp [npq.symm, nqg]), m2.step sab⟩, ⟨kh, sab.keep g3 (by simp [nph.symm, nhg]), d3.tups sab.tup⟩, ⟨kvk, mk, sab.keep g4 (by simp [npk.symm, nkg]), d4.tups sab.tup, hk3, hk4, hk5⟩, by rw [sb.keep qQ (by simp [npg.symm])]; show _ = some (HO.lst ((t.lost ++ [t.next]).map V.int)); rw [List.map_append]; rfl, nqg, nhk, hex, hexl⟩
       have glb := sab.keep gl (by simp [nl'.1, nl'.2.2.2.2])
       have gmb := gm.step sab
       have stb : Stp a.fp H (l :: a.fp) _ := st.trans (sab.weak (by simp [HA.fp]) (fun _ z => .inr z))
       generalize upd (upd H' a.g (.lst (t.lost.map V.int ++ [.int t.next]))) a.p (.ins C dx (hF (t.next + 1) a.q a.h a.k a.g ex)) = Hb at hAb glb gmb stb ⊢
       obtain ⟨dxb, gb1⟩ := hAb.ob
       have hdl : Diff (lose t).held := hdt
       obtain ⟨hD, hL, hM⟩ := hear_mem hdl
       refine ⟨_, rfl, .inl ⟨rfl, _, SqL.ofL glb⟩, _, rfl, a.p, dxb, _, rfl, gb1, no_h hAb (.inr (.inr (.inr (.inr (.inl rfl))))), a, _, ex, rfl, hAb, hdl, ?_, fun l2 y2 fo2 H2 hA2 eh2 st2 hl2 nl2 el2 ml2 => ?_⟩
       · unfold HS.small
         show t.heard.length + t.held.length + (t.lost ++ [t.next]).length < 3000
         rw [List.length_append]; show _ + (_ + 1) < _
         omega
       have gl2 := st2.keep glb nl
       have eh2' : (yM (lose t)).heard = s.heard ++ (found ++ fo2) := by rw [eh2, ← List.append_assoc, ← eh]; rfl
       have hlf2 := congrArg List.length eh2'
       rw [List.length_append, List.length_append] at hlf2
       have hLt : (yM (lose t)).heard.length + (yM (lose t)).held.length = t.heard.length + t.held.length := hL
       refine ⟨l, l2, fs, y2, rfl, rfl, gl2, el2, by rw [sizeLine_eq, gm.len, ml2.len]; omega, ?_⟩
       have sc := Stp.put (ps := [l]) (o := .lst (fs ++ y2)) gl2 (fun _ z => by cases z) (by simp)
       have hnx2 := Yz (lose t)
       rw [ZB] at hnx2
       have elost := yJZ (lose t)
       have ell : (yM (lose t)).lost.length = t.lost.length + 1 := by rw [elost]; show (t.lost ++ [t.next]).length = _; rw [List.length_append]; rfl
       have hnx3 : (yM (lose t)).next = ((yM (lose t)).heard.length : Int) + ((yM (lose t)).lost.length : Int) + 1 := rfl
       refine ⟨_, by omega, yM (lose t), found ++ fo2, fs ++ y2, rfl, rfl, by rw [← giveS_lt hz']; exact et, eh2', by omega, by omega, hD, hA2.step sc (fun c hc z => nl (by rw [List.mem_singleton] at z; rw [← z]; exact hc)), qQ, ((gmb.step st2).append ml2).step sc, ?_⟩
       exact (stb.trans (st2.weak (qs := l :: a.fp) (qs' := l :: a.fp) (fun c hc => List.mem_cons_of_mem _ hc) (fun _ z => .inr z))).trans (sc.up (by simp))
     · have hz' : ¬ t.next < n := fun z => hz (decide_eq_true z)
       have eS : vv n s = t := by rw [← et]; exact vZZ hz'
       rw [eS] at q
       exact ⟨_, rfl, q l fs found _ hAt eh st hl0 nl gl gm⟩
abbrev MQ : Stmt := top 15
abbrev N_caught_up : List Str := ["teller", "hearer", "found", "lost_ahead", "heard"]
theorem sc_caught_up : FnScope N_caught_up ["teller", "hearer"] (qZ MQ) := ⟨rfl, rfl, rfl, by decide +kernel, rfl, by decide +kernel, by decide +kernel⟩
theorem no_t {k r n : Int} {s d : Addr} {f : Str} (h : f = "tell" ∨ f = "told" ∨ f = "kept" ∨ f = "oldest" ∨ f = "last" ∨ f = "mark" ∨ f = "behind") : (tF k r n s d).lookup f = none := by
 rcases h with rfl | rfl | rfl | rfl | rfl | rfl | rfl <;> exact tF_no (by decide +kernel) (by decide +kernel) (by decide +kernel) (by decide +kernel) (by decide +kernel)
theorem ok_caught_up {f C CH : Addr} {fd : FuncData} (F : Fun K "caught_up" "caught_up" MQ f fd) (T : Txt mg) (TC : TxtC K mg C CH)
   (m_behind : CalleeM P w K mg base 3 C "behind" ["self", "number", "topics"] (spBehind K C)) (m_oldest : CalleeM P w K mg base 1 C "oldest" ["self"] (zVZ C))
   (m_expects : CalleeM P w K mg base 1 CH "expects" ["self"] (vUZ CH)) (m_refuse_others : CalleeM P w K mg base 2 CH "refuse_others" ["self", "messages"] (zVY CH)) (m_lost : CalleeM P w K mg base 1 CH "lost" ["self"] (spLost CH)) (m_give_up : CalleeM P w K mg base 2 CH "give_up" ["self", "number"] (spGive CH)) (m_take_all : CalleeM P w K mg base 3 CH "take_all" ["self", "messages"] (vUQ CH)) :
   FnOk P w K mg base CX0 4 f fd ["teller", "hearer"] (spCaughtN C CH) := by
 refine F.ok sc_caught_up (fun vs H Q E h => ?_) (fun cdv A outer s0 H vs Q E hr h => ?_)
 · obtain ⟨tp, a, k, r, all, sd, d, hs, rfl, _⟩ := h; rfl
 · obtain ⟨tp, a, k, r, all, sd, d, hs, rfl, TA, hH, dis, hk, hR, hal, hok, hw, hnx, hsz, q⟩ := h
   have m_Hearer_lost := m_lost
   refine ⟨_, (qJ (yB (i := 2) sc_caught_up.nd rfl (Or.inl rfl) (Qw m_behind TC.cl_Teller (hr.mono (by decide)) (pv 0) (qU (yz Jz (zz m_expects TC.cl_Hearer (hr.mono (by decide)) (pv 1)) qG) (qM pe_non as_nil))))
     (qJ (vY (Qw m_refuse_others TC.cl_Hearer (hr.mono (by decide)) (pv 1) (qU (qZQ (UM K) (pv 2) qG (fun _ _ => rfl)) as_nil)))
     (qJ (yB (i := 3) sc_caught_up.nd rfl (Or.inl rfl) (yJ (vU K) (by rfl) T.b_len PySem.boot_len (qU (zz m_Hearer_lost TC.cl_Hearer (hr.mono (by decide)) (pv 1)) as_nil)))
     (qJ (yB (i := 4) sc_caught_up.nd rfl (Or.inl rfl) (vw as_nil))
     (pss_cut (zY (qw op_gt (qZQ (UM K) (pv 2) qG (fun _ _ => rfl)) qG (yU _)) (qV (vY (k_bm K PySem.F.plainAttrs_list PySem.F.slot_list_extend PySem.F.type_list_extend yYZ (pv 4) (zq (Qw m_give_up TC.cl_Hearer (hr.mono (by decide)) (pv 1) (qU (zz m_oldest TC.cl_Teller (hr.mono (by decide)) (pv 0)) as_nil)) YB)))) yv)
     (qJ (vY (k_bm K PySem.F.plainAttrs_list PySem.F.slot_list_extend PySem.F.type_list_extend yYZ (pv 4) (zq (Qw m_take_all TC.cl_Hearer (hr.mono (by decide)) (pv 1) (qU (qZQ (UM K) (pv 2) qG (fun _ _ => rfl)) as_nil)) YB)))
     (qV (qz (Zz (qM (pv 4) (qM (yz Jz (yJ (vU K) (by rfl) T.b_len PySem.boot_len (qU (zz m_Hearer_lost TC.cl_Hearer (hr.mono (by decide)) (pv 1)) as_nil)) (pv 3)) as_nil))))))))))), ?_⟩
   obtain ⟨dA, hA0⟩ := TA.ob
   obtain ⟨dh, h1⟩ := hH.ob
   have hp := hs.next_pos
   have hll := JM k all
   have hnl : hs.next = (hs.heard.length : Int) + (hs.lost.length : Int) + 1 := rfl
   refine ⟨_, rfl, tp, dA, _, rfl, hA0, no_t (.inr (.inr (.inr (.inr (.inr (.inr rfl)))))), _, rfl, a.p, dh, _, rfl, h1, no_h hH (.inl rfl), a, hs, [], rfl, hH, _, _, rfl, rfl, tp, hs.next - 1, .non, none, k, r, all, sd, d, rfl, TA, by omega, by omega, by omega, .inl ⟨rfl, rfl⟩, fun q0 l0 y0 H1 s1 nq0 nl0 e0 el0 m0 => ?_⟩
   generalize hfnd : ofT none ((vZ k all).filter fun m => decide (m.n > hs.next - 1)) = fnd at m0
   have efnd : (vZ k all).filter (fun m => decide (m.n > hs.next - 1)) = fnd := hfnd
   have hfR : ∀ m ∈ fnd, m ∈ all := fun m hm => by rw [← efnd] at hm; exact List.mem_of_mem_drop (List.mem_filter.mp hm).1
   have lfn : fnd.length < 60 := by rw [← efnd]; have := List.length_filter_le (fun m : Msg => decide (m.n > hs.next - 1)) (vZ k all); omega
   refine ⟨_, rfl, a.p, dh, _, rfl, s1 _ _ h1, no_h hH (.inr (.inr (.inr (.inl rfl)))), _, rfl, q0, _, 0, _, rfl, rfl, SqT.ofT e0, rfl, a, hs, [], l0, y0, fnd, rfl, hH.same s1, el0, m0, by omega, hw.toHw0.fits hR hfR, (fun m hm => hok m (hfR m hm)), fun H2 s2 => ?_⟩
   have t2 := s1.trans s2
   refine ⟨_, rfl, a.p, dh, _, rfl, t2 _ _ h1, no_h hH (.inr (.inr (.inr (.inr (.inr (.inr (.inr (.inr (.inl rfl))))))))), a, hs, [], rfl, hH.same t2, fun l1 n1 => ⟨l1, _, rfl, .inl (SqL.ofL qQ), ?_⟩⟩
   have t3 := t2.trans (Same.new (o := .lst (hs.lost.map V.int)) n1)
   refine ⟨Nat.zero_le _, fun lh nlh => ?_⟩
   have t4 := t3.trans (Same.new (o := .lst []) nlh)
   have elh := qQ (H := upd H2 l1 (.lst (hs.lost.map V.int))) (a := lh) (o := .lst [])
   have nlh0 : H lh = none := t3.free nlh
   have oq0 : q0 ∉ a.fp := hH.free nq0
   have ol0 : l0 ∉ a.fp := hH.free nl0
   have olh : lh ∉ a.fp := hH.free nlh0
   have s24 : Same H1 _ := s2.trans ((Same.new (o := .lst (hs.lost.map V.int)) n1).trans (Same.new (o := .lst []) nlh))
   have e0' := s24 _ _ e0
   have el0' := s24 _ _ el0
   have m0' := m0.same s24
   generalize upd (upd H2 l1 (.lst (hs.lost.map V.int))) lh (.lst []) = H4 at t4 elh e0' el0' m0' ⊢
   have nlq : lh ≠ q0 := by
     intro z
     rw [z] at nlh
     have := ((s2.trans (Same.new (o := .lst (hs.lost.map V.int)) n1)) _ _ e0)
     rw [nlh] at this; cases this
   have nll : lh ≠ l0 := by
     intro z
     rw [z] at nlh
     have := ((s2.trans (Same.new (o := .lst (hs.lost.map V.int)) n1)) _ _ el0)
     rw [nlh] at this; cases this
   have elen : ((hs.lost.map V.int).length : Int) = (hs.lost.length : Int) := by rw [List.length_map]
   refine ⟨fun σ H' => ∃ (fo1 : List Msg) (ys1 : List V), σ = [some (.ref tp), some (.ref a.p), some (.ref q0), some (.int ((hs.lost.map V.int).length : Int)), some (.ref lh)] ∧ HAt CH H' a (if QM k (hs.next - 1) all > 0 then vv ((all.length : Int) - ((vZ k all).length : Int) + 1) hs else hs) [] ∧
     (if QM k (hs.next - 1) all > 0 then vv ((all.length : Int) - ((vZ k all).length : Int) + 1) hs else hs).heard = hs.heard ++ fo1 ∧ H' lh = some (.lst ys1) ∧ Ms H' ys1 fo1 ∧ Stp a.fp H a.fp H' ∧ H' q0 = some (.tup [.ref l0, .int (QM k (hs.next - 1) all)]) ∧ H' l0 = some (.lst y0) ∧ Ms H' y0 fnd, ?_, ?_⟩
   case refine_2 =>
     refine ⟨_, rfl, q0, _, 1, _, rfl, rfl, SqT.ofT e0', rfl, _, _, rfl, rfl, _, rfl, ?_⟩
     refine ite2 (fun hz => ?_) (fun hz => ?_)
     · have hz' : QM k (hs.next - 1) all > 0 := of_decide_eq_true hz
       rw [if_pos hz']
       have h14 := t4 _ _ h1
       refine ⟨_, rfl, .inl ⟨rfl, _, SqL.ofL elh⟩, _, rfl, a.p, dh, _, rfl, h14, no_h hH (.inr (.inr (.inr (.inr (.inr (.inr (.inr (.inr (.inr (.inl rfl)))))))))), _, rfl, tp, dA, _, rfl, t4 _ _ hA0, no_t (.inr (.inr (.inr (.inl rfl)))), tp, k, r, all, sd, d, rfl, TA.same t4, a, hs, [], _, rfl, hH.same t4, hw.dh, by omega, by omega, by omega, fun l2 y2 fo2 H5 hA5 eh5 st5 nl2 ol2 el2 ml2 => ?_⟩
       have elh5 := st5.keep elh olh
       refine ⟨lh, l2, _, _, rfl, rfl, elh5, el2, ?_, ?_⟩
       · rw [ml2.len, sizeLine_eq]
         have h1 := congrArg List.length eh5
         rw [List.length_append] at h1
         have h2 := (vZY (n := (all.length : Int) - ((vZ k all).length : Int) + 1) hw.dh).2.2
         show 0 + _ ≤ _; omega
       have sc := Stp.put (ps := [lh]) (o := .lst ([] ++ y2)) elh5 (fun _ z => by cases z) (by simp)
       refine ⟨fo2, [] ++ y2, rfl, hA5.step sc (fun c hc z => olh (by rw [List.mem_singleton] at z; rw [← z]; exact hc)), eh5, qQ, ml2.step sc, ?_, sc.keep (st5.keep e0' oq0) (by simp [nlq.symm]), sc.keep (st5.keep el0' ol0) (by simp [nll.symm]), (m0'.step st5).step sc⟩
       refine ⟨fun c o ho hc => sc.keep (st5.keep (t4 _ _ ho) hc) (by simp; exact qB ho nlh0), (t4.tups.trans st5.tup).trans sc.tup, fun c hc => .inl hc⟩
     · have hz' : ¬ QM k (hs.next - 1) all > 0 := fun z => hz (decide_eq_true z)
       rw [if_neg hz']
       exact ⟨[], [], rfl, hH.same t4, (List.append_nil _).symm, elh, Ms.nil, t4.step _, e0', el0', m0'⟩
   rintro σ H5 ⟨fo1, ys1, rfl, hH5, eh5, elh5, ml5, st5, e05, el05, m05⟩
   obtain ⟨hwC, hnC, hhC, hlC⟩ := hw.catch hR hk hnx
   have hw1 : Hw all (if QM k (hs.next - 1) all > 0 then vv ((all.length : Int) - ((vZ k all).length : Int) + 1) hs else hs) := by
     split
     · exact hw.give (by omega)
     · exact hw
   have hsz1 : (if QM k (hs.next - 1) all > 0 then vv ((all.length : Int) - ((vZ k all).length : Int) + 1) hs else hs).heard.length + (if QM k (hs.next - 1) all > 0 then vv ((all.length : Int) - ((vZ k all).length : Int) + 1) hs else hs).held.length ≤ 200 ∧ (if QM k (hs.next - 1) all > 0 then vv ((all.length : Int) - ((vZ k all).length : Int) + 1) hs else hs).next ≤ (vG k all hs).next := by
     refine ⟨?_, ?_⟩
     · split
       · rw [(vZY hw.dh).2.2]; exact hsz
       · exact hsz
     · exact take_next _ _
   have eC : vG k all hs = vV (if QM k (hs.next - 1) all > 0 then vv ((all.length : Int) - ((vZ k all).length : Int) + 1) hs else hs) fnd := by unfold vG; rw [efnd]
   generalize (if QM k (hs.next - 1) all > 0 then vv ((all.length : Int) - ((vZ k all).length : Int) + 1) hs else hs) = hs1 at hH5 eh5 hw1 hsz1 eC
   have hn1 : hs1.next = (hs1.heard.length : Int) + (hs1.lost.length : Int) + 1 := rfl
   obtain ⟨dh5, h15⟩ := hH5.ob
   refine ⟨_, rfl, .inl ⟨rfl, _, SqL.ofL elh5⟩, _, rfl, a.p, dh5, _, rfl, h15, no_h hH5 (.inr (.inr (.inl rfl))), _, rfl, q0, _, 0, _, rfl, rfl, SqT.ofT e05, rfl, a, hs1, [], l0, y0, fnd, rfl, hH5, el05, m05, by omega, hw1.toHw0.fits hR hfR, (fun m hm => hok m (hfR m hm)), hw1.dh, by omega, fun l2 y2 fo2 H6 hA6 eh6 st6 nl2 ol2 el2 ml2 => ?_⟩
   rw [← eC] at hA6 eh6
   have elh6 := st6.keep elh5 olh
   have lc := congrArg List.length eh6
   rw [List.length_append] at lc
   have lc1 := congrArg List.length eh5
   rw [List.length_append] at lc1
   have hnC' : (vG k all hs).next = ((vG k all hs).heard.length : Int) + ((vG k all hs).lost.length : Int) + 1 := rfl
   refine ⟨lh, l2, _, _, rfl, rfl, elh6, el2, by rw [ml5.len, ml2.len, sizeLine_eq]; omega, ?_⟩
   have sc := Stp.put (ps := [lh]) (o := .lst (ys1 ++ y2)) elh6 (fun _ z => by cases z) (by simp)
   have hA7 := hA6.step sc (fun c hc z => olh (by rw [List.mem_singleton] at z; rw [← z]; exact hc))
   have elh7 := qQ (H := H6) (a := lh) (o := .lst (ys1 ++ y2))
   have ml7 := ((ml5.step st6).append ml2).step sc
   have st7 : Stp a.fp H a.fp _ := (st5.trans st6).weak (qs := a.fp) (qs' := a.fp) (fun _ z => z) (fun _ z => .inr z)
   have st8 : Stp a.fp H a.fp (upd H6 lh (.lst (ys1 ++ y2))) := ⟨fun c o ho hc => sc.keep (st7.keep ho hc) (by simp; exact qB ho nlh0), st7.tup.trans sc.tup, fun c hc => .inl hc⟩
   generalize upd H6 lh (.lst (ys1 ++ y2)) = H7 at hA7 elh7 ml7 st8 ⊢
   obtain ⟨dh7, h17⟩ := hA7.ob
   refine ⟨_, rfl, _, rfl, a.p, dh7, _, rfl, h17, no_h hA7 (.inr (.inr (.inr (.inr (.inr (.inr (.inr (.inr (.inl rfl))))))))), a, _, [], rfl, hA7, fun l3 n3 => ⟨l3, _, rfl, .inl (SqL.ofL qQ), _, rfl, _, _, rfl, rfl, (show 2 ≤ sizeLine by decide), fun q1 n4 => ?_⟩⟩
   have j8 := Same.new (o := .lst ((vG k all hs).lost.map V.int)) n3
   have j9 := j8.trans (Same.new (o := .tup [.ref lh, .int ((((vG k all hs).lost.map V.int).length : Int) - ((hs.lost.map V.int).length : Int))]) n4)
   have oq1 : q1 ∉ a.fp := (hA7.same j8).free n4
   refine q q1 lh (ys1 ++ y2) (fo1 ++ fo2) _ (hA7.same j9) (by rw [eh6, eh5, List.append_assoc]) (st8.trans (j9.step _)) ?_ ?_ (j9 _ _ elh7) (ml7.same j9) olh oq1 nlh0
   · rcases st8.free' (j8.free n4) with z | z
     · exact absurd z oq1
     · exact z
   · rw [← List.length_map (f := V.int) (as := (vG k all hs).lost), ← List.length_map (f := V.int) (as := hs.lost)]; exact qQ
theorem no_f {a : FA} {f : Str} (h : f = "refuse_unknown" ∨ f = "road_of" ∨ f = "hearer_of" ∨ f = "names" ∨ f = "tell" ∨ f = "carry" ∨ f = "catch_up" ∨ f = "heard" ∨ f = "lost" ∨ f = "waiting" ∨ f = "lag" ∨ f = "slowest" ∨ f = "lay" ∨ f = "close") : (fFl a).lookup f = none := by
 rcases h with rfl | rfl | rfl | rfl | rfl | rfl | rfl | rfl | rfl | rfl | rfl | rfl | rfl | rfl <;> exact fFl_no (by decide +kernel) (by decide +kernel) (by decide +kernel)
theorem no_rd {sz : Int} {way : Str} {r d : Addr} {b : Bool} {f : Str} (h : f = "put" ∨ f = "take" ∨ f = "waiting" ∨ f = "mend") : (rF sz way r d b).lookup f = none := by
 rcases h with rfl | rfl | rfl | rfl <;> exact rF_no (by decide +kernel) (by decide +kernel) (by decide +kernel) (by decide +kernel) (by decide +kernel)
abbrev zQ : Stmt := vQ (top 21) 3
abbrev vJZ : List Str := ["self", "name"]
theorem yUZ : FnScope vJZ ["self", "name"] (qZ zQ) := ⟨rfl, rfl, rfl, by decide +kernel, rfl, by decide +kernel, by decide +kernel⟩
theorem yJY {f CF CT CR CH XR : Addr} {fd : FuncData} (F : Fun K "refuse_unknown" "Fan.refuse_unknown" zQ f fd) (TC : FanC K mg CF) (x_NoRoad : Exc K mg "NoRoad" XR) : FnOk P w K mg base (CXF P w) 1 f fd ["self", "name"] (yVJ CF CT CR CH XR) := by
 refine F.okX yUZ (fun vs H Q E h => ?_) (fun cdv A outer s0 H vs Q E hr h => ?_)
 · obtain ⟨a, l, g, k, all, n, rfl, _⟩ := h; rfl
 · obtain ⟨a, l, g, k, all, n, rfl, hA, q⟩ := h
   refine ⟨_, (qV (zY (zZJ (pc_dnotin (yG hr) (pv 1) (vJ K (pv 0) rfl))) (qV (ps_raise x_NoRoad (qU qv as_nil))) yv)), ?_⟩
   obtain ⟨dx, h1⟩ := hA.ob
   refine ⟨_, rfl, _, rfl, a.p, CF, dx, _, _, rfl, h1, TC.cl_Fan, TC.n_roads, fFl_r a, a.rd, _, rfl, DGet.k (k := Sum.inr n) hA.rs, _, rfl, ?_⟩
   rcases q with ⟨hn, q⟩ | ⟨hn, q⟩
   · rw [show valV (rdT l g) (Sum.inr n) = some (.ref (g n).p) from YQ hn]
     exact iteF q
   · rw [show valV (rdT l g) (Sum.inr n) = none from qQQ hn]
     exact iteT ⟨(show 1 ≤ sizeLine by decide), q⟩
abbrev ZM : Stmt := vQ (top 21) 4
abbrev N_Fan_road_of : List Str := ["self", "name"]
theorem sc_Fan_road_of : FnScope N_Fan_road_of ["self", "name"] (qZ ZM) := ⟨rfl, rfl, rfl, by decide +kernel, rfl, by decide +kernel, by decide +kernel⟩
theorem okx_Fan_road_of {f CF CT CR CH XR : Addr} {fd : FuncData} (F : Fun K "road_of" "Fan.road_of" ZM f fd) (TC : FanC K mg CF) (mx_refuse_unknown : CalleeMX P w K mg base 1 CF "refuse_unknown" ["self", "name"] (yVJ CF CT CR CH XR)) : FnOk P w K mg base (CXF P w) 2 f fd ["self", "name"] (yVZ CF CT CR CH XR) := by
 refine F.okX sc_Fan_road_of (fun vs H Q E h => ?_) (fun cdv A outer s0 H vs Q E hr h => ?_)
 · obtain ⟨a, l, g, k, all, n, rfl, _⟩ := h; rfl
 · obtain ⟨a, l, g, k, all, n, rfl, hA, q⟩ := h
   refine ⟨_, (qJ (vY (yD mx_refuse_unknown TC.cl_Fan (hr.mono (by decide)) My (pv 0) (qU (pv 1) as_nil)))
     (qV (qz (yy (yG hr) (vJ K (pv 0) rfl) (pv 1) (fun _ _ => rfl))))), ?_⟩
   obtain ⟨dx, h1⟩ := hA.ob
   rcases q with ⟨hn, q⟩ | ⟨hn, q⟩
   · exact ⟨_, rfl, a.p, dx, _, rfl, h1, no_f (.inl rfl), _, rfl, a, l, g, k, all, n, rfl, hA, .inl ⟨hn, _, rfl, a.p, CF, dx, _, _, rfl, h1, TC.cl_Fan, TC.n_roads, fFl_r a, _, rfl, a.rd, _, rfl, .inl ⟨_, Sum.inr n, .inl hA.rs, rfl, (YQ hn).symm⟩, q⟩⟩
   · exact ⟨_, rfl, a.p, dx, _, rfl, h1, no_f (.inl rfl), _, rfl, a, l, g, k, all, n, rfl, hA, .inr ⟨hn, q⟩⟩
abbrev Qy : Stmt := vQ (top 21) 5
abbrev N_Fan_hearer_of : List Str := ["self", "name"]
theorem sc_Fan_hearer_of : FnScope N_Fan_hearer_of ["self", "name"] (qZ Qy) := ⟨rfl, rfl, rfl, by decide +kernel, rfl, by decide +kernel, by decide +kernel⟩
theorem okx_Fan_hearer_of {f CF CT CR CH XR : Addr} {fd : FuncData} (F : Fun K "hearer_of" "Fan.hearer_of" Qy f fd) (TC : FanC K mg CF) (mx_refuse_unknown : CalleeMX P w K mg base 1 CF "refuse_unknown" ["self", "name"] (yVJ CF CT CR CH XR)) : FnOk P w K mg base (CXF P w) 2 f fd ["self", "name"] (UG CF CT CR CH XR) := by
 refine F.okX sc_Fan_hearer_of (fun vs H Q E h => ?_) (fun cdv A outer s0 H vs Q E hr h => ?_)
 · obtain ⟨a, l, g, k, all, n, rfl, _⟩ := h; rfl
 · obtain ⟨a, l, g, k, all, n, rfl, hA, q⟩ := h
   refine ⟨_, (qJ (vY (yD mx_refuse_unknown TC.cl_Fan (hr.mono (by decide)) My (pv 0) (qU (pv 1) as_nil)))
     (qV (qz (yy (yG hr) (vJ K (pv 0) rfl) (pv 1) (fun _ _ => rfl))))), ?_⟩
   obtain ⟨dx, h1⟩ := hA.ob
   rcases q with ⟨hn, q⟩ | ⟨hn, q⟩
   · exact ⟨_, rfl, a.p, dx, _, rfl, h1, no_f (.inl rfl), _, rfl, a, l, g, k, all, n, rfl, hA, .inl ⟨hn, _, rfl, a.p, CF, dx, _, _, rfl, h1, TC.cl_Fan, TC.n_hearers, fFl_h a, _, rfl, a.hd, _, rfl, .inl ⟨_, Sum.inr n, .inl hA.hs, rfl, (YQ hn).symm⟩, q⟩⟩
   · exact ⟨_, rfl, a.p, dx, _, rfl, h1, no_f (.inl rfl), _, rfl, a, l, g, k, all, n, rfl, hA, .inr ⟨hn, q⟩⟩
abbrev MU : Stmt := vQ (top 21) 10
abbrev N_Fan_heard : List Str := ["self", "name"]
theorem sc_Fan_heard : FnScope N_Fan_heard ["self", "name"] (qZ MU) := ⟨rfl, rfl, rfl, by decide +kernel, rfl, by decide +kernel, by decide +kernel⟩
theorem okx_Fan_heard {f CF CT CR CH XR : Addr} {fd : FuncData} (F : Fun K "heard" "Fan.heard" MU f fd) (TC : TxtF K mg CF CT CR CH) (mx_hearer_of : CalleeMX P w K mg base 2 CF "hearer_of" ["self", "name"] (UG CF CT CR CH XR)) (m_Hearer_heard : CalleeM P w K mg base 1 CH "heard" ["self"] (spHeard CH)) : FnOk P w K mg base (CXF P w) 3 f fd ["self", "name"] (qUJ CF CT CR CH XR) := by
 refine F.okX sc_Fan_heard (fun vs H Q E h => ?_) (fun cdv A outer s0 H vs Q E hr h => ?_)
 · obtain ⟨a, l, g, k, all, n, rfl, _⟩ := h; rfl
 · obtain ⟨a, l, g, k, all, n, rfl, hA, q⟩ := h
   refine ⟨_, (qV (qz (zz m_Hearer_heard TC.cl_Hearer (hr.mono (by decide)) (yD mx_hearer_of TC.cl_Fan (hr.mono (by decide)) My (pv 0) (qU (pv 1) as_nil))))), ?_⟩
   obtain ⟨dx, h1⟩ := hA.ob
   rcases q with ⟨hn, q⟩ | ⟨hn, q⟩
   case inr =>
     exact ⟨_, rfl, a.p, dx, _, rfl, h1, no_f (.inr (.inr (.inl rfl))), _, rfl, a, l, g, k, all, n, rfl, hA, .inr ⟨hn, q⟩⟩
   have hB := (hA.en n hn).ha
   obtain ⟨dB, oB⟩ := hB.ob
   exact ⟨_, rfl, a.p, dx, _, rfl, h1, no_f (.inr (.inr (.inl rfl))), _, rfl, a, l, g, k, all, n, rfl, hA, .inl ⟨hn, (g n).B.p, dB, _, rfl, oB, no_h hB (.inr (.inr (.inr (.inr (.inr (.inl rfl)))))), (g n).B, _, [], rfl, hB, q⟩⟩
abbrev JV : Stmt := vQ (top 21) 11
abbrev N_Fan_lost : List Str := ["self", "name"]
theorem sc_Fan_lost : FnScope N_Fan_lost ["self", "name"] (qZ JV) := ⟨rfl, rfl, rfl, by decide +kernel, rfl, by decide +kernel, by decide +kernel⟩
theorem okx_Fan_lost {f CF CT CR CH XR : Addr} {fd : FuncData} (F : Fun K "lost" "Fan.lost" JV f fd) (TC : TxtF K mg CF CT CR CH) (mx_hearer_of : CalleeMX P w K mg base 2 CF "hearer_of" ["self", "name"] (UG CF CT CR CH XR)) (m_Hearer_lost : CalleeM P w K mg base 1 CH "lost" ["self"] (spLost CH)) : FnOk P w K mg base (CXF P w) 3 f fd ["self", "name"] (QQZ CF CT CR CH XR) := by
 refine F.okX sc_Fan_lost (fun vs H Q E h => ?_) (fun cdv A outer s0 H vs Q E hr h => ?_)
 · obtain ⟨a, l, g, k, all, n, rfl, _⟩ := h; rfl
 · obtain ⟨a, l, g, k, all, n, rfl, hA, q⟩ := h
   refine ⟨_, (qV (qz (zz m_Hearer_lost TC.cl_Hearer (hr.mono (by decide)) (yD mx_hearer_of TC.cl_Fan (hr.mono (by decide)) My (pv 0) (qU (pv 1) as_nil))))), ?_⟩
   obtain ⟨dx, h1⟩ := hA.ob
   rcases q with ⟨hn, q⟩ | ⟨hn, q⟩
   case inr =>
     exact ⟨_, rfl, a.p, dx, _, rfl, h1, no_f (.inr (.inr (.inl rfl))), _, rfl, a, l, g, k, all, n, rfl, hA, .inr ⟨hn, q⟩⟩
   have hB := (hA.en n hn).ha
   obtain ⟨dB, oB⟩ := hB.ob
   exact ⟨_, rfl, a.p, dx, _, rfl, h1, no_f (.inr (.inr (.inl rfl))), _, rfl, a, l, g, k, all, n, rfl, hA, .inl ⟨hn, (g n).B.p, dB, _, rfl, oB, no_h hB (.inr (.inr (.inr (.inr (.inr (.inr (.inr (.inr (.inl rfl))))))))), (g n).B, _, [], rfl, hB, q⟩⟩
abbrev ZV : Stmt := vQ (top 21) 12
abbrev N_Fan_waiting : List Str := ["self", "name"]
theorem sc_Fan_waiting : FnScope N_Fan_waiting ["self", "name"] (qZ ZV) := ⟨rfl, rfl, rfl, by decide +kernel, rfl, by decide +kernel, by decide +kernel⟩
theorem okx_Fan_waiting {f CF CT CR CH XR : Addr} {fd : FuncData} (F : Fun K "waiting" "Fan.waiting" ZV f fd) (TC : TxtF K mg CF CT CR CH) (mx_road_of : CalleeMX P w K mg base 2 CF "road_of" ["self", "name"] (yVZ CF CT CR CH XR)) (m_Road_waiting : CalleeM P w K mg base 1 CR "waiting" ["self"] (spWait CR)) : FnOk P w K mg base (CXF P w) 3 f fd ["self", "name"] (yVY CF CT CR CH XR) := by
 refine F.okX sc_Fan_waiting (fun vs H Q E h => ?_) (fun cdv A outer s0 H vs Q E hr h => ?_)
 · obtain ⟨a, l, g, k, all, n, rfl, _⟩ := h; rfl
 · obtain ⟨a, l, g, k, all, n, rfl, hA, q⟩ := h
   refine ⟨_, (qV (qz (zz m_Road_waiting TC.cl_Road (hr.mono (by decide)) (yD mx_road_of TC.cl_Fan (hr.mono (by decide)) My (pv 0) (qU (pv 1) as_nil))))), ?_⟩
   obtain ⟨dx, h1⟩ := hA.ob
   rcases q with ⟨hn, q⟩ | ⟨hn, q⟩
   case inr =>
     exact ⟨_, rfl, a.p, dx, _, rfl, h1, no_f (.inr (.inl rfl)), _, rfl, a, l, g, k, all, n, rfl, hA, .inr ⟨hn, q⟩⟩
   have hR := (hA.en n hn).ra
   obtain ⟨dR, oR⟩ := hR.ob
   exact ⟨_, rfl, a.p, dx, _, rfl, h1, no_f (.inr (.inl rfl)), _, rfl, a, l, g, k, all, n, rfl, hA, .inl ⟨hn, (g n).p, dR, _, rfl, oR, no_rd (.inr (.inr (.inl rfl))), (g n).p, _, _, _, _, _, rfl, hR, q⟩⟩
abbrev qYQ : Stmt := vQ (top 21) 13
abbrev N_Fan_lag : List Str := ["self", "name"]
theorem sc_Fan_lag : FnScope N_Fan_lag ["self", "name"] (qZ qYQ) := ⟨rfl, rfl, rfl, by decide +kernel, rfl, by decide +kernel, by decide +kernel⟩
theorem okx_Fan_lag {f CF CT CR CH XR : Addr} {fd : FuncData} (F : Fun K "lag" "Fan.lag" qYQ f fd) (TC : TxtF K mg CF CT CR CH) (mx_hearer_of : CalleeMX P w K mg base 2 CF "hearer_of" ["self", "name"] (UG CF CT CR CH XR)) (m_told : CalleeM P w K mg base 1 CT "told" ["self"] (spTold CT)) (m_expects : CalleeM P w K mg base 1 CH "expects" ["self"] (vUZ CH)) : FnOk P w K mg base (CXF P w) 3 f fd ["self", "name"] (QQJ CF CT CR CH XR) := by
 refine F.okX sc_Fan_lag (fun vs H Q E h => ?_) (fun cdv A outer s0 H vs Q E hr h => ?_)
 · obtain ⟨a, l, g, k, all, n, rfl, _⟩ := h; rfl
 · obtain ⟨a, l, g, k, all, n, rfl, hA, q⟩ := h
   refine ⟨_, (qV (qz (yz QB (yz Jz (zz m_told TC.cl_Teller (hr.mono (by decide)) (vJ K (pv 0) rfl)) (zz m_expects TC.cl_Hearer (hr.mono (by decide)) (yD mx_hearer_of TC.cl_Fan (hr.mono (by decide)) My (pv 0) (qU (pv 1) as_nil)))) qG))), ?_⟩
   obtain ⟨dx, h1⟩ := hA.ob
   rcases q with ⟨hn, q⟩ | ⟨hn, q⟩
   case inr =>
     obtain ⟨dT, oT⟩ := hA.tl.ob
     exact ⟨_, rfl, a.p, CF, dx, _, _, rfl, h1, TC.cl_Fan, TC.R_Fan.n_teller, fFl_t a, a.tp, dT, _, rfl, oT, no_t (.inr (.inl rfl)), a.tp, _, _, _, _, _, rfl, hA.tl, _, rfl, a.p, dx, _, rfl, h1, no_f (.inr (.inr (.inl rfl))), _, rfl, a, l, g, k, all, n, rfl, hA, .inr ⟨hn, q⟩⟩
   have hB := (hA.en n hn).ha
   obtain ⟨dB, oB⟩ := hB.ob
   obtain ⟨dT, oT⟩ := hA.tl.ob
   exact ⟨_, rfl, a.p, CF, dx, _, _, rfl, h1, TC.cl_Fan, TC.R_Fan.n_teller, fFl_t a, a.tp, dT, _, rfl, oT, no_t (.inr (.inl rfl)), a.tp, _, _, _, _, _, rfl, hA.tl, _, rfl, a.p, dx, _, rfl, h1, no_f (.inr (.inr (.inl rfl))), _, rfl, a, l, g, k, all, n, rfl, hA, .inl ⟨hn, (g n).B.p, dB, _, rfl, oB, no_h hB (.inl rfl), (g n).B, _, [], rfl, hB, _, _, rfl, rfl, _, _, rfl, rfl, q⟩⟩
abbrev MJ : Stmt := vQ (top 21) 6
abbrev N_Fan_names : List Str := ["self"]
theorem sc_Fan_names : FnScope N_Fan_names ["self"] (qZ MJ) := ⟨rfl, rfl, rfl, by decide +kernel, rfl, by decide +kernel, by decide +kernel⟩
theorem ok_Fan_names {f CF CT CR CH : Addr} {fd : FuncData} (F : Fun K "names" "Fan.names" MJ f fd) (T : Txt mg) (TC : FanC K mg CF) : FnOk P w K mg base CX0 1 f fd ["self"] (QQY CF CT CR CH) := by
 refine F.ok sc_Fan_names (fun vs H Q E h => ?_) (fun cdv A outer s0 H vs Q E hr h => ?_)
 · obtain ⟨a, l, g, k, all, rfl, _⟩ := h; rfl
 · obtain ⟨a, l, g, k, all, rfl, hA, hl, q⟩ := h
   refine ⟨_, (qV (qz (yJ (k_sortT K rfl) (by rfl) T.b_sorted PyProof.Rows.boot_sorted (qU (vJ K (pv 0) rfl) as_nil)))), ?_⟩
   obtain ⟨dx, h1⟩ := hA.ob
   exact ⟨_, rfl, a.p, CF, dx, _, _, rfl, h1, TC.cl_Fan, TC.n_roads, fFl_r a, .ref a.rd, l, rfl, .inr ⟨a.rd, _, rfl, hA.rs, tabN_keys l _⟩, hl, q⟩
abbrev YU : Stmt := vQ (top 21) 0
abbrev N_Fan___init__ : List Str := ["self", "keep"]
theorem sc_Fan___init__ : FnScope N_Fan___init__ ["self", "keep"] (qZ YU) := ⟨rfl, rfl, rfl, by decide +kernel, rfl, by decide +kernel, by decide +kernel⟩
theorem ok_Fan_init {f CF CT CR CH : Addr} {fd : FuncData} (F : Fun K "__init__" "Fan.__init__" YU f fd) (TC : TxtF K mg CF CT CR CH) (i_Teller : CalleeI P w K mg base 1 CT ["self", "keep"] (spInitT CT)) : FnOk P w K mg base CX0 3 f fd ["self", "keep"] (spFInit CF CT CR CH) := by
 refine F.ok sc_Fan___init__ (fun vs H Q E h => ?_) (fun cdv A outer s0 H vs Q E hr h => ?_)
 · obtain ⟨p, dx, k, rfl, _⟩ := h; rfl
 · obtain ⟨p, dx, k, rfl, hp, q⟩ := h
   refine ⟨_, (qJ (zv K (pv 0) (as_make i_Teller (hr.mono (by decide)) TC.mg_Teller (qU (pv 1) as_nil)) rfl)
     (qJ (zv K (pv 0) Mq rfl)
     (qV (zv K (pv 0) Mq rfl)))), ?_⟩
   refine ⟨_, rfl, ?_⟩
   intro tp dx1 np1 nd1 nx1
   refine ⟨tp, dx1, k, rfl, qQ, fun ts td H2 ns nd TA bu => ⟨rfl, ?_⟩⟩
   have s0 := Stp.obj (o := .own tp) (o' := .ins CT dx1 []) np1 nd1
   have s2 : Same H H2 := fun b o ho => bu b o (s0.same _ _ ho) (fun z => by rw [z, np1] at ho; cases ho)
   have nts : H ts = none := s0.free ns List.not_mem_nil
   have ntd : H td = none := s0.free nd List.not_mem_nil
   have hp2 := s2 _ _ hp
   refine ⟨_, rfl, p, CF, dx, [], rfl, hp2, TC.cl_Fan, TC.R_Fan.n_teller, by decide, ?_⟩
   have z1 := Stp.put (ps := [p]) (o := .ins CF dx (putF "teller" (.ref tp) [])) hp2 (fun _ z => by cases z) (by simp)
   have e1 := qQ (H := H2) (a := p) (o := .ins CF dx (putF "teller" (.ref tp) []))
   generalize upd H2 p (.ins CF dx (putF "teller" (.ref tp) [])) = H3 at z1 e1 ⊢
   intro rd nrd
   have g3 := Same.new (o := .dK []) nrd
   have erd := qQ (H := H3) (a := rd) (o := .dK [])
   have ep3 := g3 _ _ e1
   have nrp : rd ≠ p := fun z => by rw [z, e1] at nrd; cases nrd
   generalize upd H3 rd (.dK []) = H4 at g3 erd ep3 ⊢
   refine ⟨_, rfl, p, CF, dx, _, rfl, ep3, TC.cl_Fan, TC.R_Fan.n_roads, (show 1 < 1000 by decide), ?_⟩
   have z2 := Stp.put (ps := [p]) (o := .ins CF dx (putF "roads" (.ref rd) (putF "teller" (.ref tp) []))) ep3 (fun _ z => by cases z) (by simp)
   have e2 := qQ (H := H4) (a := p) (o := .ins CF dx (putF "roads" (.ref rd) (putF "teller" (.ref tp) [])))
   have erd2 := z2.keep erd (by simp [nrp])
   generalize upd H4 p (.ins CF dx (putF "roads" (.ref rd) (putF "teller" (.ref tp) []))) = H5 at z2 e2 erd2 ⊢
   intro hd nhd
   have g5 := Same.new (o := .dK []) nhd
   have ehd := qQ (H := H5) (a := hd) (o := .dK [])
   have ep5 := g5 _ _ e2
   have erd5 := g5 _ _ erd2
   have nhp : hd ≠ p := fun z => by rw [z, e2] at nhd; cases nhd
   have nhr : hd ≠ rd := fun z => by rw [z, erd2] at nhd; cases nhd
   generalize upd H5 hd (.dK []) = H6 at g5 ehd ep5 erd5 ⊢
   refine ⟨_, rfl, p, CF, dx, _, rfl, ep5, TC.cl_Fan, TC.R_Fan.n_hearers, (show 2 < 1000 by decide), ?_⟩
   rw [show putF "hearers" (.ref hd) (putF "roads" (.ref rd) (putF "teller" (.ref tp) [])) = fFl ⟨p, rd, hd, tp, ts, td⟩ from fFl_make ⟨p, rd, hd, tp, ts, td⟩]
   have z3 := Stp.put (ps := [p]) (o := .ins CF dx (fFl ⟨p, rd, hd, tp, ts, td⟩)) ep5 (fun _ z => by cases z) (by simp)
   have e3 := qQ (H := H6) (a := p) (o := .ins CF dx (fFl ⟨p, rd, hd, tp, ts, td⟩))
   have erd7 := z3.keep erd5 (by simp [nrp])
   have ehd7 := z3.keep ehd (by simp [nhp])
   generalize upd H6 p (.ins CF dx (fFl ⟨p, rd, hd, tp, ts, td⟩)) = H7 at z3 e3 erd7 ehd7 ⊢
   have w : Stp [p] H2 [p] H7 := (((z1.trans (g3.step _)).trans z2).trans (g5.step _)).trans z3
   have ntp : ∀ c ∈ [tp, ts, td], c ≠ p := fun c hc z => by
     simp only [List.mem_cons, List.not_mem_nil, or_false] at hc
     rcases hc with rfl | rfl | rfl
     · rw [z, hp] at np1; cases np1
     · rw [z, hp] at nts; cases nts
     · rw [z, hp] at ntd; cases ntd
   have TA7 := TA.stp w (fun c hc => by simp [ntp c hc])
   have nrd2 : H2 rd = none := z1.free nrd (by simp [nrp])
   have nhd2 : H2 hd = none := ((z1.trans (g3.step _)).trans z2).free nhd (by simp [nhp])
   have l3 := TA.live3
   refine q ⟨p, rd, hd, tp, ts, td⟩ H7 rfl (fun g => ⟨⟨⟨dx, e3⟩, TA7, ehd7, fun n hn => absurd hn List.not_mem_nil, List.nodup_nil, fun n hn => absurd hn List.not_mem_nil, fun n hn => absurd hn List.not_mem_nil, by simp [nrp, nhr.symm], fun c hc z => ?_⟩, erd7⟩) ⟨fun c o ho hc => w.but c o (s2 _ _ ho) hc, s2.tups.trans w.tup, fun c hc => ?_⟩
   · simp only [List.mem_cons, List.not_mem_nil, or_false] at hc
     obtain ⟨o, ho⟩ := l3 c z
     rcases hc with rfl | rfl | rfl
     · exact ntp _ z rfl
     · rw [nrd2] at ho; cases ho
     · rw [nhd2] at ho; cases ho
   · simp only [FA.own, List.mem_cons, List.not_mem_nil, or_false] at hc
     rcases hc with rfl | rfl | rfl | rfl | rfl | rfl
     · exact .inl (by simp)
     · exact .inr ((s2.step []).free nrd2 List.not_mem_nil)
     · exact .inr ((s2.step []).free nhd2 List.not_mem_nil)
     · exact .inr np1
     · exact .inr nts
     · exact .inr ntd
abbrev JU : Stmt := vQ (top 21) 7
abbrev N_Fan_tell : List Str := ["self", "topic", "text", "number", "road"]
theorem sc_Fan_tell : FnScope N_Fan_tell ["self", "topic", "text"] (qZ JU) := ⟨rfl, rfl, rfl, by decide +kernel, rfl, by decide +kernel, by decide +kernel⟩
theorem ok_Fan_tell {f CF CT CR CH : Addr} {fd : FuncData} (F : Fun K "tell" "Fan.tell" JU f fd) (TC : TxtF K mg CF CT CR CH) (m_Teller_tell : CalleeM P w K mg base 1 CT "tell" ["self", "topic", "text"] (spTell CT)) (m_put : CalleeM P w K mg base 4 CR "put" ["self", "message"] (spPut CR)) : FnOk P w K mg base CX0 5 f fd ["self", "topic", "text"] (QQQ CF CT CR CH) := by
 refine F.ok sc_Fan_tell (fun vs H Q E h => ?_) (fun cdv A outer s0 H vs Q E hr h => ?_)
 · obtain ⟨a, l, g, k, all, t, x, rfl, _⟩ := h; rfl
 · obtain ⟨a, l, g, k, all, t, x, rfl, hA, hal, hk, hl, hroom, q⟩ := h
   refine ⟨_, (qJ (yB (i := 3) sc_Fan_tell.nd rfl (Or.inl rfl) (Qw m_Teller_tell TC.cl_Teller (hr.mono (by decide)) (vJ K (pv 0) rfl) (qU (pv 1) (qM (pv 2) as_nil))))
     (qJ (ps_thaw (qJJ PassesOwn.never rfl (pi_vals (k_bm0 K PySem.F.plainAttrs_dict PySem.F.slot_dict_values PySem.F.type_dict_values mt_values (vJ K (pv 0) rfl))) (Qz (i := 4) sc_Fan_tell.nd rfl (Or.inl rfl)) (qV (vY (Qw m_put TC.cl_Road (hr.mono (by decide)) (pv 4) (qU (Zz (qM (pv 3) (qM (pv 1) (qM (pv 2) as_nil)))) as_nil))))))
     (qV (qz (pv 3))))), ?_⟩
   obtain ⟨dx, h1⟩ := hA.ob
   obtain ⟨dT, oT⟩ := hA.tl.ob
   refine ⟨_, rfl, a.p, CF, dx, _, _, rfl, h1, TC.cl_Fan, TC.R_Fan.n_teller, fFl_t a, a.tp, dT, _, rfl, oT, no_t (.inl rfl), _, rfl, _, rfl, a.tp, t, x, k, 0, all, a.ts, a.td, rfl, hA.tl, hal, hk, fun H2 TA2 bu => ?_⟩
   have ⟨hA2, w2⟩ := hA.told TA2 ⟨bu, hA.tl.tups bu, fun c hc => .inl hc⟩
   obtain ⟨dx2, h2⟩ := hA2.ob
   have hfz : ∀ (o : Obj) (u : HO), H a.rd = some (.frz o u) → False := fun o u e => by rw [hA.rs] at e; cases e
   refine ⟨_, rfl, a.p, CF, dx2, _, _, rfl, h2, TC.cl_Fan, TC.R_Fan.n_roads, fFl_r a, .inr (.inr (.inl ⟨rfl, .inl ⟨_, hA2.rs⟩⟩)), a.rd, _, rfl, rfl, hA2.rs, fun pv npv => ?_⟩
   have g3 := Same.new (o := qZZ pv a.rd) npv
   refine ⟨pv, a.rd, _, rfl, qQ, g3 _ _ hA2.rs, hfz, fun ob => ?_⟩
   have hA3 := hA2.same g3
   have z4 := Stp.put (ps := [a.rd]) (o := .frz ob (.dK (rdT l g))) hA3.rs (fun _ z => by cases z) (by simp)
   have hA4 := hA3.toFAt0.step z4 (fun c _ hne z => hne (List.mem_singleton.mp z))
   have e4 := qQ (H := upd H2 pv (qZZ pv a.rd)) (a := a.rd) (o := .frz ob (.dK (rdT l g)))
   have rdo : a.rd ∈ a.own := by simp [FA.own]
   have w4 : Stp (a.fp l g) H (a.fp l g) (upd (upd H2 pv (qZZ pv a.rd)) a.rd (.frz ob (.dK (rdT l g)))) := (w2.trans (g3.step _)).trans (z4.up fun c hc => List.mem_append_left _ (by rw [List.mem_singleton] at hc; rw [hc]; exact rdo))
   generalize upd (upd H2 pv (qZZ pv a.rd)) a.rd (.frz ob (.dK (rdT l g))) = H4 at hA4 e4 w4 ⊢
   clear g3 z4 hA3
   generalize hm : (⟨(all.length : Int) + 1, t, x⟩ : Msg) = m at hA4 q
   refine for_it (n := (rdT l g).length) (fun i σ H' => ∃ o4 gi, σ = [some (.ref a.p), some (.str t), some (.str x), some (.int ((all.length : Int) + 1)), o4] ∧ FAt0 CF CT CR CH H' a l gi k (all ++ [m]) ∧ H' a.rd = some (.frz ob (.dK (rdT l g))) ∧ (∀ n, (gi n).p = (g n).p) ∧ (∀ n ∈ l, (n ∈ l.take i → FPut m (g n) (gi n)) ∧ (n ∉ l.take i → gi n = g n)) ∧ Stp (a.fp l g) H (a.fp l gi) H')
     ⟨_, g, rfl, hA4, e4, fun n => rfl, fun n hn => ⟨fun z => absurd z (by rw [List.take_zero]; exact List.not_mem_nil), fun _ => rfl⟩, w4⟩ ?_ ?_
   · rintro i σ H' hi ⟨o4, gi, rfl, hA', e', hpp, hin, w'⟩
     refine ⟨⟨e', hi⟩, ?_⟩
     rintro y H5 ⟨rfl, kv, hkv, rfl⟩
     have hi' : i < l.length := by rw [rdT, UU] at hi; exact hi
     have hkv' : kv = (Sum.inr l[i], V.ref (g l[i]).p) := by
       unfold rdT tabN at hkv
       rw [List.getElem?_map, List.getElem?_eq_getElem hi'] at hkv
       exact (Option.some.inj hkv).symm
     subst hkv'
     have hn := List.getElem_mem hi'
     have hni : l[i] ∉ l.take i := fun z => by
       obtain ⟨j, hj, e⟩ := List.getElem_of_mem z
       rw [List.length_take] at hj
       rw [List.getElem_take] at e
       exact List.pairwise_iff_getElem.mp hA.nd j i (by omega) hi' (by omega) e
     have hgi := (hin _ hn).2 hni
     have hrm := hroom _ hn
     have hE := hA'.en _ hn
     have hp0 := hpp l[i]
     generalize hnm : l[i] = n at *
     rw [hgi] at hE hp0
     obtain ⟨dR, oR⟩ := hE.ra.ob
     refine Qv ⟨_, rfl, (g n).p, dR, _, rfl, oR, no_rd (.inl rfl), _, rfl, _, rfl, _, rfl, (show 3 ≤ sizeLine by decide), fun c nc => ?_⟩
     have g5 : Same H5 (upd H5 c (mT m)) := Same.new nc
     have hc5 : (upd H5 c (mT m)) c = some (mT m) := qQ
     have hmT : (HO.tup [V.int ((all.length : Int) + 1), V.str t, V.str x]) = mT m := by rw [← hm]; rfl
     rw [hmT]
     have hA5 := hA'.step (g5.step []) (fun _ _ _ => List.not_mem_nil)
     have hE5 := hE.same g5
     have e5 := g5 _ _ e'
     generalize upd H5 c (mT m) = H6 at g5 hc5 hA5 hE5 e5 ⊢
     refine ⟨(g n).p, c, m, _, _, _, _, _, rfl, hE5.ra, hc5, hrm.1, hrm.2, fun r' H7 RA7 st7 => ?_⟩
     have ⟨e1, t1⟩ := hE5.road st7 RA7
     have ⟨hA7, w7⟩ := hA5.put (e := { g n with s := ZD (g n).sz (g n).way (g n).s m, r := r' }) hn ⟨_, e5⟩ (by rw [hgi]; exact t1) e1 (by rw [hgi]) (by rw [hgi])
     refine ⟨_, updE gi n { g n with s := ZD (g n).sz (g n).way (g n).s m, r := r' }, rfl, hA7, st7.keep e5 (fun z => hA.own n hn a.rd (List.mem_append_left _ z) rdo), fun n' => ?_, fun n' hn' => ⟨fun z => ?_, fun z => ?_⟩, (w'.trans (g5.step _)).trans w7⟩
     · by_cases y : n' = n
       · subst y; rw [yY]
       · rw [zZ y]; exact hpp n'
     · by_cases y : n' = n
       · subst y; rw [yY]; exact ⟨rfl, rfl, rfl, rfl⟩
       · rw [zZ y]
         refine (hin n' hn').1 ?_
         rw [List.take_add_one, List.getElem?_eq_getElem hi', hnm] at z
         rcases List.mem_append.mp z with u | u
         · exact u
         · exact absurd (List.mem_singleton.mp u) y
     · have y : n' ≠ n := fun y => z (by
         rw [List.take_add_one, List.getElem?_eq_getElem hi', hnm, y]
         exact List.mem_append_right _ (by simp))
       rw [zZ y]
       refine (hin n' hn').2 fun u => z ?_
       rw [List.take_add_one]
       exact List.mem_append_left _ u
   rintro σ H5 ⟨o4, gi, rfl, hA5, e5, hpp, hin, w5⟩
   refine ⟨⟨e5, Nat.le_refl _⟩, a.rd, ob, _, e5, hfz, ?_⟩
   have z6 := Stp.put (ps := [a.rd]) (o := .dK (rdT l g)) e5 (fun _ z => by cases z) (by simp)
   have hA6 := hA5.step z6 (fun c _ hne z => hne (List.mem_singleton.mp z))
   have eT : rdT l gi = rdT l g := Yq fun n _ => by rw [hpp n]
   refine ⟨_, rfl, q gi _ ⟨hA6, by rw [eT]; exact qQ⟩ (fun n hn => (hin n hn).1 ?_) (w5.trans (z6.up fun c hc => List.mem_append_left _ (by rw [List.mem_singleton] at hc; rw [hc]; exact rdo)))⟩
   rw [rdT, UU, List.take_length]; exact hn
abbrev MM : Stmt := vQ (top 21) 8
abbrev N_Fan_carry : List Str := ["self", "name", "many"]
theorem sc_Fan_carry : FnScope N_Fan_carry ["self", "name", "many"] (qZ MM) := ⟨rfl, rfl, rfl, by decide +kernel, rfl, by decide +kernel, by decide +kernel⟩
theorem okx_Fan_carry {f CF CT CR CH XR : Addr} {fd : FuncData} (F : Fun K "carry" "Fan.carry" MM f fd) (TC : TxtF K mg CF CT CR CH) (mx_hearer_of : CalleeMX P w K mg base 2 CF "hearer_of" ["self", "name"] (UG CF CT CR CH XR)) (mx_road_of : CalleeMX P w K mg base 2 CF "road_of" ["self", "name"] (yVZ CF CT CR CH XR)) (m_take_all : CalleeM P w K mg base 3 CH "take_all" ["self", "messages"] (vUQ CH)) (m_Road_take : CalleeM P w K mg base 1 CR "take" ["self", "many"] (spTakeR CR)) : FnOk P w K mg base (CXF P w) 4 f fd ["self", "name", "many"] (spFCarryX CF CT CR CH XR) := by
 refine F.okX sc_Fan_carry (fun vs H Q E h => ?_) (fun cdv A outer s0 H vs Q E hr h => ?_)
 · obtain ⟨a, l, g, k, all, n, i, rfl, _⟩ := h; rfl
 · obtain ⟨a, l, g, k, all, n, i, rfl, hA, q⟩ := h
   refine ⟨_, (qV (qz (Qw m_take_all TC.cl_Hearer (hr.mono (by decide)) (yD mx_hearer_of TC.cl_Fan (hr.mono (by decide)) My (pv 0) (qU (pv 1) as_nil)) (qU (Qw m_Road_take TC.cl_Road (hr.mono (by decide)) (yD mx_road_of TC.cl_Fan (hr.mono (by decide)) My (pv 0) (qU (pv 1) as_nil)) (qU (pv 2) as_nil)) as_nil)))), ?_⟩
   obtain ⟨dx, h1⟩ := hA.ob
   rcases q with ⟨hn, hi, hfit, hok, hdf, hsz, hrl, q⟩ | ⟨hn, q⟩
   case inr => exact ⟨_, rfl, a.p, dx, _, rfl, h1, no_f (.inr (.inr (.inl rfl))), _, rfl, a, l, g, k, all, n, rfl, hA, .inr ⟨hn, q⟩⟩
   have hB := (hA.en n hn).ha
   obtain ⟨dB, oB⟩ := hB.ob
   have hR := (hA.en n hn).ra
   obtain ⟨dR, oR⟩ := hR.ob
   refine ⟨_, rfl, a.p, dx, _, rfl, h1, no_f (.inr (.inr (.inl rfl))), _, rfl, a, l, g, k, all, n, rfl, hA, .inl ⟨hn, (g n).B.p, dB, _, rfl, oB, no_h hB (.inr (.inr (.inl rfl))), _, rfl, a.p, dx, _, rfl, h1, no_f (.inr (.inl rfl)), _, rfl, a, l, g, k, all, n, rfl, hA, .inl ⟨hn, (g n).p, dR, _, rfl, oR, no_rd (.inr (.inl rfl)), _, rfl, (g n).p, i, _, _, _, _, _, rfl, hR, hi, fun lt yt r' H2 RA2 st2 nlt olt elt mlt => ?_⟩⟩⟩
   have ⟨e1, t1⟩ := (hA.en n hn).road st2 RA2
   have ⟨hA2, w2⟩ := hA.put (e := { g n with s := { (g n).s with rows := (g n).s.rows.drop i.toNat }, r := r' }) hn t1 e1 rfl rfl
   have ltk : ((g n).s.rows.take i.toNat).length < 1000 := by rw [List.length_take]; omega
   refine ⟨(g n).B, _, [], lt, yt, _, rfl, e1.ha, elt, mlt, ltk, hfit, fun m hm => hok m (List.mem_of_mem_take hm), hdf, hsz, fun lh yh found H3 hB3 eh st3 nlh olh elh mlh => ?_⟩
   have ⟨e2, t2⟩ := e1.hear ⟨st3.1, st3.2, fun c hc => st3.3 c (List.mem_cons_of_mem _ hc)⟩ hB3
   have ⟨hA3, w3⟩ := hA2.put (e := { g n with s := { (g n).s with rows := (g n).s.rows.drop i.toNat }, r := r', h := vV (g n).h ((g n).s.rows.take i.toNat) }) hn (by rw [yY]; exact t2) e2 (by rw [yY]) (by rw [yY])
   rw [updE_twice] at hA3 w3
   have efp : a.fp l (updE g n { g n with s := { (g n).s with rows := (g n).s.rows.drop i.toNat }, r := r', h := vV (g n).h ((g n).s.rows.take i.toNat) }) = a.fp l (updE g n { g n with s := { (g n).s with rows := (g n).s.rows.drop i.toNat }, r := r' }) := congrArg (a.own ++ ·) (fpF_congr fun m hm => by
     by_cases z : m = n
     · subst z; rw [yY, yY]; rfl
     · rw [zZ z, zZ z])
   have nlh0 : lh ∈ a.fp l g ∨ H lh = none := w2.free' nlh
   exact q _ lh yh found H3 hA3 rfl rfl rfl rfl eh (w2.trans w3) nlh0 (by rw [efp]; exact hA2.free nlh) elh mlh
abbrev YJ : Stmt := vQ (top 21) 9
abbrev N_Fan_catch_up : List Str := ["self", "name"]
theorem sc_Fan_catch_up : FnScope N_Fan_catch_up ["self", "name"] (qZ YJ) := ⟨rfl, rfl, rfl, by decide +kernel, rfl, by decide +kernel, by decide +kernel⟩
theorem okx_Fan_catch_up {f CF CT CR CH XR : Addr} {fd : FuncData} (F : Fun K "catch_up" "Fan.catch_up" YJ f fd) (TC : TxtF K mg CF CT CR CH) (mx_hearer_of : CalleeMX P w K mg base 2 CF "hearer_of" ["self", "name"] (UG CF CT CR CH XR)) (mx_road_of : CalleeMX P w K mg base 2 CF "road_of" ["self", "name"] (yVZ CF CT CR CH XR)) (m_mend : CalleeM P w K mg base 1 CR "mend" ["self"] (spMend CR)) (c_caught_up : Callee P w K mg base 4 "caught_up" ["teller", "hearer"] (spCaughtN CT CH)) : FnOk P w K mg base (CXF P w) 5 f fd ["self", "name"] (vUY CF CT CR CH XR) := by
 refine F.okX sc_Fan_catch_up (fun vs H Q E h => ?_) (fun cdv A outer s0 H vs Q E hr h => ?_)
 · obtain ⟨a, l, g, k, all, n, rfl, _⟩ := h; rfl
 · obtain ⟨a, l, g, k, all, n, rfl, hA, q⟩ := h
   refine ⟨_, (qJ (vY (zz m_mend TC.cl_Road (hr.mono (by decide)) (yD mx_road_of TC.cl_Fan (hr.mono (by decide)) My (pv 0) (qU (pv 1) as_nil))))
     (qV (qz (zB c_caught_up (hr.mono (by decide)) (qU (vJ K (pv 0) rfl) (qM (yD mx_hearer_of TC.cl_Fan (hr.mono (by decide)) My (pv 0) (qU (pv 1) as_nil)) as_nil)))))), ?_⟩
   obtain ⟨dx, h1⟩ := hA.ob
   rcases q with ⟨hn, hk, hR, hal, hok, hw, hnx, hsz, q⟩ | ⟨hn, q⟩
   case inr => exact ⟨_, rfl, a.p, dx, _, rfl, h1, no_f (.inr (.inl rfl)), _, rfl, a, l, g, k, all, n, rfl, hA, .inr ⟨hn, q⟩⟩
   have hRd := (hA.en n hn).ra
   obtain ⟨dR, oR⟩ := hRd.ob
   refine ⟨_, rfl, a.p, dx, _, rfl, h1, no_f (.inr (.inl rfl)), _, rfl, a, l, g, k, all, n, rfl, hA, .inl ⟨hn, (g n).p, dR, _, rfl, oR, no_rd (.inr (.inr (.inr rfl))), (g n).p, _, _, _, _, _, rfl, hRd, fun H2 RA2 st2 => ?_⟩⟩
   have ⟨e1, t1⟩ := (hA.en n hn).road st2 RA2
   have ⟨hA2, w2⟩ := hA.put (e := { g n with s := { (g n).s with cut := false }, r := (g n).r }) hn t1 e1 rfl rfl
   obtain ⟨dx2, h2⟩ := hA2.ob
   refine ⟨_, rfl, a.p, CF, dx2, _, _, rfl, h2, TC.cl_Fan, TC.R_Fan.n_teller, fFl_t a, _, rfl, a.p, dx2, _, rfl, h2, no_f (.inr (.inr (.inl rfl))), _, rfl, a, l, _, k, all, n, rfl, hA2, .inl ⟨hn, ?_⟩⟩
   rw [yY]
   have hown : ∀ c ∈ [a.tp, a.ts, a.td], c ∉ (g n).B.fp := fun c hc z => hA.own n hn c (List.mem_append_right _ z) (by
     simp only [List.mem_cons, List.not_mem_nil, or_false] at hc
     rcases hc with rfl | rfl | rfl <;> simp [FA.own])
   refine ⟨a.tp, (g n).B, k, 0, all, a.ts, a.td, _, rfl, hA2.tl, e1.ha, hown, hk, hR, hal, hok, hw, hnx, hsz, fun qq lh ys found H3 hB3 eh st3 nq eq el ml ol oq nlh => ?_⟩
   have ⟨e2, t2⟩ := e1.hear st3 hB3
   have ⟨hA3, w3⟩ := hA2.put (e := { g n with s := { (g n).s with cut := false }, r := (g n).r, h := vG k all (g n).h }) hn (by rw [yY]; exact t2) e2 (by rw [yY]) (by rw [yY])
   rw [updE_twice] at hA3 w3
   have efp : a.fp l (updE g n { g n with s := { (g n).s with cut := false }, r := (g n).r, h := vG k all (g n).h }) = a.fp l (updE g n { g n with s := { (g n).s with cut := false }, r := (g n).r }) := congrArg (a.own ++ ·) (fpF_congr fun m hm => by
     by_cases z : m = n
     · subst z; rw [yY, yY]; rfl
     · rw [zZ z, zZ z])
   exact q _ qq lh ys found H3 hA3 rfl rfl rfl rfl eh (w2.trans w3) (by rw [efp]; exact hA2.free nq) (w2.free' nlh) (by rw [efp]; exact hA2.free nlh) eq el ml
abbrev MV : Stmt := vQ (top 21) 2
abbrev N_Fan_close : List Str := ["self", "name"]
theorem sc_Fan_close : FnScope N_Fan_close ["self", "name"] (qZ MV) := ⟨rfl, rfl, rfl, by decide +kernel, rfl, by decide +kernel, by decide +kernel⟩
theorem tabN_drop (F : Str → V) (n : Str) : ∀ l : List Str, UZ (tabN l F) (Sum.inr n) = tabN (l.filter fun m => decide (m ≠ n)) F
 | [] => rfl
 | m :: r => by
   have ih := tabN_drop F n r
   unfold UZ tabN at ih ⊢
   rw [List.map_cons, List.filter_cons, List.filter_cons]
   by_cases z : m = n
   · rw [if_neg (by simp [z]), if_neg (by simp [z])]; exact ih
   · rw [if_pos (by simp [z]), if_pos (by simp [z]), List.map_cons, ih]
theorem okx_Fan_close {f CF CT CR CH XR : Addr} {fd : FuncData} (F : Fun K "close" "Fan.close" MV f fd) (TC : FanC K mg CF) (mx_refuse_unknown : CalleeMX P w K mg base 1 CF "refuse_unknown" ["self", "name"] (yVJ CF CT CR CH XR)) : FnOk P w K mg base (CXF P w) 2 f fd ["self", "name"] (spFCloseX CF CT CR CH XR) := by
 refine F.okX sc_Fan_close (fun vs H Q E h => ?_) (fun cdv A outer s0 H vs Q E hr h => ?_)
 · obtain ⟨a, l, g, k, all, n, rfl, _⟩ := h; rfl
 · obtain ⟨a, l, g, k, all, n, rfl, hA, q⟩ := h
   refine ⟨_, (qJ (vY (yD mx_refuse_unknown TC.cl_Fan (hr.mono (by decide)) My (pv 0) (qU (pv 1) as_nil)))
     (qJ (vY (vQJ (vJ K (pv 0) rfl) (pv 1) ⟨rfl, rfl, rfl, rfl⟩))
     (qV (vY (vQJ (vJ K (pv 0) rfl) (pv 1) ⟨rfl, rfl, rfl, rfl⟩))))), ?_⟩
   obtain ⟨dx, h1⟩ := hA.ob
   rcases q with ⟨hn, q⟩ | ⟨hn, q⟩
   case inr => exact ⟨_, rfl, a.p, dx, _, rfl, h1, no_f (.inl rfl), _, rfl, a, l, g, k, all, n, rfl, hA, .inr ⟨hn, q⟩⟩
   refine ⟨_, rfl, a.p, dx, _, rfl, h1, no_f (.inl rfl), _, rfl, a, l, g, k, all, n, rfl, hA, .inl ⟨hn, _, rfl, a.p, CF, dx, _, _, rfl, h1, TC.cl_Fan, TC.n_roads, fFl_r a, a.rd, rfl, .inl ⟨_, .inl hA.rs⟩, _, rfl, _, Sum.inr n, _, hA.rs, rfl, YQ hn, ?_⟩⟩
   have z1 := Stp.put (ps := [a.rd]) (o := .dK (UZ (rdT l g) (Sum.inr n))) hA.rs (fun _ z => by cases z) (by simp)
   have e1 := qQ (H := H) (a := a.rd) (o := .dK (UZ (rdT l g) (Sum.inr n)))
   have hA1 := hA.toFAt0.step z1 (fun c _ hne z => hne (List.mem_singleton.mp z))
   generalize upd H a.rd (.dK (UZ (rdT l g) (Sum.inr n))) = H1 at z1 e1 hA1 ⊢
   obtain ⟨dx2, h2⟩ := hA1.ob
   refine ⟨_, rfl, a.p, CF, dx2, _, _, rfl, h2, TC.cl_Fan, TC.n_hearers, fFl_h a, a.hd, rfl, .inl ⟨_, .inl hA1.hs⟩, _, rfl, _, Sum.inr n, _, hA1.hs, rfl, YQ hn, ?_⟩
   have z2 := Stp.put (ps := [a.hd]) (o := .dK (UZ (hdT l g) (Sum.inr n))) hA1.hs (fun _ z => by cases z) (by simp)
   have e2 := qQ (H := H1) (a := a.hd) (o := .dK (UZ (hdT l g) (Sum.inr n)))
   have nrh : a.rd ≠ a.hd := fun z => hA.ne (by simp [z])
   have e12 := z2.keep e1 (by simp [nrh])
   generalize upd H1 a.hd (.dK (UZ (hdT l g) (Sum.inr n))) = H2 at z2 e2 e12 ⊢
   have nph : a.p ≠ a.hd := zJ h2 hA1.hs (by intro z; cases z)
   have sub : ∀ m ∈ l.filter (fun m => decide (m ≠ n)), m ∈ l := fun m hm => (List.mem_filter.mp hm).1
   refine q H2 ⟨⟨⟨dx2, z2.keep h2 (by simp [nph])⟩, hA1.tl.stp z2 (fun c hc z => hA.bt a.hd (by simp) (by rw [List.mem_singleton] at z; rw [← z]; exact hc)), by rw [e2, hdT, tabN_drop]; rfl, fun m hm => (hA1.en m (sub m hm)).step z2 (fun c hc z => hA.own m (sub m hm) c hc (by rw [List.mem_singleton] at z; rw [z]; simp [FA.own])), List.Pairwise.filter _ hA.nd, fun m hm m' hm' => hA.ap m (sub m hm) m' (sub m' hm'), fun m hm => hA.own m (sub m hm), hA.ne, hA.bt⟩, by rw [e12, rdT, tabN_drop]; rfl⟩ ?_
   have w1 : Stp (a.fp l g) H (a.fp l g) H2 := (z1.up fun c hc => List.mem_append_left _ (by rw [List.mem_singleton] at hc; rw [hc]; simp [FA.own])).trans (z2.up fun c hc => List.mem_append_left _ (by rw [List.mem_singleton] at hc; rw [hc]; simp [FA.own]))
   exact ⟨w1.1, w1.2, fun c hc => by
     rcases List.mem_append.mp hc with z | z
     · exact .inl (List.mem_append_left _ z)
     · obtain ⟨m, hm, hc⟩ := mem_fpF.mp z
       exact .inl (List.mem_append_right _ (mem_fpF.mpr ⟨m, sub m hm, hc⟩))⟩
abbrev qQJ : Stmt := vQ (top 21) 1
abbrev N_Fan_lay : List Str := ["self", "name", "size", "way"]
theorem sc_Fan_lay : FnScope N_Fan_lay ["self", "name", "size", "way"] (qZ qQJ) := ⟨rfl, rfl, rfl, by decide +kernel, rfl, by decide +kernel, by decide +kernel⟩
theorem okx_Fan_lay {f CF CT CR CH XR : Addr} {fd : FuncData} (F : Fun K "lay" "Fan.lay" qQJ f fd) (TC : TxtF K mg CF CT CR CH) (x_Taken : Exc K mg "Taken" XR) (i_Road : CalleeI P w K mg base 1 CR ["self", "size", "way"] (spInitR CR)) (i_Hearer : CalleeI P w K mg base 1 CH ["self"] (spInitH CH)) : FnOk P w K mg base (CXF P w) 3 f fd ["self", "name", "size", "way"] (spFLayX CF CT CR CH XR) := by
 refine F.okX sc_Fan_lay (fun vs H Q E h => ?_) (fun cdv A outer s0 H vs Q E hr h => ?_)
 · obtain ⟨a, l, g, k, all, n, sz, way, rfl, _⟩ := h; rfl
 · obtain ⟨a, l, g, k, all, n, sz, way, rfl, hA, q⟩ := h
   refine ⟨_, (qJ (zY (zZJ (pc_din (yG hr) (pv 1) (vJ K (pv 0) rfl))) (qV (ps_raise x_Taken (qU qv as_nil))) yv)
     (qJ (Yv (yG hr) (vJ K (pv 0) rfl) (pv 1) (as_make i_Road (hr.mono (by decide)) TC.mg_Road (qU (pv 2) (qM (pv 3) as_nil))) rfl)
     (qV (Yv (yG hr) (vJ K (pv 0) rfl) (pv 1) (as_make0 i_Hearer (hr.mono (by decide)) TC.mg_Hearer) rfl)))), ?_⟩
   obtain ⟨dx, h1⟩ := hA.ob
   refine ⟨_, rfl, _, rfl, a.p, CF, dx, _, _, rfl, h1, TC.cl_Fan, TC.R_Fan.n_roads, fFl_r a, a.rd, _, rfl, DGet.k (k := Sum.inr n) hA.rs, _, rfl, ?_⟩
   rcases q with ⟨hn, hl, q⟩ | ⟨hn, q⟩
   case inr =>
     rw [show valV (rdT l g) (Sum.inr n) = some (.ref (g n).p) from YQ hn]
     exact iteT ⟨(show 1 ≤ sizeLine by decide), q⟩
   rw [show valV (rdT l g) (Sum.inr n) = none from qQQ hn]
   refine iteF ⟨_, rfl, _, rfl, ?_⟩
   intro p1 dx1 np1 nd1 nx1
   refine ⟨p1, dx1, sz, way, rfl, qQ, fun r d H2 RA st2 => ⟨rfl, ?_⟩⟩
   have v2 : Stp [] H [p1, r, d] H2 := (Stp.obj (o := .own p1) (o' := .ins CR dx1 []) np1 nd1).trans st2
   have hA2 := hA.step v2 fun _ _ => List.not_mem_nil
   have o2 : ∀ c ∈ a.fp l g, c ∉ [p1, r, d] := hA.out v2 fun _ _ => List.not_mem_nil
   obtain ⟨dx2, h2⟩ := hA2.ob
   have hkr : (rdT l g).length < sizeLine := by rw [rdT, UU, sizeLine_eq]; omega
   have hkh : (hdT l g).length < sizeLine := by rw [hdT, UU, sizeLine_eq]; omega
   refine ⟨_, rfl, a.p, CF, dx2, _, _, rfl, h2, TC.cl_Fan, TC.R_Fan.n_roads, fFl_r a, _, rfl, a.rd, _, rfl, DPut.k (k := Sum.inr n) hA2.rs hkr, ?_⟩
   have z3 := Stp.put (ps := [a.rd]) (o := .dK (putK (rdT l g) (Sum.inr n) (.ref p1))) hA2.rs (fun _ z => by cases z) (by simp)
   have erd := qQ (H := H2) (a := a.rd) (o := .dK (putK (rdT l g) (Sum.inr n) (.ref p1)))
   have rdo : a.rd ∈ a.own := by simp [FA.own]
   have hdo : a.hd ∈ a.own := by simp [FA.own]
   have own_fp : ∀ c ∈ a.own, c ∈ a.fp l g := fun c hc => List.mem_append_left _ hc
   have RA3 := RA.step z3 (fun c hc z => o2 a.rd (own_fp _ rdo) (by rw [List.mem_singleton] at z; rw [← z]; exact hc))
   have hA3 := hA2.toFAt0.step z3 (fun c _ hne z => hne (List.mem_singleton.mp z))
   generalize upd H2 a.rd (.dK (putK (rdT l g) (Sum.inr n) (.ref p1))) = H3 at z3 erd RA3 hA3 ⊢
   intro p2 dx3 np2 nd2 nx2
   refine ⟨p2, dx3, rfl, qQ, fun B H4 ep hB st4 => ⟨rfl, ?_⟩⟩
   subst ep
   have v4 : Stp [] H3 B.fp H4 := (Stp.obj (o := .own B.p) (o' := .ins CH dx3 []) np2 nd2).trans st4
   have hA4 := hA3.step v4 (fun _ _ _ => List.not_mem_nil)
   have RA4 := RA3.step v4 (fun _ _ => List.not_mem_nil)
   have oR : ∀ c ∈ [p1, r, d], c ∉ B.fp := RA3.out v4 fun _ _ => List.not_mem_nil
   have erd4 := v4.keep erd List.not_mem_nil
   have w3 : Stp [a.rd] H [a.rd] H3 := ((v2.weak (qs := [a.rd]) (qs' := [a.rd]) (fun _ z => absurd z List.not_mem_nil) fun c hc => .inr hc)).trans z3
   have o4 : ∀ c ∈ a.fp l g, c ∉ B.fp := fun c hc => by
     obtain ⟨o, ho⟩ := hA.live c hc
     by_cases z : c = a.rd
     · rw [z]; exact v4.out erd List.not_mem_nil
     · exact v4.out (w3.keep ho (by simp [z])) List.not_mem_nil
   obtain ⟨dx4, h4⟩ := hA4.ob
   refine ⟨_, rfl, a.p, CF, dx4, _, _, rfl, h4, TC.cl_Fan, TC.R_Fan.n_hearers, fFl_h a, _, rfl, a.hd, _, rfl, DPut.k (k := Sum.inr n) hA4.hs hkh, ?_⟩
   have z5 := Stp.put (ps := [a.hd]) (o := .dK (putK (hdT l g) (Sum.inr n) (.ref B.p))) hA4.hs (fun _ z => by cases z) (by simp)
   have ehd := qQ (H := H4) (a := a.hd) (o := .dK (putK (hdT l g) (Sum.inr n) (.ref B.p)))
   have nrh : a.rd ≠ a.hd := fun z => hA.ne (by simp [z])
   have erd5 := z5.keep erd4 (by simp [nrh])
   generalize upd H4 a.hd (.dK (putK (hdT l g) (Sum.inr n) (.ref B.p))) = H5 at z5 ehd erd5 ⊢
   have nph : a.p ≠ a.hd := zJ h4 hA4.hs (by intro z; cases z)
   have hE : FEAt CR CH H5 ⟨p1, r, d, sz, way, ⟨[], [], false⟩, B, hs0⟩ := ⟨RA4.step z5 (fun c hc z => o2 a.hd (own_fp _ hdo) (by rw [List.mem_singleton] at z; rw [← z]; exact hc)), hB.step z5 (fun c hc z => o4 a.hd (own_fp _ hdo) (by rw [List.mem_singleton] at z; rw [← z]; exact hc)), oR⟩
   have efp : ∀ c, c ∈ FE.fp ⟨p1, r, d, sz, way, ⟨[], [], false⟩, B, hs0⟩ ↔ c ∈ [p1, r, d] ∨ c ∈ B.fp := fun c => List.mem_append
   have oE : ∀ c ∈ a.fp l g, c ∉ FE.fp ⟨p1, r, d, sz, way, ⟨[], [], false⟩, B, hs0⟩ := fun c hc z => ((efp c).mp z).elim (o2 c hc) (o4 c hc)
   have up_ne : ∀ m ∈ l, updE g n ⟨p1, r, d, sz, way, ⟨[], [], false⟩, B, hs0⟩ m = g m := fun m hm => zZ (fun z => hn (z ▸ hm))
   have fpm : ∀ m ∈ l, ∀ c ∈ (g m).fp, c ∈ a.fp l g := fun m hm c hc => List.mem_append_right _ (mem_fpF.mpr ⟨m, hm, hc⟩)
   have mem' : ∀ m ∈ l ++ [n], m ∈ l ∨ m = n := fun m hm => by simpa using hm
   refine q ⟨p1, r, d, sz, way, ⟨[], [], false⟩, B, hs0⟩ H5 ⟨⟨⟨dx4, z5.keep h4 (by simp [nph])⟩, hA4.tl.stp z5 (fun c hc z => hA.bt a.hd (by simp) (by rw [List.mem_singleton] at z; rw [← z]; exact hc)), ?_, fun m hm => ?_, ?_, fun m hm m' hm' hne c hc => ?_, fun m hm c hc => ?_, hA.ne, hA.bt⟩, ?_⟩ rfl rfl rfl rfl ?_
   · rw [ehd]
     have e := vJJ (F := fun n => V.ref (g n).B.p) hn (.ref B.p)
     rw [hdT, e]
     refine congrArg (fun x => some (HO.dK x)) (Yq fun m hm => ?_)
     show (if m = n then V.ref B.p else V.ref (g m).B.p) = _
     by_cases z : m = n
     · subst z; rw [if_pos rfl, yY]
     · rw [if_neg z, zZ z]
   · rcases mem' m hm with z | rfl
     · rw [up_ne m z]
       exact (hA4.en m z).step z5 (fun c hc y => hA.own m z c hc (by rw [List.mem_singleton] at y; rw [y]; exact hdo))
     · rw [yY]; exact hE
   · exact List.nodup_append.mpr ⟨hA.nd, by simp, fun x hx y hy e => by simp at hy; rw [hy] at e; rw [e] at hx; exact hn hx⟩
   · rcases mem' m hm with z | rfl
     · rw [up_ne m z] at hc
       rcases mem' m' hm' with z' | rfl
       · rw [up_ne m' z']; exact hA.ap m z m' z' hne c hc
       · rw [yY]; exact oE c (fpm m z c hc)
     · rw [yY] at hc
       rcases mem' m' hm' with z' | rfl
       · rw [up_ne m' z']; exact fun y => oE c (fpm m' z' c y) hc
       · exact absurd rfl hne
   · rcases mem' m hm with z | rfl
     · rw [up_ne m z] at hc; exact hA.own m z c hc
     · rw [yY] at hc; exact fun y => oE c (own_fp c y) hc
   · rw [erd5]
     have e := vJJ (F := fun n => V.ref (g n).p) hn (.ref p1)
     rw [rdT, e]
     refine congrArg (fun x => some (HO.dK x)) (Yq fun m hm => ?_)
     show (if m = n then V.ref p1 else V.ref (g m).p) = _
     by_cases z : m = n
     · subst z; rw [if_pos rfl, yY]
     · rw [if_neg z, zZ z]
   · refine ⟨fun c o ho hc => z5.keep (v4.keep (w3.keep ho (fun z => hc ?_)) List.not_mem_nil) (fun z => hc ?_), (w3.tup.trans v4.tup).trans z5.tup, fun c hc => ?_⟩
     · rw [List.mem_singleton] at z; rw [z]; exact own_fp _ rdo
     · rw [List.mem_singleton] at z; rw [z]; exact own_fp _ hdo
     · rcases List.mem_append.mp hc with z | z
       · exact .inl (own_fp c z)
       · obtain ⟨m, hm, hc⟩ := mem_fpF.mp z
         rcases mem' m hm with y | rfl
         · rw [up_ne m y] at hc; exact .inl (fpm m y c hc)
         · rw [yY] at hc
           rcases (efp c).mp hc with y | y
           · rcases v2.3 c y with u | u
             · exact absurd u List.not_mem_nil
             · exact .inr u
           · rcases v4.3 c y with u | u
             · exact absurd u List.not_mem_nil
             · rcases w3.free' u with t | t
               · rw [List.mem_singleton] at t; exact .inl (by rw [t]; exact own_fp _ rdo)
               · exact .inr t
abbrev QJ : Stmt := vQ (top 21) 14
abbrev qUY : List Str := ["self", "greatest"]
theorem sc_Fan_slowest : FnScope qUY ["self"] (qZ QJ) := ⟨rfl, rfl, rfl, by decide +kernel, rfl, by decide +kernel, by decide +kernel⟩
theorem ok_Fan_slowest {f CF CT CR CH XR : Addr} {fd : FuncData} (F : Fun K "slowest" "Fan.slowest" QJ f fd) (T : Txt mg) (TC : TxtF K mg CF CT CR CH) (m_names : CalleeM P w K mg base 1 CF "names" ["self"] (QQY CF CT CR CH)) (mx_lag : CalleeMX P w K mg base 3 CF "lag" ["self", "name"] (QQJ CF CT CR CH XR)) : FnOk P w K mg base CX0 4 f fd ["self"] (spFSlow CF CT CR CH) := by
 refine F.ok sc_Fan_slowest (fun vs H Q E h => ?_) (fun cdv A outer s0 H vs Q E hr h => ?_)
 · obtain ⟨a, l, g, k, all, rfl, _⟩ := h; rfl
 · obtain ⟨a, l, g, k, all, rfl, hA, hl, q⟩ := h
   refine ⟨_, (qJ (yB (i := 1) sc_Fan_slowest.nd rfl (Or.inr rfl) (k_maxD K rfl (vUJ (N' := ["name", "self"]) (ix := [none, some 0]) (own := [0]) rfl (cs_of (osc := qZ QJ) (ON := qUY) rfl rfl (by decide +kernel)) (by decide) (YG K (zz m_names TC.cl_Fan (hr.mono (by decide)) (pv 0))) (fun _ _ _ _ => (Qz (i := 0) (show (["name", "self"] : List Str).Nodup by decide +kernel) rfl (Or.inl rfl))) qZY (fun _ _ _ _ => pifs_nil) (fun _ _ _ _ => (yD mx_lag TC.cl_Fan (hr.mono (by decide)) YM (pv 1) (qU (pv 0) as_nil)))) T.b_max))
     (qV (qz (vUJ (N' := ["name", "self", "greatest"]) (ix := [none, some 0, some 1]) (own := [0]) rfl (cs_of (osc := qZ QJ) (ON := qUY) rfl rfl (by decide +kernel)) (by decide) (YG K (zz m_names TC.cl_Fan (hr.mono (by decide)) (pv 0))) (fun _ _ _ _ => (Qz (i := 0) (show (["name", "self", "greatest"] : List Str).Nodup by decide +kernel) rfl (Or.inl rfl))) qZY (fun _ _ _ _ => (vQZ (qw MG (yD mx_lag TC.cl_Fan (hr.mono (by decide)) YM (pv 1) (qU (pv 0) as_nil)) (pv 2) (yU _)))) (fun _ _ _ _ => (pv 0)))))), ?_⟩
   obtain ⟨dx, h1⟩ := hA.ob
   refine ⟨_, rfl, a.p, dx, _, rfl, h1, no_f (.inr (.inr (.inr (.inl rfl)))), a, l, g, k, all, rfl, hA, hl, fun q1 ts nq1 hts => ?_⟩
   have g1 := Same.new (o := .lst (ts.map V.str)) nq1
   have eq1 := qQ (H := H) (a := q1) (o := .lst (ts.map V.str))
   have hA1 := hA.same g1
   generalize upd H q1 (.lst (ts.map V.str)) = H1 at g1 eq1 hA1 ⊢
   have lts : ts.length = l.length := hts.perm.length_eq
   have mts : ∀ n ∈ ts, n ∈ l := fun n hn => hts.perm.mem_iff.mp hn
   refine ⟨q1, rfl, ⟨_, SqL.ofL eq1⟩, ts.length, fun i ys H' => Same H1 H' ∧ ys = ((ts.take i).map fun n => lagF all (g n)).map V.int, szl (by omega), ⟨Same.refl _, rfl⟩, ?_, ?_⟩
   · rintro i ys H' hi ⟨sH, rfl⟩
     have ei : (ts.map V.str)[i]? = some (V.str ts[i]) := by rw [List.getElem?_map, List.getElem?_eq_getElem hi]; rfl
     refine ⟨⟨_, _, SqL.ofL (sH _ _ eq1), ei⟩, ?_⟩
     rintro x H3 ⟨rfl, hx⟩
     have hx' := hx _ (SqL.ofL (sH _ _ eq1))
     rw [ei] at hx'
     obtain rfl := Option.some.inj hx'
     have hA' := hA1.same sH
     obtain ⟨dx', h1'⟩ := hA'.ob
     refine Qv ⟨_, rfl, a.p, dx', _, rfl, h1', no_f (.inr (.inr (.inr (.inr (.inr (.inr (.inr (.inr (.inr (.inr (.inl rfl))))))))))), _, rfl, a, l, g, k, all, ts[i], rfl, hA', .inl ⟨mts _ (List.getElem_mem hi), sH, ?_⟩⟩
     rw [List.take_add_one, List.getElem?_eq_getElem hi, List.map_append, List.map_append]; rfl
   rintro yr H2 ⟨s2, rfl⟩
   rw [List.take_length]
   refine ⟨⟨_, SqL.ofL (s2 _ _ eq1), by rw [List.length_map]; exact Nat.le_refl _⟩, fun lr nlr => ?_⟩
   have g3 := Same.new (o := .lst ((ts.map fun n => lagF all (g n)).map V.int)) nlr
   have w3 := (g1.trans s2).trans g3
   have elr := qQ (H := H2) (a := lr) (o := .lst ((ts.map fun n => lagF all (g n)).map V.int))
   generalize upd H2 lr (.lst ((ts.map fun n => lagF all (g n)).map V.int)) = H3 at w3 elr ⊢
   have hA3 := hA.same w3
   refine ⟨lr, _, rfl, SqL.ofL elr, fun hnil => ?_, fun M hM hmax => ?_⟩
   all_goals first
     | (have hmx : IsMax (ts.map fun n => lagF all (g n)) 0 := .inl ⟨hnil, rfl⟩; clear hnil; generalize (0 : Int) = M at hmx ⊢)
     | (have hmx : IsMax (ts.map fun n => lagF all (g n)) M := .inr ⟨hM, hmax⟩; clear hM hmax)
   all_goals
     obtain ⟨dx3, h3⟩ := hA3.ob
     refine ⟨_, rfl, a.p, dx3, _, rfl, h3, no_f (.inr (.inr (.inr (.inl rfl)))), a, l, g, k, all, rfl, hA3, hl, fun q2 ts2 nq2 hts2 => ?_⟩
     have ets : ts2 = ts := hts2.eq hts.perm hts.rise
     subst ets
     have g4 := Same.new (o := .lst (ts2.map V.str)) nq2
     have eq2 := qQ (H := H3) (a := q2) (o := .lst (ts2.map V.str))
     have w4 := w3.trans g4
     generalize upd H3 q2 (.lst (ts2.map V.str)) = H4 at eq2 w4 g4 ⊢
     refine ⟨q2, rfl, ⟨_, SqL.ofL eq2⟩, ts2.length, fun i ys H' => Same H4 H' ∧ ys = ((ts2.take i).filter fun n => decide (lagF all (g n) = M)).map V.str, szl (by omega), ⟨Same.refl _, rfl⟩, ?_, ?_⟩
     · rintro i ys H' hi ⟨sH, rfl⟩
       have ei : (ts2.map V.str)[i]? = some (V.str ts2[i]) := by rw [List.getElem?_map, List.getElem?_eq_getElem hi]; rfl
       refine ⟨⟨_, _, SqL.ofL (sH _ _ eq2), ei⟩, ?_⟩
       rintro x H5 ⟨rfl, hx⟩
       have hx' := hx _ (SqL.ofL (sH _ _ eq2))
       rw [ei] at hx'
       obtain rfl := Option.some.inj hx'
       have hA' := hA.same (w4.trans sH)
       obtain ⟨dx', h1'⟩ := hA'.ob
       refine Qv ⟨_, rfl, a.p, dx', _, rfl, h1', no_f (.inr (.inr (.inr (.inr (.inr (.inr (.inr (.inr (.inr (.inr (.inl rfl))))))))))), _, rfl, a, l, g, k, all, ts2[i], rfl, hA', .inl ⟨mts _ (List.getElem_mem hi), _, rfl, rfl, _, rfl, ite2 (fun z => ⟨_, rfl, sH, ?_⟩) (fun z => ⟨sH, ?_⟩)⟩⟩
       · have z' : lagF all (g ts2[i]) = M := V.int.inj (of_decide_eq_true z)
         rw [List.take_add_one, List.getElem?_eq_getElem hi, List.filter_append, List.map_append]
         congr 1
         show _ = List.map V.str (List.filter _ [ts2[i]])
         rw [List.filter_cons, if_pos (decide_eq_true z')]; rfl
       · have z' : ¬ lagF all (g ts2[i]) = M := fun y => z (decide_eq_true (congrArg V.int y))
         rw [List.take_add_one, List.getElem?_eq_getElem hi, List.filter_append]
         show _ = List.map V.str (_ ++ List.filter _ [ts2[i]])
         rw [List.filter_cons, if_neg (by rw [decide_eq_false z']; decide), List.filter_nil, List.append_nil]
     rintro yr H5 ⟨s5, rfl⟩
     rw [List.take_length]
     refine ⟨⟨_, SqL.ofL (s5 _ _ eq2), by rw [List.length_map]; exact Nat.le_refl _⟩, fun D nD => ?_⟩
     have w5 := w4.trans s5
     exact q D ts2 M _ (w5.trans (Same.new nD)) ((w5.step []).free nD List.not_mem_nil) hts hmx qQ
theorem nfC {a : FA} : (fFl a).lookup ("carry" : Str) = none := no_f (.inr (.inr (.inr (.inr (.inr (.inl rfl))))))
theorem nfT {a : FA} : (fFl a).lookup ("tell" : Str) = none := no_f (.inr (.inr (.inr (.inr (.inl rfl)))))
theorem nfN {a : FA} : (fFl a).lookup ("names" : Str) = none := no_f (.inr (.inr (.inr (.inl rfl))))
theorem nfU {a : FA} : (fFl a).lookup ("catch_up" : Str) = none := no_f (.inr (.inr (.inr (.inr (.inr (.inr (.inl rfl)))))))
theorem nfH {a : FA} : (fFl a).lookup ("heard" : Str) = none := no_f (.inr (.inr (.inr (.inr (.inr (.inr (.inr (.inl rfl))))))))
theorem nfO {a : FA} : (fFl a).lookup ("lost" : Str) = none := no_f (.inr (.inr (.inr (.inr (.inr (.inr (.inr (.inr (.inl rfl)))))))))
theorem nfW {a : FA} : (fFl a).lookup ("waiting" : Str) = none := no_f (.inr (.inr (.inr (.inr (.inr (.inr (.inr (.inr (.inr (.inl rfl))))))))))
theorem nfL {a : FA} : (fFl a).lookup ("lag" : Str) = none := no_f (.inr (.inr (.inr (.inr (.inr (.inr (.inr (.inr (.inr (.inr (.inl rfl)))))))))))
theorem nfY {a : FA} : (fFl a).lookup ("lay" : Str) = none := no_f (.inr (.inr (.inr (.inr (.inr (.inr (.inr (.inr (.inr (.inr (.inr (.inr (.inl rfl)))))))))))))
theorem nfS {a : FA} : (fFl a).lookup ("slowest" : Str) = none := no_f (.inr (.inr (.inr (.inr (.inr (.inr (.inr (.inr (.inr (.inr (.inr (.inl rfl))))))))))))
theorem nfX {a : FA} : (fFl a).lookup ("close" : Str) = none := no_f (.inr (.inr (.inr (.inr (.inr (.inr (.inr (.inr (.inr (.inr (.inr (.inr (.inr rfl)))))))))))))
structure FO (all : List Msg) (e : FE) : Prop where
 sub : ∀ m ∈ e.s.rows, m ∈ all
 hw : Hw all e.h
 sum : e.s.rows.length + e.s.out.length ≤ all.length
 sz : 1 ≤ e.sz
theorem FO.put {all : List Msg} {m : Msg} {e e' : FE} (h : FO all e) (p : FPut m e e') : FO (all ++ [m]) e' := by
 have hs := h.sum
 have key : (∀ x ∈ (ZD e.sz e.way e.s m).rows, x ∈ all ∨ x = m) ∧ (ZD e.sz e.way e.s m).rows.length + (ZD e.sz e.way e.s m).out.length ≤ all.length + 1 := by
   unfold ZD
   split
   · refine ⟨fun x hx => .inl (h.sub x hx), ?_⟩
     simp only [List.length_append, List.length_singleton]; omega
   split
   · refine ⟨fun x hx => ?_, ?_⟩
     · rcases List.mem_append.mp hx with z | z
       · exact .inl (h.sub x z)
       · exact .inr (List.mem_singleton.mp z)
     · simp only [List.length_append, List.length_singleton]; omega
   · next hfull =>
     have hpos : 1 ≤ e.s.rows.length := by have := h.sz; omega
     split
     · refine ⟨fun x hx => ?_, ?_⟩
       · rcases List.mem_append.mp hx with z | z
         · exact .inl (h.sub x (List.mem_of_mem_drop z))
         · exact .inr (List.mem_singleton.mp z)
       · simp only [List.length_append, List.length_singleton, List.length_drop, List.length_map, List.length_take]; omega
     split
     · refine ⟨fun x hx => .inl (h.sub x hx), ?_⟩
       simp only [List.length_append, List.length_singleton]; omega
     · refine ⟨fun x hx => absurd hx List.not_mem_nil, ?_⟩
       simp only [List.length_append, List.length_singleton, List.length_map, List.length_nil]; omega
 refine ⟨fun x hx => ?_, ?_, ?_, by rw [p.sz]; exact h.sz⟩
 · rw [p.s] at hx
   rcases key.1 x hx with z | z
   · exact List.mem_append_left _ z
   · rw [z]; simp
 · rw [p.h]
   exact h.hw.more (fun x hx => List.mem_append_left _ hx) (by rw [List.length_append]; omega)
 · rw [p.s, List.length_append]
   exact key.2
theorem FO.sizes {all : List Msg} {e : FE} (hR : Rows all) (h : FO all e) : e.h.heard.length + e.h.lost.length ≤ all.length ∧ e.h.held.length ≤ all.length ∧ e.h.next ≤ (all.length : Int) + 1 := by
 have hu := h.hw.toHw0.up hR
 have e1 : e.h.next = (e.h.heard.length : Int) + (e.h.lost.length : Int) + 1 := rfl
 have hd : e.h.held.Nodup := (List.pairwise_map.mp h.hw.dh).imp fun h e => h (congrArg Msg.n e)
 have hl := List.Nodup.length_le_of_subset hd fun m hm => h.hw.sub m (.inr hm)
 omega
theorem FO.carry {all : List Msg} {e e' : FE} {i : Nat} (hR : Rows all) (h : FO all e) (h1 : e'.sz = e.sz) (h2 : e'.s = { e.s with rows := e.s.rows.drop i }) (h3 : e'.h = vV e.h (e.s.rows.take i)) : FO all e' where
 sub m hm := by rw [h2] at hm; exact h.sub m (List.mem_of_mem_drop hm)
 hw := by rw [h3]; exact h.hw.take hR fun m hm => h.sub m (List.mem_of_mem_take hm)
 sum := by
   rw [h2]
   have := h.sum
   show (e.s.rows.drop i).length + e.s.out.length ≤ _
   rw [List.length_drop]; omega
 sz := by rw [h1]; exact h.sz
theorem FO.catch {all : List Msg} {e e' : FE} {k : Int} (hR : Rows all) (hk : 0 ≤ k) (h : FO all e) (h1 : e'.sz = e.sz) (h2 : e'.s = { e.s with cut := false }) (h3 : e'.h = vG k all e.h) : FO all e' where
 sub m hm := by rw [h2] at hm; exact h.sub m hm
 hw := by rw [h3]; exact (h.hw.catch hR hk (h.hw.toHw0.up hR)).1
 sum := by rw [h2]; exact h.sum
 sz := by rw [h1]; exact h.sz
theorem FO.new {all : List Msg} {e : FE} (h1 : 1 ≤ e.sz) (h2 : e.s = ⟨[], [], false⟩) (h3 : e.h = hs0) : FO all e where
 sub m hm := by rw [h2] at hm; exact absurd hm List.not_mem_nil
 hw := by rw [h3]; exact Hw.start all
 sum := by rw [h2]; exact Nat.zero_le _
 sz := h1
structure FG (CF CT CR CH : Addr) (H : Hp) (a : FA) (l : List Str) (g : Str → FE) (k : Int) (all : List Msg) : Prop where
 fa : FAt CF CT CR CH H a l g k all
 en : ∀ n ∈ l, FO all (g n)
 rows : Rows all
 ok : ∀ m ∈ all, mOk m
 k0 : 0 ≤ k
 ln : l.length ≤ 3
section
variable {CF CT CR CH : Addr} {H H' : Hp} {a : FA} {l : List Str} {g g' : Str → FE} {k : Int} {all : List Msg} {n : Str} {e : FE}
theorem FG.same (h : FG CF CT CR CH H a l g k all) (s : Same H H') : FG CF CT CR CH H' a l g k all := ⟨h.fa.same s, h.en, h.rows, h.ok, h.k0, h.ln⟩
theorem FG.step {ps ps' : List Addr} (h : FG CF CT CR CH H a l g k all) (st : Stp ps H ps' H') (hd : ∀ c ∈ a.fp l g, c ∉ ps) : FG CF CT CR CH H' a l g k all := ⟨h.fa.step st hd, h.en, h.rows, h.ok, h.k0, h.ln⟩
theorem FG.tell (h : FG CF CT CR CH H a l g k all) {t x : Str} (ht : PyData.strOk t = true) (hx : PyData.strOk x = true) (fa : FAt CF CT CR CH H' a l g' k (all ++ [⟨(all.length : Int) + 1, t, x⟩])) (hp : ∀ n ∈ l, FPut ⟨(all.length : Int) + 1, t, x⟩ (g n) (g' n)) : FG CF CT CR CH H' a l g' k (all ++ [⟨(all.length : Int) + 1, t, x⟩]) :=
 ⟨fa, fun n hn => (h.en n hn).put (hp n hn), h.rows.snoc rfl, fun m hm => by
   rcases List.mem_append.mp hm with z | z
   · exact h.ok m z
   · rw [List.mem_singleton] at z; rw [z]; exact ⟨ht, hx⟩, h.k0, h.ln⟩
theorem FG.upd (h : FG CF CT CR CH H a l g k all) (fa : FAt CF CT CR CH H' a l (updE g n e) k all) (he : FO all e) : FG CF CT CR CH H' a l (updE g n e) k all :=
 ⟨fa, fun m hm => by
   by_cases z : m = n
   · subst z; rw [yY]; exact he
   · rw [zZ z]; exact h.en m hm, h.rows, h.ok, h.k0, h.ln⟩
theorem FG.lay (h : FG CF CT CR CH H a l g k all) (fa : FAt CF CT CR CH H' a (l ++ [n]) (updE g n e) k all) (he : FO all e) (hl : l.length ≤ 2) : FG CF CT CR CH H' a (l ++ [n]) (updE g n e) k all :=
 ⟨fa, fun m hm => by
   by_cases z : m = n
   · subst z; rw [yY]; exact he
   · rw [zZ z]
     rcases List.mem_append.mp hm with y | y
     · exact h.en m y
     · exact absurd (List.mem_singleton.mp y) z, h.rows, h.ok, h.k0, by rw [List.length_append]; show _ + 1 ≤ 3; omega⟩
theorem FG.room (h : FG CF CT CR CH H a l g k all) (hl : all.length ≤ 20) : ∀ n ∈ l, (g n).s.rows.length < 63 ∧ (g n).s.out.length < 1000 := fun n hn => by
 have := (h.en n hn).sum
 omega
theorem FG.can (h : FG CF CT CR CH H a l g k all) (hl : all.length ≤ 20) (hn : n ∈ l) (i : Nat) : Fits (g n).h ((g n).s.rows.take i) ∧ (∀ m ∈ (g n).s.rows, mOk m) ∧ Diff (g n).h.held ∧ (g n).h.heard.length + (g n).h.held.length + (g n).h.lost.length < 1000 ∧ (g n).s.rows.length < 1000 := by
 have hE := h.en n hn
 have hz := hE.sizes h.rows
 have hs := hE.sum
 exact ⟨hE.hw.toHw0.fits h.rows (fun m hm => hE.sub m (List.mem_of_mem_take hm)), fun m hm => h.ok m (hE.sub m hm), hE.hw.dh, by omega, by omega⟩
end
structure TxtX (K : W.Frag) (mg : Str → Option Value) (XT XN XR XK XO : Addr) : Prop where
 a_TellError : mg "TellError" = some (.ref XT)
 a_NoNumber : mg "NoNumber" = some (.ref XN)
 a_NoRoad : mg "NoRoad" = some (.ref XR)
 a_Taken : mg "Taken" = some (.ref XK)
 a_Other : mg "Other" = some (.ref XO)
 zR : ExcCls K XR
 zK : ExcCls K XK
 rN : W.kitOne K (.ref XR) (.ref XN) = some false
 rR : W.kitOne K (.ref XR) (.ref XR) = some true
 rK : W.kitOne K (.ref XR) (.ref XK) = some false
 rO : W.kitOne K (.ref XR) (.ref XO) = some false
 rV : W.kitOne K (.ref XR) (.type "ValueError") = some true
 rm : W.exmOne K (.ref XR) (.ref XT) = some true
 kN : W.kitOne K (.ref XK) (.ref XN) = some false
 kR : W.kitOne K (.ref XK) (.ref XR) = some false
 kK : W.kitOne K (.ref XK) (.ref XK) = some true
 kO : W.kitOne K (.ref XK) (.ref XO) = some false
 kV : W.kitOne K (.ref XK) (.type "ValueError") = some true
 km : W.exmOne K (.ref XK) (.ref XT) = some true
theorem boot_ValueError : bootBuiltins "ValueError" = some (.type "ValueError") := by rfl
theorem first1 : ∀ m, m < 1 → ([false, true, false, false] : List Bool)[m]? = some false := by
 intro m hm
 have hc : m = 0 := by omega
 subst hc; rfl
theorem first2 : ∀ m, m < 2 → ([false, false, true, false] : List Bool)[m]? = some false := by
 intro m hm
 have hc : m = 0 ∨ m = 1 := by omega
 rcases hc with rfl | rfl <;> rfl
def zZQ (XR XK : Addr) : Sp := fun vs H Q _ => ∃ a, vs = [.ref a] ∧ ((H a = some (ExcO a (.ref XR)) ∧ ∀ q H', Same H H' → H' q = some (.tup [.str "refused", .int 1]) → Q (.ref q) H') ∨ (H a = some (ExcO a (.ref XK)) ∧ ∀ q H', Same H H' → H' q = some (.tup [.str "refused", .int 2]) → Q (.ref q) H'))
abbrev Uy : Stmt := top 30
abbrev N_l_refused : List Str := ["_law_e", "_law_flags"]
theorem sc_l_refused : FnScope N_l_refused ["_law_e"] (qZ Uy) := ⟨rfl, rfl, rfl, by decide +kernel, rfl, by decide +kernel, by decide +kernel⟩
theorem ok_l_refused {f XT XN XR XK XO : Addr} {fd : FuncData} (F : Fun K "_law_refused" "_law_refused" Uy f fd) (T : Txt mg) (TX : TxtX K mg XT XN XR XK XO) : FnOkH P w K mg base CX0 1 f fd ["_law_e"] (zZQ XR XK) := by
 refine F.okH sc_l_refused (fun vs H Q E h => ?_) (fun cdv A outer s H vs Q E hr h => ?_)
 · obtain ⟨a, rfl, _⟩ := h; rfl
 · obtain ⟨a, rfl, q⟩ := h
   refine ⟨_, (qJ (yB (i := 1) sc_l_refused.nd rfl (Or.inl rfl) (vw (qM (yJ (k_isiX K (c := .ref XN) ref_one) (by rfl) T.b_isinstance PyProof.Rows.boot_isinstance (qU (pv 0) (qM (pe_glob (v := .ref XN) rfl TX.a_NoNumber rfl) as_nil))) (qM (yJ (k_isiX K (c := .ref XR) ref_one) (by rfl) T.b_isinstance PyProof.Rows.boot_isinstance (qU (pv 0) (qM (pe_glob (v := .ref XR) rfl TX.a_NoRoad rfl) as_nil))) (qM (yJ (k_isiX K (c := .ref XK) ref_one) (by rfl) T.b_isinstance PyProof.Rows.boot_isinstance (qU (pv 0) (qM (pe_glob (v := .ref XK) rfl TX.a_Taken rfl) as_nil))) as_nil)))))
     (qJ (yB (i := 1) sc_l_refused.nd rfl (Or.inl rfl) (yz vYY (pv 1) (vw (qM (yJ (k_isiX K (c := .ref XO) ref_one) (by rfl) T.b_isinstance PyProof.Rows.boot_isinstance (qU (pv 0) (qM (pe_glob (v := .ref XO) rfl TX.a_Other rfl) as_nil))) as_nil))))
     (qJ (zY (PW.pt (pw_or (qw op_ne (k_bm K PySem.F.plainAttrs_list PySem.F.slot_list_count PySem.F.type_list_count mt_countB (pv 1) (zq MB YB)) qG (yU _)) (pw_or1 (pt_not (pt_val (yJ (k_isiX K (c := .type "ValueError") ty_one) (by rfl) T.b_isinstance PyProof.Rows.boot_isinstance (qU (pv 0) (qM (pe_bltn (v := .ty "ValueError") (by rfl) T.b_ValueError boot_ValueError rfl) as_nil)))))))) (qV (qz (Zz (qM qv (qM (pe_un un_neg qG) as_nil))))) yv)
     (qV (qz (Zz (qM qv (qM (k_bm K PySem.F.plainAttrs_list PySem.F.slot_list_index PySem.F.type_list_index mt_indexB (pv 1) (zq MB YB)) as_nil)))))))), ?_⟩
   rcases q with ⟨ha, q⟩ | ⟨ha, q⟩
   · refine ⟨_, rfl, a, XR, _, false, rfl, rfl, ha, TX.zR, TX.rN, ?_⟩
     refine ⟨_, rfl, a, XR, _, true, rfl, rfl, ha, TX.zR, TX.rR, ?_⟩
     refine ⟨_, rfl, a, XR, _, false, rfl, rfl, ha, TX.zR, TX.rK, ?_⟩
     refine ⟨(show 3 ≤ sizeLine by decide), fun l hl => ?_⟩
     have s1 := Same.new (o := .lst [.bl false, .bl true, .bl false]) hl
     refine ⟨_, rfl, _, rfl, a, XR, _, false, rfl, rfl, s1 _ _ ha, TX.zR, TX.rO, (show 1 ≤ sizeLine by decide), fun l2 hl2 => ?_⟩
     have s2 := Same.new (o := .lst [.bl false]) hl2
     refine ⟨l, l2, _, _, rfl, rfl, s2 _ _ qQ, qQ, (show 4 ≤ sizeLine by decide), fun l3 hl3 => ?_⟩
     have t3 := (s1.trans s2).trans (Same.new (o := .lst ([.bl false, .bl true, .bl false] ++ [.bl false])) hl3)
     have e3 : upd (upd (upd H l (.lst [.bl false, .bl true, .bl false])) l2 (.lst [.bl false])) l3 (.lst ([.bl false, .bl true, .bl false] ++ [.bl false])) l3 = some (.lst ([false, true, false, false].map V.bl)) := qQ
     generalize upd (upd (upd H l (.lst [.bl false, .bl true, .bl false])) l2 (.lst [.bl false])) l3 (.lst ([.bl false, .bl true, .bl false] ++ [.bl false])) = H3 at t3 e3 ⊢
     refine ⟨_, rfl, .inl ⟨rfl, _, SqL.ofL e3⟩, l3, [false, true, false, false], rfl, rfl, e3, rfl, _, rfl, iteF ?_⟩
     refine ⟨_, rfl, a, XR, _, true, rfl, rfl, t3 _ _ ha, TX.zR, TX.rV, _, rfl, iteF ?_⟩
     refine ⟨_, rfl, .inl ⟨rfl, _, SqL.ofL e3⟩, l3, [false, true, false, false], 1, rfl, rfl, e3, rfl, first1, (show 2 ≤ sizeLine by decide), fun p hp => ?_⟩
     exact q p _ (t3.trans (Same.new hp)) qQ
   · refine ⟨_, rfl, a, XK, _, false, rfl, rfl, ha, TX.zK, TX.kN, ?_⟩
     refine ⟨_, rfl, a, XK, _, false, rfl, rfl, ha, TX.zK, TX.kR, ?_⟩
     refine ⟨_, rfl, a, XK, _, true, rfl, rfl, ha, TX.zK, TX.kK, ?_⟩
     refine ⟨(show 3 ≤ sizeLine by decide), fun l hl => ?_⟩
     have s1 := Same.new (o := .lst [.bl false, .bl false, .bl true]) hl
     refine ⟨_, rfl, _, rfl, a, XK, _, false, rfl, rfl, s1 _ _ ha, TX.zK, TX.kO, (show 1 ≤ sizeLine by decide), fun l2 hl2 => ?_⟩
     have s2 := Same.new (o := .lst [.bl false]) hl2
     refine ⟨l, l2, _, _, rfl, rfl, s2 _ _ qQ, qQ, (show 4 ≤ sizeLine by decide), fun l3 hl3 => ?_⟩
     have t3 := (s1.trans s2).trans (Same.new (o := .lst ([.bl false, .bl false, .bl true] ++ [.bl false])) hl3)
     have e3 : upd (upd (upd H l (.lst [.bl false, .bl false, .bl true])) l2 (.lst [.bl false])) l3 (.lst ([.bl false, .bl false, .bl true] ++ [.bl false])) l3 = some (.lst ([false, false, true, false].map V.bl)) := qQ
     generalize upd (upd (upd H l (.lst [.bl false, .bl false, .bl true])) l2 (.lst [.bl false])) l3 (.lst ([.bl false, .bl false, .bl true] ++ [.bl false])) = H3 at t3 e3 ⊢
     refine ⟨_, rfl, .inl ⟨rfl, _, SqL.ofL e3⟩, l3, [false, false, true, false], rfl, rfl, e3, rfl, _, rfl, iteF ?_⟩
     refine ⟨_, rfl, a, XK, _, true, rfl, rfl, t3 _ _ ha, TX.zK, TX.kV, _, rfl, iteF ?_⟩
     refine ⟨_, rfl, .inl ⟨rfl, _, SqL.ofL e3⟩, l3, [false, false, true, false], 2, rfl, rfl, e3, rfl, first2, (show 2 ≤ sizeLine by decide), fun p hp => ?_⟩
     exact q p _ (t3.trans (Same.new hp)) qQ
abbrev JZ : Stmt := top 25
abbrev N_l_hearer : List Str := []
theorem sc_l_hearer : FnScope N_l_hearer [] (qZ JZ) := ⟨rfl, rfl, rfl, by decide +kernel, rfl, by decide +kernel, by decide +kernel⟩
theorem ok_l_hearer {f : Addr} {fd : FuncData} (F : Fun K "_law_hearer" "_law_hearer" JZ f fd) : FnOk P w K mg base CX0 1 f fd [] spLNew := by
 refine F.ok sc_l_hearer (fun vs H Q E h => ?_) (fun cdv A outer s0 H vs Q E hr h => ?_)
 · obtain ⟨rfl, _⟩ := h; rfl
 · obtain ⟨rfl, q⟩ := h
   refine ⟨_, (qV (qz (pe_disp (Jq qv (vw as_nil) (Jq qv Mq (Jq qv (vw as_nil) pps_nil))) rfl rfl (List.cons_ne_nil _ _) (Nat.le_of_ble_eq_true rfl)))), ?_⟩
   intro p np
   refine ⟨Nat.zero_le _, fun r nr => ?_⟩
   intro h nh
   refine ⟨Nat.zero_le _, fun g ng => ?_⟩
   have k1 := Same.new (o := .dK []) np
   have k2 := Same.new (o := .lst []) nr
   have k3 := Same.new (o := .dK []) nh
   have k4 := Same.new (o := .lst []) ng
   have ep := (k2.trans (k3.trans k4)) _ _ (qQ (H := H) (a := p) (o := .dK []))
   have er := (k3.trans k4) _ _ (qQ (H := upd H p (.dK [])) (a := r) (o := .lst []))
   have eh := k4 _ _ (qQ (H := upd (upd H p (.dK [])) r (.lst [])) (a := h) (o := .dK []))
   have eg := qQ (H := upd (upd (upd H p (.dK [])) r (.lst [])) h (.dK [])) (a := g) (o := .lst [])
   have npr : p ≠ r := qB qQ nr
   have nph : p ≠ h := qB (k2 _ _ qQ) nh
   have npg : p ≠ g := qB ((k2.trans k3) _ _ qQ) ng
   have nrg : r ≠ g := qB (k3 _ _ qQ) ng
   refine ⟨ep, [(Sum.inr "rows", .ref r), (Sum.inr "held", .ref h), (Sum.inr "gone", .ref g)], rfl, (show 3 ≤ 15 by decide), ?_⟩
   have em : zJZ [] [(Sum.inr "rows", V.ref r), (Sum.inr "held", V.ref h), (Sum.inr "gone", V.ref g)] = lK ⟨p, r, h, g⟩ := rfl
   rw [em]
   have st := Stp.put (ps := [p]) (o := .dK (lK ⟨p, r, h, g⟩)) ep (fun _ z => by cases z) (by simp)
   refine q ⟨p, r, h, g⟩ _ ⟨qQ, ⟨[], st.keep er (by simp [npr.symm]), Ms.nil⟩, ⟨[], st.keep eh (by simp [nph.symm]), .nil⟩, st.keep eg (by simp [npg.symm]), nrg, nph⟩ ?_
   have w : Stp [] H [g, h, r, p] _ := (Stp.make (o := .dK []) np).trans ((Stp.make (o := .lst []) nr).trans ((Stp.make (o := .dK []) nh).trans (Stp.make (o := .lst []) ng)))
   exact (w.trans (st.up (by simp))).weak (by simp) (by simp [LA.fp])
abbrev Uz : Stmt := top 26
abbrev N_l_expects : List Str := ["_law_mine"]
theorem sc_l_expects : FnScope N_l_expects ["_law_mine"] (qZ Uz) := ⟨rfl, rfl, rfl, by decide +kernel, rfl, by decide +kernel, by decide +kernel⟩
theorem ok_l_expects {f : Addr} {fd : FuncData} (F : Fun K "_law_expects" "_law_expects" Uz f fd) (T : Txt mg) : FnOk P w K mg base CX0 1 f fd ["_law_mine"] yVQ := by
 refine F.ok sc_l_expects (fun vs H Q E h => ?_) (fun cdv A outer s0 H vs Q E hr h => ?_)
 · obtain ⟨a, s, rfl, _⟩ := h; rfl
 · obtain ⟨a, s, rfl, L, q⟩ := h
   refine ⟨_, (qV (qz (yz QB (yz QB (yJ (vU K) (by rfl) T.b_len PySem.boot_len (qU (yy (yG hr) (pv 0) qv (fun _ _ => rfl)) as_nil)) (yJ (vU K) (by rfl) T.b_len PySem.boot_len (qU (yy (yG hr) (pv 0) qv (fun _ _ => rfl)) as_nil))) qG))), ?_⟩
   obtain ⟨ys, h2, m2⟩ := L.ro
   refine ⟨_, rfl, a.m, .ref a.q, rfl, lK_rows a ▸ DGet.k (k := Sum.inr "rows") L.ob, a.q, _, rfl, .inl (SqL.ofL h2), _, rfl, a.m, .ref a.g, rfl, lK_gone a ▸ DGet.k (k := Sum.inr "gone") L.ob, a.g, _, rfl, .inl (SqL.ofL L.go), _, _, rfl, rfl, _, _, rfl, rfl, ?_⟩
   rw [m2.len, List.length_map]; exact q
abbrev Uv : Stmt := top 27
abbrev N_l_goes_on : List Str := ["_law_mine", "_law_found", "_law_message"]
theorem sc_l_goes_on : FnScope N_l_goes_on ["_law_mine"] (qZ Uv) := ⟨rfl, rfl, rfl, by decide +kernel, rfl, by decide +kernel, by decide +kernel⟩
theorem ok_l_goes_on {f : Addr} {fd : FuncData} (F : Fun K "_law_goes_on" "_law_goes_on" Uv f fd) (T : Txt mg) (c_l_expects : Callee P w K mg base 1 "_law_expects" ["_law_mine"] yVQ) : FnOk P w K mg base CX0 2 f fd ["_law_mine"] spLGo := by
 refine F.ok sc_l_goes_on (fun vs H Q E h => ?_) (fun cdv A outer s0 H vs Q E hr h => ?_)
 · obtain ⟨a, s, rfl, _⟩ := h; rfl
 · obtain ⟨a, s, rfl, L, hd, hsz, q⟩ := h
   refine ⟨_, (qJ (yB (i := 1) sc_l_goes_on.nd rfl (Or.inl rfl) (vw as_nil))
     (qJ (ps_while PassesOwn.never (zZJ (pc_din (yG hr) (zB c_l_expects (hr.mono (by decide)) (qU (pv 0) as_nil)) (yy (yG hr) (pv 0) qv (fun _ _ => rfl)))) (qJ (yB (i := 2) sc_l_goes_on.nd rfl (Or.inl rfl) (vQJ (yy (yG hr) (pv 0) qv (fun _ _ => rfl)) (zB c_l_expects (hr.mono (by decide)) (qU (pv 0) as_nil)) ⟨rfl, rfl, rfl, rfl⟩))
     (qJ (vY (k_bm K PySem.F.plainAttrs_list PySem.F.slot_list_append PySem.F.type_list_append UQ (yy (yG hr) (pv 0) qv (fun _ _ => rfl)) (zq (pv 2) YB)))
     (qV (vY (k_bm K PySem.F.plainAttrs_list PySem.F.slot_list_append PySem.F.type_list_append UQ (pv 1) (zq (pv 2) YB)))))))
     (qV (qz (pv 1))))), ?_⟩
   refine ⟨Nat.zero_le _, fun l hl0 => ?_⟩
   have nl : l ∉ a.fp := L.free hl0
   have s1 := Same.new (o := .lst []) hl0
   let W : Nat → St → Hp → Prop := fun m σ H' => ∃ (t : HS) (found : List Msg) (fs : List V) (o2 : Option V), m = t.held.length ∧ σ = [some (.ref a.m), some (.ref l), o2] ∧ yM t = yM s ∧ t.heard = s.heard ++ found ∧ t.heard.length + t.held.length = s.heard.length + s.held.length ∧ Diff t.held ∧ LAt H' a t ∧ H' l = some (.lst fs) ∧ Ms H' fs found ∧ Stp a.fp H (l :: a.fp) H'
   refine ⟨W, ⟨_, s, [], [], none, rfl, rfl, rfl, (List.append_nil _).symm, rfl, hd, L.same s1, qQ, Ms.nil, Stp.make hl0⟩, ?_⟩
   rintro m σ H' ⟨t, found, fs, o2, rfl, rfl, et, eh, esz, hdt, Lt, gl, gm, st⟩
   obtain ⟨nmq, nmh, nmg, nqh, nqg, nhg⟩ := Lt.apart
   obtain ⟨g1, ⟨yq, g2, m2⟩, ⟨kv, g3, d3⟩, g4, _, _⟩ := id Lt
   have nl' : l ≠ a.m ∧ l ≠ a.q ∧ l ≠ a.h ∧ l ≠ a.g := by simpa [LA.fp] using nl
   have hlf := congrArg List.length eh
   rw [List.length_append] at hlf
   refine ⟨_, rfl, a, t, rfl, Lt, _, rfl, a.m, .ref a.h, rfl, lK_held a ▸ DGet.k (k := Sum.inr "held") g1, a.h, _, rfl, DGet.k (k := Sum.inl t.next) g3, _, rfl, ?_⟩
   cases e : UB t.held t.next with
   | none =>
     rw [d3.none _ e]
     have eS : yM s = t := by rw [← et]; exact JB e
     rw [eS] at q
     exact iteF ⟨_, rfl, q l fs found _ Lt eh st hl0 nl gl gm⟩
   | some m =>
     obtain ⟨c, hv, hc⟩ := d3.some _ e
     obtain ⟨hmm, hmn⟩ := zU e
     rw [hv]
     refine iteT ⟨fun σ' H2 => ∃ m', m' < t.held.length ∧ W m' σ' H2, fun _ _ z => z, ?_⟩
     refine ⟨_, rfl, a.m, .ref a.h, rfl, lK_held a ▸ DGet.k (k := Sum.inr "held") g1, a.h, rfl, .inl ⟨kv, .inl g3⟩, _, rfl, a, t, rfl, Lt, kv, Sum.inl t.next, .ref c, g3, rfl, hv, ?_⟩
     have sa := Stp.put (ps := [a.h]) (o := .dK (UZ kv (Sum.inl t.next))) g3 (fun _ z => by cases z) (by simp)
     have g1a := sa.keep g1 (by simp [nmh])
     have g2a := sa.keep g2 (by simp [nqh])
     refine ⟨_, rfl, a.m, .ref a.q, rfl, lK_rows a ▸ DGet.k (k := Sum.inr "rows") g1a, .inl ⟨rfl, _, SqL.ofL g2a⟩, _, rfl, a.q, _, _, rfl, rfl, g2a, by rw [m2.len, sizeLine_eq]; omega, ?_⟩
     have sb := Stp.put (ps := [a.q]) (o := .lst (yq ++ [.ref c])) g2a (fun _ z => by cases z) (by simp)
     have glb := sb.keep (sa.keep gl (by simp [nl'.2.2.1])) (by simp [nl'.2.1])
     refine ⟨_, rfl, .inl ⟨rfl, _, SqL.ofL glb⟩, _, rfl, l, _, _, rfl, rfl, glb, by rw [gm.len, sizeLine_eq]; omega, ?_⟩
     have sc := Stp.put (ps := [l]) (o := .lst (fs ++ [.ref c])) glb (fun _ z => by cases z) (by simp)
     have tps := (sa.tup.trans sb.tup).trans sc.tup
     have hcz := tps _ _ hc
     have dl := vVJ hdt hmm
     refine ⟨_, dropN_lt hmm, ⟨t.heard ++ [m], YD t.held m.n, t.lost⟩, found ++ [m], fs ++ [.ref c], _, rfl, rfl, by rw [← zUQ e]; exact et, by rw [eh, List.append_assoc], by show (t.heard ++ [m]).length + (YD t.held m.n).length = _; rw [List.length_append, List.length_singleton]; omega, Zv hdt,
       ⟨sc.keep (sb.keep g1a (by simp [nmq])) (by simp [nl'.1.symm]), ⟨_, sc.keep qQ (by simp [nl'.2.1.symm]), (m2.tups tps).append (Ms.one hcz)⟩, ⟨_, sc.keep (sb.keep qQ (by simp [nqh.symm])) (by simp [nl'.2.2.1.symm]), by rw [hmn]; exact (d3.drop t.next).tups tps⟩, sc.keep (sb.keep (sa.keep g4 (by simp [nhg.symm])) (by simp [nqg.symm])) (by simp [nl'.2.2.2.symm]), nqg, nmh⟩, qQ, (gm.tups tps).append (Ms.one hcz), ?_⟩
     exact st.trans ((sa.weak (qs := l :: a.fp) (by simp [LA.fp]) (fun _ z => .inr z)).trans ((sb.weak (qs := l :: a.fp) (by simp [LA.fp]) (fun _ z => .inr z)).trans (sc.up (by simp))))
abbrev qQY : Stmt := top 28
abbrev N_l_takes : List Str := ["_law_mine", "_law_message", "_law_known", "_law_other"]
theorem sc_l_takes : FnScope N_l_takes ["_law_mine", "_law_message"] (qZ qQY) := ⟨rfl, rfl, rfl, by decide +kernel, rfl, by decide +kernel, by decide +kernel⟩
theorem ok_l_takes {f : Addr} {fd : FuncData} (F : Fun K "_law_takes" "_law_takes" qQY f fd) (T : Txt mg) (c_l_expects : Callee P w K mg base 1 "_law_expects" ["_law_mine"] yVQ) (c_l_goes_on : Callee P w K mg base 2 "_law_goes_on" ["_law_mine"] spLGo) : FnOk P w K mg base CX0 3 f fd ["_law_mine", "_law_message"] zVJ := by
 refine F.ok sc_l_takes (fun vs H Q E h => ?_) (fun cdv A outer s0 H vs Q E hr h => ?_)
 · obtain ⟨a, s, c, m, rfl, _⟩ := h; rfl
 · obtain ⟨a, s, c, m, rfl, L, hg, hc, hm, h9, hf, q⟩ := h
   refine ⟨_, (qJ (yB (i := 2) sc_l_takes.nd rfl (Or.inl rfl) (yZY call_dictD (by rfl) T.b_dict PyProof.Rows.boot_dict (qU (yy (yG hr) (pv 0) qv (fun _ _ => rfl)) as_nil)))
     (qJ (qJJ PassesOwn.never rfl (YG K (yy (yG hr) (pv 0) qv (fun _ _ => rfl))) (Qz (i := 3) sc_l_takes.nd rfl (Or.inl rfl)) (qV (Yv (yG hr) (pv 2) (qZQ (UM K) (pv 3) qG (fun _ _ => rfl)) (pv 3) rfl)))
     (qJ (zY (qw (vYQ hr.units) (pe_dget2 (yG hr) (pv 2) (qZQ (UM K) (pv 1) qG (fun _ _ => rfl)) (pv 1) ⟨rfl, rfl, rfl, rfl⟩) (pv 1) (yU _)) (qV (qz (Zz (qM qv (qM qG as_nil))))) yv)
     (qJ (zY (qw op_ge (qZQ (UM K) (pv 1) qG (fun _ _ => rfl)) (zB c_l_expects (hr.mono (by decide)) (qU (pv 0) as_nil)) (yU _)) (qV (Yv (yG hr) (yy (yG hr) (pv 0) qv (fun _ _ => rfl)) (qZQ (UM K) (pv 1) qG (fun _ _ => rfl)) (pv 1) rfl)) yv)
     (qV (qz (zB c_l_goes_on (hr.mono (by decide)) (qU (pv 0) as_nil)))))))), ?_⟩
   obtain ⟨g1, ⟨yq, g2, m2⟩, ⟨kv, g3, d3⟩, g4, _, _⟩ := id L
   have hsz := hg.toHV0.sizes hg.toHV0.pos
   refine ⟨_, rfl, a.m, .ref a.h, rfl, lK_held a ▸ DGet.k (k := Sum.inr "held") g1, a.h, kv, rfl, g3, fun k nk => ?_⟩
   have s1 := Same.new (o := .dK kv) nk
   have nka := L.free nk
   refine ⟨_, rfl, a.m, .ref a.q, rfl, lK_rows a ▸ DGet.k (k := Sum.inr "rows") (s1 _ _ g1), a.q, rfl, ⟨_, SqL.ofL (s1 _ _ g2)⟩, vZJ (K := K) (a := a.q) (xs := yq) (fun i σ H' => ∃ (o3 : Option V) (kvs : List (Key × V)) (ms : List Msg), σ = [some (.ref a.m), some (.ref c), some (.ref k), o3] ∧ Stp [] H [k] H' ∧ H' k = some (.dK kvs) ∧ DI H' kvs ms ∧ Diff ms ∧ ms.length ≤ s.held.length + i ∧ ∀ x, x ∈ ms ↔ x ∈ s.held ∨ x ∈ s.heard.take i)
     ⟨_, kv, s.held, rfl, Stp.make nk, qQ, d3.same s1, hg.dh, Nat.le_refl _, fun x => by rw [List.take_zero]; simp⟩ (fun i σ H' _ h => ?_) ?_ ?_⟩
   · obtain ⟨o3, kvs, ms, rfl, w, _⟩ := h
     exact SqL.ofL (w.same _ _ g2)
   · rintro i y σ H' hi ⟨o3, kvs, ms, rfl, w, hk, dk, hd, hml, hmem⟩
     have hil : i < s.heard.length := by rw [← m2.len]; exact (List.getElem?_eq_some_iff.mp hi).1
     obtain ⟨cx, ec, hcx⟩ := (m2.same w.same).get hil
     rw [hi] at ec
     obtain rfl := Option.some.inj ec
     refine Qv ?_
     have hin : s.heard[i] ∈ s.heard := List.getElem_mem hil
     have new : ∀ x ∈ ms, x.n ≠ (s.heard[i]).n := fun x hx => by
       rcases (hmem x).mp hx with z | z
       · exact hg.toHV0.apart _ hin x z
       · obtain ⟨j, hj, rfl⟩ := List.getElem_of_mem z
         rw [List.length_take] at hj
         rw [List.getElem_take]
         have := List.pairwise_iff_getElem.mp hg.rise j i (by omega) hil (by omega)
         omega
     refine ⟨_, rfl, _, rfl, _, rfl, cx, _, 0, _, rfl, rfl, SqT.ofT hcx, rfl, k, _, rfl, DPut.k (k := Sum.inl (s.heard[i]).n) hk (by rw [dk.len, sizeLine_eq]; omega), ?_⟩
     have st := Stp.put (ps := [k]) (o := .dK (putK kvs (Sum.inl (s.heard[i]).n) (.ref cx))) hk (fun _ z => by cases z) (by simp)
     have e : putM ms s.heard[i] = ms ++ [s.heard[i]] := putM_new new
     refine ⟨_, _, putM ms s.heard[i], rfl, w.trans st, qQ, (dk.tups st.tup).put (Mv (st.tup _ _ hcx)), qYY (fun x hx z => absurd z (new x hx)) hd, by have := putM_len (ms := ms) (m := s.heard[i]); omega, fun x => ?_⟩
     rw [UV (fun x hx z => absurd z (new x hx)), hmem, List.take_add_one, List.getElem?_eq_getElem hil, Option.toList_some, List.mem_append, List.mem_singleton, or_assoc]
   · rintro σ H' ⟨o3, kvs, ms, rfl, w, hk, dk, hd, hml, hmem⟩
     rw [m2.len, List.take_length] at hmem
     have hc' := w.same _ _ hc
     have L' := L.same w.same
     have okx : ∀ x ∈ ms, mOk x := fun x hx => by
       rcases (hmem x).mp hx with z | z
       · exact (hg.ok x (.inr z)).1
       · exact (hg.ok x (.inl z)).1
     refine ⟨_, rfl, k, rfl, .inl ⟨kvs, .inl hk⟩, _, rfl, c, _, 0, _, rfl, rfl, SqT.ofT hc', rfl, _, rfl, _, DGet.k (k := Sum.inl m.n) hk, _, rfl, ?_⟩
     have ht : ∃ cx, (valV kvs (Sum.inl m.n)).getD (.ref c) = .ref cx ∧ H' cx = some (mT m) := by
       cases e : UB ms m.n with
       | none => rw [dk.none _ e]; exact ⟨c, rfl, hc'⟩
       | some x =>
         obtain ⟨cx, hv, hcx⟩ := dk.some _ e
         obtain ⟨e1, e2⟩ := zU e
         have : x = m := hf.1 m (by simp) x ((hmem x).mp e1).symm e2
         rw [hv]
         exact ⟨cx, rfl, by rw [hcx, this]⟩
     obtain ⟨cx, hv, hcx⟩ := ht
     rw [hv]
     refine ⟨_, _, Mv hcx, Mv hc', shaped_m hm, shaped_m hm, _, rfl, ?_⟩
     rw [eqv_m, decide_eq_true rfl]
     refine iteF ?_
     obtain ⟨j1, ⟨yq', j2, mj2⟩, ⟨kv', j3, dj3⟩, j4, nqg, nmh⟩ := id L'
     obtain ⟨nmq, _, nmg, nqh, _, nhg⟩ := L'.apart
     refine ⟨_, rfl, c, _, 0, _, rfl, rfl, SqT.ofT hc', rfl, _, rfl, a, s, rfl, L', _, _, rfl, rfl, _, rfl, ?_⟩
     refine ite2 (fun z => ?_) (fun z => ?_)
     · have z' : m.n ≥ s.next := of_decide_eq_true z
       have eA : addS s m = ⟨s.heard, putM s.held m, s.lost⟩ := by unfold addS; rw [if_pos z']
       have hs : ∀ x ∈ s.held, x.n = m.n → x = m := fun x hx e => hf.1 m (by simp) x (.inr hx) e
       refine ⟨_, rfl, _, rfl, a.m, .ref a.h, rfl, lK_held a ▸ DGet.k (k := Sum.inr "held") j1, _, rfl, c, _, 0, _, rfl, rfl, SqT.ofT hc', rfl, a.h, _, rfl, DPut.k (k := Sum.inl m.n) j3 (by rw [dj3.len, sizeLine_eq]; omega), ?_⟩
       have sa := Stp.put (ps := [a.h]) (o := .dK (putK kv' (Sum.inl m.n) (.ref c))) j3 (fun _ z => by cases z) (by simp)
       have L2 : LAt (upd H' a.h (.dK (putK kv' (Sum.inl m.n) (.ref c)))) a (addS s m) := by
         rw [eA]
         exact ⟨sa.keep j1 (by simp [nmh]), ⟨yq', sa.keep j2 (by simp [nqh]), mj2.step sa⟩, ⟨_, qQ, (dj3.tups sa.tup).put (Mv (sa.tup _ _ hc'))⟩, sa.keep j4 (by simp [nhg.symm]), nqg, nmh⟩
       have hpl : (putM s.held m).length ≤ s.held.length + 1 := putM_len
       refine ⟨_, rfl, a, addS s m, rfl, L2, by rw [eA]; exact qYY hs hg.dh, by rw [eA]; show s.heard.length + (putM s.held m).length < 1000; omega, fun l ys found H3 L3 eh st nl ol el ml => ?_⟩
       have nlh : l ≠ a.h := fun e => by rw [e, qQ] at nl; cases nl
       rw [qY nlh] at nl
       refine q l ys found H3 L3 (by rw [zUZ] at eh; exact eh) ((w.same.step a.fp).trans ((sa.up (by simp [LA.fp])).trans st)) (w.same.free nl) ol el ml
     · have z' : ¬ m.n ≥ s.next := fun y => z (decide_eq_true y)
       have eA : addS s m = s := by unfold addS; rw [if_neg z']
       have eT : vV s [m] = yM s := by show yM (addS s m) = _; rw [eA]
       rw [eT] at q
       exact ⟨_, rfl, a, s, rfl, L', hg.dh, by omega, fun l ys found H3 L3 eh st nl ol el ml => q l ys found H3 L3 eh ((w.same.step a.fp).trans st) (w.same.free nl) ol el ml⟩
abbrev Zw : Stmt := top 29
abbrev N_l_gives_up : List Str := ["_law_mine", "_law_number", "_law_found"]
theorem sc_l_gives_up : FnScope N_l_gives_up ["_law_mine", "_law_number"] (qZ Zw) := ⟨rfl, rfl, rfl, by decide +kernel, rfl, by decide +kernel, by decide +kernel⟩
theorem ok_l_gives_up {f : Addr} {fd : FuncData} (F : Fun K "_law_gives_up" "_law_gives_up" Zw f fd) (c_l_expects : Callee P w K mg base 1 "_law_expects" ["_law_mine"] yVQ) (c_l_goes_on : Callee P w K mg base 2 "_law_goes_on" ["_law_mine"] spLGo) : FnOk P w K mg base CX0 3 f fd ["_law_mine", "_law_number"] spLGiveV := by
 refine F.ok sc_l_gives_up (fun vs H Q E h => ?_) (fun cdv A outer s0 H vs Q E hr h => ?_)
 · obtain ⟨a, s, n, rfl, _⟩ := h; rfl
 · obtain ⟨a, s, n, rfl, L, hg, hn, q⟩ := h
   refine ⟨_, (qJ (yB (i := 2) sc_l_gives_up.nd rfl (Or.inl rfl) (vw as_nil))
     (qJ (ps_while PassesOwn.never (qw op_lt (zB c_l_expects (hr.mono (by decide)) (qU (pv 0) as_nil)) (pv 1) (yU _)) (qJ (yB (i := 2) sc_l_gives_up.nd rfl (Or.inl rfl) (yz vYY (pv 2) (zB c_l_goes_on (hr.mono (by decide)) (qU (pv 0) as_nil))))
     (qV (zY (qw op_lt (zB c_l_expects (hr.mono (by decide)) (qU (pv 0) as_nil)) (pv 1) (yU _)) (qV (vY (k_bm K PySem.F.plainAttrs_list PySem.F.slot_list_append PySem.F.type_list_append UQ (yy (yG hr) (pv 0) qv (fun _ _ => rfl)) (zq (zB c_l_expects (hr.mono (by decide)) (qU (pv 0) as_nil)) YB)))) yv))))
     (qV (qz (yz vYY (pv 2) (zB c_l_goes_on (hr.mono (by decide)) (qU (pv 0) as_nil))))))), ?_⟩
   refine ⟨Nat.zero_le _, fun l0 nl0 => ?_⟩
   have k0 := Same.new (o := .lst []) nl0
   let W : Nat → St → Hp → Prop := fun u σ H' => ∃ (t : HS) (l : Addr) (fs : List V) (found : List Msg), u = (n - t.next).toNat ∧ σ = [some (.ref a.m), some (.int n), some (.ref l)] ∧ LAt H' a t ∧ HV0 t ∧ vv n (yM t) = vv n s ∧ t.heard = s.heard ++ found ∧ Stp a.fp H a.fp H' ∧ H l = none ∧ l ∉ a.fp ∧ H' l = some (.lst fs) ∧ Ms H' fs found
   refine ⟨W, ⟨_, s, l0, [], [], rfl, rfl, L.same k0, hg.toHV0, by rw [hg.quiet], (List.append_nil _).symm, k0.step _, nl0, L.free nl0, qQ, Ms.nil⟩, ?_⟩
   rintro u σ H' ⟨t, l, fs, found, rfl, rfl, Lt, hgt, egv, eh, st, hl, nl, el, mf⟩
   refine ⟨_, rfl, a, t, rfl, Lt, _, rfl, _, _, rfl, rfl, _, rfl, ?_⟩
   have hszt := hgt.sizes hgt.pos
   have hfl : found.length ≤ 20 := by have := congrArg List.length eh; rw [List.length_append] at this; omega
   have lfs := mf.len
   refine ite2 (fun z => ?_) (fun z => ?_)
   · have z' : t.next < n := of_decide_eq_true z
     refine ⟨fun σ' H2 => ∃ m', m' < (n - t.next).toNat ∧ W m' σ' H2, fun _ _ z => z, ?_⟩
     refine ⟨_, rfl, _, rfl, a, t, rfl, Lt, hgt.dh, by omega, fun l2 y2 f2 H2 L2 eh2 st2 nl2 ol2 el2 m2 => ?_⟩
     have hg2 := hgt.hear
     have hs2 := hg2.toHV0.sizes hg2.toHV0.pos
     have lf2 : f2.length ≤ 20 := by have := congrArg List.length eh2; rw [List.length_append] at this; omega
     have ly2 := m2.len
     have el' := st2.keep el nl
     refine ⟨l, l2, _, _, rfl, rfl, el', el2, by rw [sizeLine_eq]; omega, fun l3 n3 => ?_⟩
     have v3 := Same.new (o := .lst (fs ++ y2)) n3
     have L3 := L2.same v3
     have ehh : (yM t).heard = s.heard ++ (found ++ f2) := by rw [eh2, eh, List.append_assoc]
     have st3 : Stp a.fp H a.fp _ := (st.trans ⟨st2.1, st2.2, fun c hc => st2.3 c (List.mem_cons_of_mem _ hc)⟩).trans (v3.step a.fp)
     have n3' : H l3 = none := by
       rcases st.free' (Stp.free' st2 n3 |>.elim (fun y => absurd y (L2.free n3)) id) with y | y
       · exact absurd y (L2.free n3)
       · exact y
     have m3 := ((mf.step st2).same v3).append (m2.same v3)
     have e3 := qQ (H := H2) (a := l3) (o := .lst (fs ++ y2))
     have nl3 := L2.free n3
     generalize upd H2 l3 (.lst (fs ++ y2)) = H3 at v3 L3 st3 m3 e3 ⊢
     refine ⟨_, rfl, a, _, rfl, L3, _, rfl, _, _, rfl, rfl, _, rfl, ?_⟩
     refine ite2 (fun y => ?_) (fun y => ?_)
     · have y' : (yM t).next < n := of_decide_eq_true y
       have hnx := Yz t
       obtain ⟨j1, j2, j3, j4, nqg, nmh⟩ := id L3
       obtain ⟨nmq, _, nmg, nqh, _, nhg⟩ := L3.apart
       refine ⟨_, rfl, a.m, .ref a.g, rfl, lK_gone a ▸ DGet.k (k := Sum.inr "gone") j1, .inl ⟨rfl, _, SqL.ofL j4⟩, _, rfl, a, _, rfl, L3, a.g, _, _, rfl, rfl, j4, by rw [List.length_map, sizeLine_eq]; omega, ?_⟩
       have sa := Stp.put (ps := [a.g]) (o := .lst ((yM t).lost.map V.int ++ [V.int (yM t).next])) j4 (fun _ z => by cases z) (by simp)
       obtain ⟨yq, b2, mb2⟩ := j2
       obtain ⟨kv, b3, db3⟩ := j3
       have nl3g : l3 ≠ a.g := fun e => nl3 (by rw [e]; simp [LA.fp])
       refine ⟨(n - (lose (yM t)).next).toNat, by rw [ZB]; omega, lose (yM t), l3, fs ++ y2, found ++ f2, rfl, rfl, ⟨sa.keep j1 (by simp [nmg]), ⟨yq, sa.keep b2 (by simp [nqg]), mb2.step sa⟩, ⟨kv, sa.keep b3 (by simp [nhg]), db3.tups sa.tup⟩, ?_, nqg, nmh⟩, hg2.lose (by omega), by rw [← giveS_lt y']; exact egv, ehh, st3.trans (sa.up (by simp [LA.fp])), n3', nl3, sa.keep e3 (by simp [nl3g]), m3.step sa⟩
       rw [qQ]
       show some (HO.lst (_ ++ [_])) = some (HO.lst (((yM t).lost ++ [(yM t).next]).map V.int))
       rw [List.map_append]; rfl
     · have y' : ¬ (yM t).next < n := fun x => y (decide_eq_true x)
       exact ⟨(n - (yM t).next).toNat, by omega, yM t, l3, fs ++ y2, found ++ f2, rfl, rfl, L3, hg2.toHV0, by rw [hg2.quiet]; exact egv, ehh, st3, n3', nl3, e3, m3⟩
   · have z' : ¬ t.next < n := fun y => z (decide_eq_true y)
     have hnx := Yz t
     have eg : vv n s = yM t := by rw [← egv]; exact vZZ (by omega)
     rw [eg] at q
     refine ⟨_, rfl, _, rfl, a, t, rfl, Lt, hgt.dh, by omega, fun l2 y2 f2 H2 L2 eh2 st2 nl2 ol2 el2 m2 => ?_⟩
     have hg2 := hgt.hear
     have hs2 := hg2.toHV0.sizes hg2.toHV0.pos
     have lf2 : f2.length ≤ 20 := by have := congrArg List.length eh2; rw [List.length_append] at this; omega
     have ly2 := m2.len
     have el' := st2.keep el nl
     refine ⟨l, l2, _, _, rfl, rfl, el', el2, by rw [sizeLine_eq]; omega, fun l3 n3 => ?_⟩
     have v3 := Same.new (o := .lst (fs ++ y2)) n3
     have n3' : H l3 = none := by
       rcases st.free' (Stp.free' st2 n3 |>.elim (fun y => absurd y (L2.free n3)) id) with y | y
       · exact absurd y (L2.free n3)
       · exact y
     have st3 := (st.trans ⟨st2.1, st2.2, fun c hc => st2.3 c (List.mem_cons_of_mem _ hc)⟩ : Stp a.fp H a.fp H2)
     exact q l3 (fs ++ y2) (found ++ f2) _ (L2.same v3) (by rw [eh2, eh, List.append_assoc]) (st3.trans (Stp.make n3)) n3' (L2.free n3) qQ (((mf.step st2).same v3).append (m2.same v3))
abbrev qVJ : Stmt := top 32
abbrev N_l_puts : List Str := ["_law_road", "_law_message"]
theorem sc_l_puts : FnScope N_l_puts ["_law_road", "_law_message"] (qZ qVJ) := ⟨rfl, rfl, rfl, by decide +kernel, rfl, by decide +kernel, by decide +kernel⟩
theorem ok_l_puts {f : Addr} {fd : FuncData} (F : Fun K "_law_puts" "_law_puts" qVJ f fd) (T : Txt mg) : FnOk P w K mg base CX0 1 f fd ["_law_road", "_law_message"] spOPut := by
 refine F.ok sc_l_puts (fun vs H Q E h => ?_) (fun cdv A outer s0 H vs Q E hr h => ?_)
 · obtain ⟨a, s, c, m, rfl, _⟩ := h; rfl
 · obtain ⟨a, s, c, m, rfl, hA, hc, hl, hcf, q⟩ := h
   obtain ⟨sz, way, rows, cut, hh⟩ := s
   refine ⟨_, (qV (zY (PW.pt (pw_and (pt_not (pt_val (yy (yG hr) (pv 0) qv (fun _ _ => rfl)))) (pw_and1 (qw op_lt (yJ (vU K) (by rfl) T.b_len PySem.boot_len (qU (yy (yG hr) (pv 0) qv (fun _ _ => rfl)) as_nil)) (yy (yG hr) (pv 0) qv (fun _ _ => rfl)) (yU _))))) (qV (vY (k_bm K PySem.F.plainAttrs_list PySem.F.slot_list_append PySem.F.type_list_append UQ (yy (yG hr) (pv 0) qv (fun _ _ => rfl)) (zq (pv 1) YB)))) (qV (zY (PW.pt (pw_and (pt_not (pt_val (yy (yG hr) (pv 0) qv (fun _ _ => rfl)))) (pw_and1 (qw MG (yy (yG hr) (pv 0) qv (fun _ _ => rfl)) qv (yU _))))) (qV (Yv (yG hr) (pv 0) qv (yz vYY (Jy (MD K) (yy (yG hr) (pv 0) qv (fun _ _ => rfl)) (qZJ qG) qJQ) (vw (qM (pv 1) as_nil))) rfl)) (qV (zY (qw MG (yy (yG hr) (pv 0) qv (fun _ _ => rfl)) qv (yU _)) (qJ (Yv (yG hr) (pv 0) qv (vw as_nil) rfl)
     (qV (Yv (yG hr) (pv 0) qv MB rfl))) yv)))))), ?_⟩
   obtain ⟨ys, h2, m2⟩ := hA.ro
   have gC : DGet H a.m (.str "cut") (some (.bl cut)) := oK_cut a ⟨sz, way, rows, cut, hh⟩ ▸ DGet.k (k := Sum.inr "cut") hA.ob
   have gR : DGet H a.m (.str "rows") (some (.ref a.q)) := oK_rows a ⟨sz, way, rows, cut, hh⟩ ▸ DGet.k (k := Sum.inr "rows") hA.ob
   have gS : DGet H a.m (.str "size") (some (.int sz)) := oK_size a ⟨sz, way, rows, cut, hh⟩ ▸ DGet.k (k := Sum.inr "size") hA.ob
   have gW : DGet H a.m (.str "way") (some (.str way)) := oK_way a ⟨sz, way, rows, cut, hh⟩ ▸ DGet.k (k := Sum.inr "way") hA.ob
   have ly := m2.len
   have hl' : rows.length < 100 := hl
   have ly' : ys.length = rows.length := ly
   have nqe : a.q ∉ a.E.fp := hA.ne _ (by simp)
   have hsz : ∀ s' : OS, (oK a s').length < sizeLine := fun s' => by show 5 < _; rw [sizeLine_eq]; omega
   refine ⟨_, rfl, a.m, _, rfl, gC, _, rfl, ?_⟩
   cases cut with
   | true =>
     refine iteF (iteF ⟨_, rfl, a.m, _, rfl, gC, _, rfl, iteF (iteF ⟨_, rfl, a.m, _, rfl, gW, rfl, _, rfl, ite2 (fun z => ?_) (fun z => ?_)⟩)⟩)
     · have z' : way = "cut" := V.str.inj (of_decide_eq_true z)
       refine ⟨Nat.zero_le _, fun le nle => ?_⟩
       have g1 := Same.new (o := .lst []) nle
       have A1 := hA.same g1
       have nle' := hA.free nle
       refine ⟨_, rfl, a.m, _, rfl, DPut.k (k := Sum.inr "rows") A1.ob (hsz _), ?_⟩
       rw [oK_putR]
       have ⟨A2, s2⟩ := A1.rows (q' := le) (ys := []) (r := []) qQ Ms.nil (fun z => nle' (List.mem_append_right _ z))
       have s12 : Stp a.fp H (OA.fp ⟨a.m, le, a.E⟩) _ := (Stp.make (ps := a.fp) (o := .lst []) nle).trans s2
       generalize upd (upd H le (.lst [])) a.m _ = H2 at A2 s12 ⊢
       refine ⟨_, rfl, a.m, _, rfl, DPut.k (k := Sum.inr "cut") A2.ob (by show 5 < _; rw [sizeLine_eq]; omega), ?_⟩
       rw [oK_putC]
       have ⟨A3, s3⟩ := A2.cut true
       have e : oput ⟨sz, way, rows, true, hh⟩ m = { (⟨sz, way, [], true, hh⟩ : OS) with cut := true } := by
         unfold oput
         rw [if_neg (fun z => by cases z.1), if_neg (fun z => by cases z.1), if_pos z']
       rw [e] at q
       exact q _ _ A3 rfl (s12.trans s3)
     · have z' : ¬ way = "cut" := fun y => z (decide_eq_true (congrArg V.str y))
       have e : oput ⟨sz, way, rows, true, hh⟩ m = ⟨sz, way, rows, true, hh⟩ := by
         unfold oput
         rw [if_neg (fun z => by cases z.1), if_neg (fun z => by cases z.1), if_neg z']
       rw [e] at q
       exact q a H hA rfl ((Same.refl H).step _)
   | false =>
     refine iteT ⟨_, rfl, a.m, _, rfl, gR, a.q, _, rfl, .inl (SqL.ofL h2), _, rfl, a.m, _, rfl, gS, _, _, rfl, rfl, _, rfl, ite2 (fun z => ?_) (fun z => ?_)⟩
     · have z' : (ys.length : Int) < sz := of_decide_eq_true z
       refine ⟨_, rfl, a.m, _, rfl, gR, .inl ⟨rfl, _, SqL.ofL h2⟩, _, rfl, a.q, _, _, rfl, rfl, h2, by rw [sizeLine_eq]; omega, ?_⟩
       have st := Stp.put (ps := [a.q]) (o := .lst (ys ++ [.ref c])) h2 (fun _ z => by cases z) (by simp)
       have e : oput ⟨sz, way, rows, false, hh⟩ m = ⟨sz, way, rows ++ [m], false, hh⟩ := by
         unfold oput
         rw [if_pos ⟨rfl, by show (rows.length : Int) < sz; omega⟩]
       rw [e] at q
       exact q a _ ⟨st.keep hA.ob (by simp [hA.mq]), ⟨_, qQ, (m2.step st).append (Ms.one (st.tup _ _ hc))⟩, hA.ea.step st (fun d hd y => nqe (by rw [List.mem_singleton] at y; rw [← y]; exact hd)), hA.ne⟩ rfl (st.up fun d hd => by rw [List.mem_singleton] at hd; rw [hd]; simp [OA.fp])
     · have z' : ¬ (ys.length : Int) < sz := fun y => z (decide_eq_true y)
       refine ⟨_, rfl, a.m, _, rfl, gC, _, rfl, iteT ⟨_, rfl, a.m, _, rfl, gW, rfl, _, rfl, ite2 (fun y => ?_) (fun y => ?_)⟩⟩
       · have y' : way = "old" := V.str.inj (of_decide_eq_true y)
         refine ⟨_, rfl, a.m, _, rfl, gR, _, rfl, a.q, ys, rfl, SqL.ofL h2, fun lc nlc => ?_⟩
         have e2 : cutV ys (some 1) none = ys.drop 1 := by rw [vJY (by omega)]; rfl
         rw [e2]
         have g1 := Same.new (o := .lst (ys.drop 1)) nlc
         refine ⟨_, rfl, (show 1 ≤ sizeLine by decide), fun l1 nl1 => ?_⟩
         have g2 := Same.new (o := .lst [V.ref c]) nl1
         refine ⟨lc, l1, _, _, rfl, rfl, g2 _ _ qQ, qQ, by rw [List.length_drop]; show _ + 1 ≤ _; rw [sizeLine_eq]; omega, fun ln nln => ?_⟩
         have g12 := g1.trans g2
         have g3 := Same.new (o := .lst (ys.drop 1 ++ [V.ref c])) nln
         have gg := g12.trans g3
         have A1 := hA.same gg
         have nln' : H ln = none := g12.free nln
         have nlf := hA.free nln'
         have eln := qQ (H := upd (upd H lc (.lst (ys.drop 1))) l1 (.lst [V.ref c])) (a := ln) (o := .lst (ys.drop 1 ++ [V.ref c]))
         have w1 : Stp a.fp H (ln :: a.fp) _ := (g12.step a.fp).trans (Stp.make (o := .lst (ys.drop 1 ++ [V.ref c])) nln)
         generalize upd (upd (upd H lc (.lst (ys.drop 1))) l1 (.lst [V.ref c])) ln (.lst (ys.drop 1 ++ [V.ref c])) = H1 at A1 gg eln w1 ⊢
         refine ⟨_, rfl, a.m, _, rfl, DPut.k (k := Sum.inr "rows") A1.ob (hsz _), ?_⟩
         rw [oK_putR]
         have ⟨A2, s2⟩ := A1.rows (q' := ln) (ys := ys.drop 1 ++ [V.ref c]) (r := rows.drop 1 ++ [m]) eln (((m2.drop 1).same gg).append (Ms.one (gg _ _ hc))) (fun z => nlf (List.mem_append_right _ z))
         have e : oput ⟨sz, way, rows, false, hh⟩ m = ⟨sz, way, rows.drop 1 ++ [m], false, hh⟩ := by
           unfold oput
           rw [if_neg (fun z => by have : (rows.length : Int) < sz := z.2; omega), if_pos ⟨rfl, y'⟩]
         rw [e] at q
         exact q _ _ A2 rfl (w1.trans s2)
       · have y' : ¬ way = "old" := fun x => y (decide_eq_true (congrArg V.str x))
         refine ⟨_, rfl, a.m, _, rfl, gW, rfl, _, rfl, ite2 (fun x => ?_) (fun x => ?_)⟩
         · have x' : way = "cut" := V.str.inj (of_decide_eq_true x)
           refine ⟨Nat.zero_le _, fun le nle => ?_⟩
           have g1 := Same.new (o := .lst []) nle
           have A1 := hA.same g1
           have nle' := hA.free nle
           refine ⟨_, rfl, a.m, _, rfl, DPut.k (k := Sum.inr "rows") A1.ob (hsz _), ?_⟩
           rw [oK_putR]
           have ⟨A2, s2⟩ := A1.rows (q' := le) (ys := []) (r := []) qQ Ms.nil (fun z => nle' (List.mem_append_right _ z))
           have s12 : Stp a.fp H (OA.fp ⟨a.m, le, a.E⟩) _ := (Stp.make (ps := a.fp) (o := .lst []) nle).trans s2
           generalize upd (upd H le (.lst [])) a.m _ = H2 at A2 s12 ⊢
           refine ⟨_, rfl, a.m, _, rfl, DPut.k (k := Sum.inr "cut") A2.ob (by show 5 < _; rw [sizeLine_eq]; omega), ?_⟩
           rw [oK_putC]
           have ⟨A3, s3⟩ := A2.cut true
           have e : oput ⟨sz, way, rows, false, hh⟩ m = { (⟨sz, way, [], false, hh⟩ : OS) with cut := true } := by
             unfold oput
             rw [if_neg (fun z => by have : (rows.length : Int) < sz := z.2; omega), if_neg (fun z => y' z.2), if_pos x']
           rw [e] at q
           exact q _ _ A3 rfl (s12.trans s3)
         · have x' : ¬ way = "cut" := fun w => x (decide_eq_true (congrArg V.str w))
           have e : oput ⟨sz, way, rows, false, hh⟩ m = ⟨sz, way, rows, false, hh⟩ := by
             unfold oput
             rw [if_neg (fun z => by have : (rows.length : Int) < sz := z.2; omega), if_neg (fun z => y' z.2), if_neg x']
           rw [e] at q
           exact q a H hA rfl ((Same.refl H).step _)
abbrev Uw : Stmt := top 33
abbrev N_l_catches : List Str := ["_law_mine", "_law_told_here", "_law_keep", "_law_kept", "_law_gone", "_law_found", "_law_message"]
theorem sc_l_catches : FnScope N_l_catches ["_law_mine", "_law_told_here", "_law_keep"] (qZ Uw) := ⟨rfl, rfl, rfl, by decide +kernel, rfl, by decide +kernel, by decide +kernel⟩
theorem ok_l_catches {f : Addr} {fd : FuncData} (F : Fun K "_law_catches" "_law_catches" Uw f fd) (T : Txt mg) (c_l_expects : Callee P w K mg base 1 "_law_expects" ["_law_mine"] yVQ) (c_l_takes : Callee P w K mg base 3 "_law_takes" ["_law_mine", "_law_message"] zVJ) (c_l_gives_up : Callee P w K mg base 3 "_law_gives_up" ["_law_mine", "_law_number"] spLGiveV) : FnOk P w K mg base CX0 4 f fd ["_law_mine", "_law_told_here", "_law_keep"] spOCatch := by
 refine F.ok sc_l_catches (fun vs H Q E h => ?_) (fun cdv A outer s0 H vs Q E hr h => ?_)
 · obtain ⟨E, t, lt, yt, all, k, rfl, _⟩ := h; rfl
 · obtain ⟨B, t, lt, yt, all, k, rfl, hL, elt, mlt, nlt, hR, ok, hl, hk, hw, q⟩ := h
   refine ⟨_, (qJ (yB (i := 3) sc_l_catches.nd rfl (Or.inl rfl) (Jy (MD K) (pv 1) (qZJ (yJ (zQQ rfl) (by rfl) T.b_max PyProof.Rows.boot_max (qU qG (qM (yz Jz (yJ (vU K) (by rfl) T.b_len PySem.boot_len (qU (pv 1) as_nil)) (pv 2)) as_nil)))) qJQ))
     (qJ (yB (i := 4) sc_l_catches.nd rfl (Or.inl rfl) (yJ (vU K) (by rfl) T.b_len PySem.boot_len (qU (yy (yG hr) (pv 0) qv (fun _ _ => rfl)) as_nil)))
     (qJ (yB (i := 5) sc_l_catches.nd rfl (Or.inl rfl) (vw as_nil))
     (pss_cut (zY (qw op_lt (zB c_l_expects (hr.mono (by decide)) (qU (pv 0) as_nil)) (yz QB (yz Jz (yJ (vU K) (by rfl) T.b_len PySem.boot_len (qU (pv 1) as_nil)) (yJ (vU K) (by rfl) T.b_len PySem.boot_len (qU (pv 3) as_nil))) qG) (yU _)) (qV (yB (i := 5) sc_l_catches.nd rfl (Or.inl rfl) (zB c_l_gives_up (hr.mono (by decide)) (qU (pv 0) (qM (yz QB (yz Jz (yJ (vU K) (by rfl) T.b_len PySem.boot_len (qU (pv 1) as_nil)) (yJ (vU K) (by rfl) T.b_len PySem.boot_len (qU (pv 3) as_nil))) qG) as_nil))))) yv)
     (qJ (qJJ PassesOwn.never rfl (YG K (pv 3)) (Qz (i := 6) sc_l_catches.nd rfl (Or.inl rfl)) (qV (zY (qw op_ge (qZQ (UM K) (pv 6) qG (fun _ _ => rfl)) (zB c_l_expects (hr.mono (by decide)) (qU (pv 0) as_nil)) (yU _)) (qV (yB (i := 5) sc_l_catches.nd rfl (Or.inl rfl) (yz vYY (pv 5) (zB c_l_takes (hr.mono (by decide)) (qU (pv 0) (qM (pv 6) as_nil)))))) yv)))
     (qV (qz (Zz (qM (pv 5) (qM (yz Jz (yJ (vU K) (by rfl) T.b_len PySem.boot_len (qU (yy (yG hr) (pv 0) qv (fun _ _ => rfl)) as_nil)) (pv 4)) as_nil)))))))))), ?_⟩
   have lyt := mlt.len
   have hgo : ∀ {H' : Hp} {u : HS}, LAt H' B u → DGet H' B.m (.str "gone") (some (.ref B.g)) := fun L => lK_gone B ▸ DGet.k (k := Sum.inr "gone") L.ob
   refine ⟨_, rfl, _, rfl, lt, _, rfl, .inl (SqL.ofL elt), _, rfl, _, _, rfl, rfl, _, _, rfl, _, rfl, lt, yt, rfl, SqL.ofL elt, fun lk nlk => ?_⟩
   have ecut : cutV yt (some (if (yt.length : Int) - k > 0 then (yt.length : Int) - k else 0)) none = yt.drop (all.length - k.toNat) := by
     rw [vJY (by split <;> omega)]
     congr 1
     split <;> omega
   rw [ecut]
   have g1 := Same.new (o := .lst (yt.drop (all.length - k.toNat))) nlk
   have elk := qQ (H := H) (a := lk) (o := .lst (yt.drop (all.length - k.toNat)))
   have mlk : Ms (upd H lk (.lst (yt.drop (all.length - k.toNat)))) (yt.drop (all.length - k.toNat)) (vZ k all) := (mlt.drop _).same g1
   have elt1 := g1 _ _ elt
   have mlt1 := mlt.same g1
   have hL1 := hL.same g1
   have nkb := hL.free nlk
   have llk := mlk.len
   have hlk := JM k all
   have lty : yt.length = all.length := lyt
   generalize yt.drop (all.length - k.toNat) = yk at elk mlk g1 hL1 elt1 mlt1 llk ⊢
   generalize upd H lk (.lst yk) = H1 at elk mlk g1 hL1 elt1 mlt1 ⊢
   refine ⟨_, rfl, B.m, _, rfl, hgo hL1, B.g, _, rfl, .inl (SqL.ofL hL1.go), Nat.zero_le _, fun lf nlf => ?_⟩
   have g2 := Same.new (o := .lst []) nlf
   have nlf0 : H lf = none := g1.free nlf
   have hL2 := hL1.same g2
   have elf := qQ (H := H1) (a := lf) (o := .lst [])
   have elk2 := g2 _ _ elk
   have mlk2 := mlk.same g2
   have elt2 := g2 _ _ elt1
   have w2 : Stp B.fp H B.fp _ := (g1.trans g2).step B.fp
   rw [List.length_map]
   generalize upd H1 lf (.lst []) = H2 at hL2 elf elk2 mlk2 elt2 w2 ⊢
   clear g1 g2 hL1 elk mlk elt1 mlt1
   have hup := hw.toHw0.up hR
   obtain ⟨_, cnx, chd, clo⟩ := hw.catch hR hk hup
   have cw := (hw.catch hR hk hup).1
   refine ⟨fun σ H' => ∃ lf yf found t1, σ = [some (.ref B.m), some (.ref lt), some (.int k), some (.ref lk), some (.int (t.lost.length : Int)), some (.ref lf), none] ∧ LAt H' B t1 ∧ Hw all t1 ∧ (all.length : Int) - ((vZ k all).length : Int) + 1 ≤ t1.next ∧ t1.lost = (vG k all t).lost ∧ t1.heard = t.heard ++ found ∧ H' lf = some (.lst yf) ∧ Ms H' yf found ∧ Stp B.fp H B.fp H' ∧ H lf = none ∧ H' lk = some (.lst yk) ∧ Ms H' yk (vZ k all), ?_, ?_⟩
   case refine_2 =>
     refine ⟨_, rfl, B, t, rfl, hL2, _, rfl, lt, _, rfl, .inl (SqL.ofL elt2), _, rfl, lk, _, rfl, .inl (SqL.ofL elk2), _, _, rfl, rfl, _, _, rfl, rfl, _, _, rfl, rfl, _, rfl, ?_⟩
     rw [lty, llk]
     refine ite2 (fun z => ?_) (fun z => ?_)
     · have z' : t.next < (all.length : Int) - ((vZ k all).length : Int) + 1 := of_decide_eq_true z
       refine ⟨_, rfl, _, rfl, lt, _, rfl, .inl (SqL.ofL elt2), _, rfl, lk, _, rfl, .inl (SqL.ofL elk2), _, _, rfl, rfl, _, _, rfl, rfl, ?_⟩
       rw [lty, llk]
       refine ⟨B, t, _, rfl, hL2, HV.of hR ok hl hw, by omega, fun l ys found H3 L3 eh st3 nl3 ol3 el3 ml3 => ?_⟩
       have hg := hw.give (n := (all.length : Int) - ((vZ k all).length : Int) + 1) (by omega)
       have st3' : Stp B.fp H2 B.fp H3 := ⟨st3.1, st3.2, fun c hc => st3.3 c (List.mem_cons_of_mem _ hc)⟩
       refine ⟨l, ys, found, _, rfl, L3, hg, giveS_end _ _, rise_eq hg.lr cw.lr fun x => ?_, eh, el3, ml3, w2.trans st3', w2.free nl3 ol3, st3.keep elk2 nkb, mlk2.step st3⟩
       rw [hw.give_lost (by omega), clo]
     · have z' : ¬ t.next < (all.length : Int) - ((vZ k all).length : Int) + 1 := fun y => z (decide_eq_true y)
       refine ⟨lf, [], [], t, rfl, hL2, hw, by omega, rise_eq hw.lr cw.lr fun x => ?_, (List.append_nil _).symm, elf, Ms.nil, w2, nlf0, elk2, mlk2⟩
       rw [clo]
       exact ⟨.inl, fun y => y.elim id fun y => by omega⟩
   rintro σ H3 ⟨lf, yf, found, t1, rfl, hL3, hw1, hn1, hlo1, eh1, elf, mlf, w3, nlf, elk3, mlk3⟩
   clear hL2 elk2 mlk2 elt2 w2 nlf0
   refine ⟨_, rfl, lk, rfl, ⟨_, SqL.ofL elk3⟩, vZJ (K := K) (a := lk) (xs := yk) (fun i σ H' => ∃ o6 lf yf found t2, σ = [some (.ref B.m), some (.ref lt), some (.int k), some (.ref lk), some (.int (t.lost.length : Int)), some (.ref lf), o6] ∧ LAt H' B t2 ∧ Hw all t2 ∧ t1.next ≤ t2.next ∧ t2.lost = t1.lost ∧ t2.heard = t.heard ++ found ∧ H' lf = some (.lst yf) ∧ Ms H' yf found ∧ Stp B.fp H B.fp H' ∧ H lf = none ∧ H' lk = some (.lst yk) ∧ Ms H' yk (vZ k all) ∧ ∀ m ∈ (vZ k all).take i, m.n < t2.next ∨ m ∈ t2.held)
     ⟨_, lf, yf, found, t1, rfl, hL3, hw1, Int.le_refl _, rfl, eh1, elf, mlf, w3, nlf, elk3, mlk3, fun m hm => by rw [List.take_zero] at hm; exact absurd hm List.not_mem_nil⟩ (fun i σ H' _ h => ?_) ?_ ?_⟩
   · obtain ⟨_, _, _, _, _, _, _, _, _, _, _, _, _, _, _, h, _⟩ := h
     exact SqL.ofL h
   · rintro i x σ H' hi ⟨o6, lf, yf, found, t2, rfl, hL4, hw2, hn2, hlo2, eh2, elf, mlf, w4, nlf, elk4, mlk4, hpr⟩
     have hil : i < (vZ k all).length := by rw [← mlk4.len]; exact (List.getElem?_eq_some_iff.mp hi).1
     obtain ⟨c, ec, hc⟩ := mlk4.get hil
     rw [hi] at ec
     obtain rfl := Option.some.inj ec
     have hmem : (vZ k all)[i] ∈ vZ k all := List.getElem_mem hil
     have hma : (vZ k all)[i] ∈ all := List.mem_of_mem_drop hmem
     have htk : (vZ k all).take (i + 1) = (vZ k all).take i ++ [(vZ k all)[i]] := by rw [List.take_add_one, List.getElem?_eq_getElem hil]; rfl
     rw [htk]
     generalize (vZ k all)[i] = m at hc hmem hma
     refine Qv ⟨_, rfl, c, _, 0, _, rfl, rfl, SqT.ofT hc, rfl, _, rfl, B, t2, rfl, hL4, _, _, rfl, rfl, _, rfl, ite2 (fun z => ?_) (fun z => ?_)⟩
     · have z' : t2.next ≤ m.n := of_decide_eq_true z
       obtain ⟨im, him, _, emn⟩ := hR.at hma
       have hfit : Fits t2 [m] := hw2.toHw0.fits hR fun x hx => by rw [List.mem_singleton] at hx; rw [hx]; exact hma
       have hm1 : ∀ x ∈ [m], x ∈ all := fun x hx => by rw [List.mem_singleton] at hx; rw [hx]; exact hma
       refine ⟨_, rfl, _, rfl, _, rfl, B, t2, c, m, rfl, hL4, HV.of hR ok hl hw2, hc, ok m hma, by omega, hfit, fun l ys fo H5 L5 eh st5 nl5 ol5 el5 ml5 => ?_⟩
       have hw5 := hw2.take hR hm1
       have sz5 := (HV.of hR ok hl hw5).toHV0.sizes (HV.of hR ok hl hw5).toHV0.pos
       have st5' : Stp B.fp H' B.fp H5 := ⟨st5.1, st5.2, fun c hc => st5.3 c (List.mem_cons_of_mem _ hc)⟩
       have nlfB : lf ∉ B.fp := hL.free nlf
       have elf5 := st5.keep elf nlfB
       have l1 := mlf.len
       have l2 := ml5.len
       have l3 := congrArg List.length eh
       rw [eh2, List.length_append, List.length_append] at l3
       refine ⟨lf, l, _, _, rfl, rfl, elf5, el5, by rw [sizeLine_eq]; omega, fun ld nld => ?_⟩
       have g6 := Same.new (o := .lst (yf ++ ys)) nld
       have nld0 : H ld = none := by
         have h5 : H' ld = none := st5.free nld (L5.free nld)
         exact w4.free h5 (hL4.free h5)
       have hle : t2.next ≤ (vV t2 [m]).next := next_le hw5 hw2 (ZQ _ _) fun x hx => (hw2.take_mem hR hm1 x).mpr (by rcases hx with y | y; exact .inl y; exact .inr (.inl y))
       refine ⟨_, ld, yf ++ ys, found ++ fo, vV t2 [m], rfl, L5.same g6, hw5, by omega, by rw [ZQ]; exact hlo2, by rw [eh, eh2, List.append_assoc], qQ, ((mlf.step st5).append ml5).same g6, (w4.trans st5').trans (g6.step _), nld0, g6 _ _ (st5.keep elk4 nkb), (mlk4.step st5).same g6, fun y hy => ?_⟩
       have hin : ∀ y, (y.n < t2.next ∨ y ∈ t2.held ∨ y = m) → y ∈ all → (y.n < (vV t2 [m]).next ∨ y ∈ (vV t2 [m]).held) := fun y hy hya => by
         have hu : y ∈ t2.held ∨ y = m → (y ∈ (vV t2 [m]).heard ∨ y ∈ (vV t2 [m]).held) := fun h => (hw2.take_mem hR hm1 y).mpr (by
           rcases h with h | h
           · exact .inr (.inl h)
           · rw [h]; exact .inr (.inr ⟨by simp, z'⟩))
         rcases hy with h | h
         · exact .inl (by omega)
         · rcases hu h with u | u
           · exact .inl (hw5.lt y u)
           · exact .inr u
       rcases List.mem_append.mp hy with w | w
       · have hya : y ∈ all := List.mem_of_mem_drop (List.mem_of_mem_take w)
         exact hin y ((hpr y w).elim .inl fun h => .inr (.inl h)) hya
       · rw [List.mem_singleton] at w
         exact hin y (.inr (.inr w)) (by rw [w]; exact hma)
     · have z' : ¬ t2.next ≤ m.n := fun y => z (decide_eq_true y)
       refine ⟨_, lf, yf, found, t2, rfl, hL4, hw2, hn2, hlo2, eh2, elf, mlf, w4, nlf, elk4, mlk4, fun y hy => ?_⟩
       rcases List.mem_append.mp hy with w | w
       · exact hpr y w
       · rw [List.mem_singleton] at w; rw [w]; exact .inl (by omega)
   rintro σ H4 ⟨o6, lf, yf, found, t2, rfl, hL4, hw2, hn2, hlo2, eh2, elf, mlf, w4, nlf, elk4, mlk4, hpr⟩
   rw [mlk4.len, List.take_length] at hpr
   have hend : t2.next = (all.length : Int) + 1 := by
     have h1 := hw2.toHw0.up hR
     have hp := t2.next_pos
     refine Int.le_antisymm h1 (Int.not_lt.mp fun z => ?_)
     have hlt : (t2.next - 1).toNat < all.length := by omega
     have hn := hR (t2.next - 1).toNat hlt
     have hx : all[(t2.next - 1).toNat] ∈ all := List.getElem_mem hlt
     generalize all[(t2.next - 1).toNat] = x at hn hx
     rcases hpr x (lastK_mem hR hx (by omega)) with y | y
     · omega
     · have := hw2.gt x y; omega
   have hHE : HE (vG k all t) t2 := HE.ends hR cw hw2 (by rw [hlo2, hlo1]) cnx hend
   refine ⟨_, rfl, _, rfl, B.m, _, rfl, hgo hL4, B.g, _, rfl, .inl (SqL.ofL hL4.go), _, rfl, _, _, rfl, rfl, (show 2 ≤ sizeLine by decide), fun qq nqq => ?_⟩
   rw [List.length_map]
   have g7 := Same.new (o := .tup [V.ref lf, V.int ((t2.lost.length : Int) - (t.lost.length : Int))]) nqq
   exact q qq lf yf found t2 _ (hL4.same g7) hw2 hHE eh2 (w4.trans (g7.step _)) nlf (hL.free nlf) qQ (g7 _ _ elf) (mlf.same g7)
theorem HE.trans {u v t : HS} (h : HE u v) (h' : HE v t) : HE u t := ⟨h.heard.trans h'.heard, h.lost.trans h'.lost, fun x => (h.held x).trans (h'.held x)⟩
theorem HE.take1 {all : List Msg} {u t : HS} {ms : List Msg} {m : Msg} (hR : Rows all) (hu : Hw all u) (ht : Hw all t) (h : HE (vV u ms) t) (hms : ∀ x ∈ ms, x ∈ all) (hm : m ∈ all) : HE (vV u (ms ++ [m])) (vV t [m]) := by
 have h1 := HE.take hR hu hu (HE.refl u) hms hm
 have h2 := HE.take hR (hu.take hR hms) ht h (ms := []) (m := m) (fun x hx => absurd hx List.not_mem_nil) hm
 have e : vV t [] = t := by
   show yM t = t
   exact JB (findN_none.mpr fun m hm => by have := ht.gt m hm; omega)
 rw [e] at h2
 exact HE.trans h1 h2
abbrev yQQ : Stmt := top 34
abbrev N_l_does : List Str := ["_law_road", "_law_way", "_law_many", "_law_told_here", "_law_keep", "_law_found", "_law_message"]
theorem sc_l_does : FnScope N_l_does ["_law_road", "_law_way", "_law_many", "_law_told_here", "_law_keep"] (qZ yQQ) := ⟨rfl, rfl, rfl, by decide +kernel, rfl, by decide +kernel, by decide +kernel⟩
theorem ok_l_does {f : Addr} {fd : FuncData} (F : Fun K "_law_does" "_law_does" yQQ f fd) (T : Txt mg) (c_l_expects : Callee P w K mg base 1 "_law_expects" ["_law_mine"] yVQ) (c_l_takes : Callee P w K mg base 3 "_law_takes" ["_law_mine", "_law_message"] zVJ) (c_l_catches : Callee P w K mg base 4 "_law_catches" ["_law_mine", "_law_told_here", "_law_keep"] spOCatch) : FnOk P w K mg base CX0 5 f fd ["_law_road", "_law_way", "_law_many", "_law_told_here", "_law_keep"] spODoes := by
 refine F.ok sc_l_does (fun vs H Q E h => ?_) (fun cdv A outer s0 H vs Q E hr h => ?_)
 · obtain ⟨a, s, lt, yt, all, k, way, many, rfl, _⟩ := h; rfl
 · obtain ⟨a, s, lt, yt, all, k, way, many, rfl, hA, elt, mlt, nlt, hR, ok, hl, hk, hw, hsub, hrl, hm, q⟩ := h
   refine ⟨_, (qJ (zY (qw MG (pv 1) qG (yU _)) (qJ (yB (i := 5) sc_l_does.nd rfl (Or.inl rfl) (vw as_nil))
     (qJ (qJJ PassesOwn.never rfl (YG K (Jy (MD K) (yy (yG hr) (pv 0) qv (fun _ _ => rfl)) qJQ (qZJ (pv 2)))) (Qz (i := 6) sc_l_does.nd rfl (Or.inl rfl)) (qV (yB (i := 5) sc_l_does.nd rfl (Or.inl rfl) (yz vYY (pv 5) (zB c_l_takes (hr.mono (by decide)) (qU (yy (yG hr) (pv 0) qv (fun _ _ => rfl)) (qM (pv 6) as_nil)))))))
     (qJ (Yv (yG hr) (pv 0) qv (Jy (MD K) (yy (yG hr) (pv 0) qv (fun _ _ => rfl)) (qZJ (pv 2)) qJQ) rfl)
     (qV (qz (pv 5)))))) yv)
     (qJ (zY (qw MG (pv 1) qG (yU _)) (qJ (Yv (yG hr) (pv 0) qv MB rfl)
     (qV (qz (zB c_l_catches (hr.mono (by decide)) (qU (yy (yG hr) (pv 0) qv (fun _ _ => rfl)) (qM (pv 3) (qM (pv 4) as_nil))))))) yv)
     (qV (qz (yz Jz (yz QB (yJ (vU K) (by rfl) T.b_len PySem.boot_len (qU (pv 3) as_nil)) qG) (zB c_l_expects (hr.mono (by decide)) (qU (yy (yG hr) (pv 0) qv (fun _ _ => rfl)) as_nil))))))), ?_⟩
   have gE : ∀ {H' : Hp} {s' : OS}, OAt H' a s' → DGet H' a.m (.str "ear") (some (.ref a.E.m)) := fun {H'} {s'} h => oK_ear a s' ▸ DGet.k (k := Sum.inr "ear") h.ob
   have gR : ∀ {H' : Hp} {s' : OS}, OAt H' a s' → DGet H' a.m (.str "rows") (some (.ref a.q)) := fun {H'} {s'} h => oK_rows a s' ▸ DGet.k (k := Sum.inr "rows") h.ob
   rcases q with ⟨rfl, q⟩ | ⟨rfl, q⟩ | ⟨rfl, q⟩
   · refine ⟨_, rfl, rfl, _, rfl, ite2 (fun _ => ?_) (fun z => absurd (decide_eq_true rfl) z)⟩
     refine ⟨Nat.zero_le _, fun lf nlf => ?_⟩
     have g1 := Same.new (o := .lst []) nlf
     have A1 := hA.same g1
     have elf := qQ (H := H) (a := lf) (o := .lst [])
     generalize hH1 : upd H lf (.lst []) = H1 at g1 A1 elf ⊢
     obtain ⟨ys, h2, m2⟩ := A1.ro
     refine ⟨_, rfl, a.m, _, rfl, gR A1, _, rfl, _, rfl, a.q, ys, rfl, SqL.ofL h2, fun lc nlc => ?_⟩
     rw [cut_to hm]
     have g2 := Same.new (o := .lst (ys.take many.toNat)) nlc
     have A2 := A1.same g2
     have elf2 := g2 _ _ elf
     have elc := qQ (H := H1) (a := lc) (o := .lst (ys.take many.toNat))
     have mlc : Ms (upd H1 lc (.lst (ys.take many.toNat))) (ys.take many.toNat) (s.rows.take many.toNat) := (m2.take _).same g2
     have ncf : lc ∉ a.fp := A1.free nlc
     have hsubt : ∀ m ∈ s.rows.take many.toNat, m ∈ all := fun m h => hsub m (List.mem_of_mem_take h)
     have w2 : Stp a.fp H a.fp (upd H1 lc (.lst (ys.take many.toNat))) := (g1.trans g2).step a.fp
     generalize ys.take many.toNat = yc at elc mlc w2 A2 elf2 ⊢
     generalize upd H1 lc (.lst yc) = H2 at elc mlc w2 A2 elf2 ⊢
     clear g2 h2 m2
     refine ⟨lc, rfl, ⟨_, SqL.ofL elc⟩, vZJ (K := K) (a := lc) (xs := yc) (fun i σ H' => ∃ o6 lf yf found t, σ = [some (.ref a.m), some (.int 3), some (.int many), some (.ref lt), some (.int k), some (.ref lf), o6] ∧ OAt H' a { s with h := t } ∧ Hw all t ∧ HE (vV s.h ((s.rows.take many.toNat).take i)) t ∧ t.heard = s.h.heard ++ found ∧ H' lf = some (.lst yf) ∧ Ms H' yf found ∧ Stp a.fp H a.fp H' ∧ H lf = none ∧ H' lc = some (.lst yc) ∧ Ms H' yc (s.rows.take many.toNat))
       ⟨_, lf, [], [], s.h, rfl, A2, hw, by rw [List.take_zero]; exact (HE.refl s.h).take0 hR hw hw, (List.append_nil _).symm, elf2, Ms.nil, w2, nlf, elc, mlc⟩ (fun i σ H' _ h => ?_) ?_ ?_⟩
     · obtain ⟨_, _, _, _, _, _, _, _, _, _, _, _, _, _, h, _⟩ := h
       exact SqL.ofL h
     · rintro i x σ H' hi ⟨o6, lf, yf, found, t, rfl, A3, hw3, hE3, eh3, elf, mlf, w3, nlf, elc, mlc⟩
       have hil : i < (s.rows.take many.toNat).length := by rw [← mlc.len]; exact (List.getElem?_eq_some_iff.mp hi).1
       obtain ⟨c, ec, hc⟩ := mlc.get hil
       rw [hi] at ec
       obtain rfl := Option.some.inj ec
       have hma : (s.rows.take many.toNat)[i] ∈ all := hsubt _ (List.getElem_mem hil)
       have htk : (s.rows.take many.toNat).take (i + 1) = (s.rows.take many.toNat).take i ++ [(s.rows.take many.toNat)[i]] := by rw [List.take_add_one, List.getElem?_eq_getElem hil]; rfl
       rw [htk]
       generalize (s.rows.take many.toNat)[i] = m at hc hma
       obtain ⟨im, him, _, emn⟩ := hR.at hma
       have hm1 : ∀ x ∈ [m], x ∈ all := fun x hx => by rw [List.mem_singleton] at hx; rw [hx]; exact hma
       have hfit : Fits t [m] := hw3.toHw0.fits hR hm1
       refine Qv ⟨_, rfl, _, rfl, a.m, _, rfl, gE A3, _, rfl, a.E, t, c, m, rfl, A3.ea, HV.of hR ok hl hw3, hc, ok m hma, by omega, hfit, fun l ys fo H5 L5 eh st5 nl5 ol5 el5 ml5 => ?_⟩
       have hw5 := hw3.take hR hm1
       have sz5 := (HV.of hR ok hl hw5).toHV0.sizes (HV.of hR ok hl hw5).toHV0.pos
       have st5' : Stp a.E.fp H' a.E.fp H5 := ⟨st5.1, st5.2, fun c hc => st5.3 c (List.mem_cons_of_mem _ hc)⟩
       have ⟨A5, s5⟩ := A3.ear st5' L5
       have nlfB : lf ∉ a.E.fp := fun z => hA.free nlf (List.mem_append_right _ z)
       have elf5 := st5.keep elf nlfB
       have l1 := mlf.len
       have l2 := ml5.len
       have l3 := congrArg List.length eh
       rw [eh3, List.length_append, List.length_append] at l3
       refine ⟨lf, l, _, _, rfl, rfl, elf5, el5, by rw [sizeLine_eq]; omega, fun ld nld => ?_⟩
       have g6 := Same.new (o := .lst (yf ++ ys)) nld
       have nld0 : H ld = none := by
         have h5 : H' ld = none := s5.free nld (A5.free nld)
         exact w3.free h5 (A3.free h5)
       have ncE : lc ∉ a.E.fp := fun z => ncf (List.mem_append_right _ z)
       exact ⟨_, ld, yf ++ ys, found ++ fo, vV t [m], rfl, A5.same g6, hw5, HE.take1 hR hw hw3 hE3 (fun x hx => hsubt x (List.mem_of_mem_take hx)) hma, by rw [eh, eh3, List.append_assoc], qQ, ((mlf.step st5).append ml5).same g6, (w3.trans s5).trans (g6.step _), nld0, g6 _ _ (st5.keep elc ncE), (mlc.step st5).same g6⟩
     rintro σ H4 ⟨o6, lf, yf, found, t, rfl, A3, hw3, hE3, eh3, elf, mlf, w3, nlf, elc, mlc⟩
     rw [mlc.len, List.take_length] at hE3
     obtain ⟨ys2, h2, m2⟩ := A3.ro
     refine ⟨_, rfl, a.m, _, rfl, gR A3, _, rfl, _, rfl, a.q, ys2, rfl, SqL.ofL h2, fun lc2 nlc2 => ?_⟩
     rw [vJY hm]
     have g7 := Same.new (o := .lst (ys2.drop many.toNat)) nlc2
     have A4 := A3.same g7
     have elc2 := qQ (H := H4) (a := lc2) (o := .lst (ys2.drop many.toNat))
     have mlc2 : Ms (upd H4 lc2 (.lst (ys2.drop many.toNat))) (ys2.drop many.toNat) (s.rows.drop many.toNat) := (m2.drop _).same g7
     have nc2 : lc2 ∉ a.fp := A3.free nlc2
     have elf7 := g7 _ _ elf
     have mlf7 := mlf.same g7
     have w4 : Stp a.fp H (lc2 :: a.fp) (upd H4 lc2 (.lst (ys2.drop many.toNat))) := w3.trans (Stp.make nlc2)
     have nlf2 : lf ≠ lc2 := fun z => by rw [z, nlc2] at elf; cases elf
     generalize upd H4 lc2 (.lst (ys2.drop many.toNat)) = H5 at A4 elc2 mlc2 elf7 mlf7 w4 ⊢
     refine ⟨_, rfl, a.m, _, rfl, DPut.k (k := Sum.inr "rows") A4.ob (by show 5 < _; rw [sizeLine_eq]; omega), ?_⟩
     rw [oK_putR]
     have ⟨A5, s5⟩ := A4.rows (q' := lc2) elc2 mlc2 (fun z => nc2 (List.mem_append_right _ z))
     have nlfA : lf ∉ lc2 :: a.fp := fun z => by
       rcases List.mem_cons.mp z with y | y
       · exact nlf2 y
       · exact hA.free nlf y
     exact ⟨_, rfl, q lf yf found t ⟨a.m, lc2, a.E⟩ _ A5 rfl hw3 hE3 eh3 (w4.trans s5) nlf (s5.out elf7 nlfA) (s5.keep elf7 nlfA) (mlf7.step s5)⟩
   · refine ⟨_, rfl, rfl, _, rfl, ite2 (fun z => absurd (V.int.inj (of_decide_eq_true z)) (by decide)) (fun _ => ?_)⟩
     refine ⟨_, rfl, rfl, _, rfl, ite2 (fun _ => ?_) (fun z => absurd (decide_eq_true rfl) z)⟩
     refine ⟨_, rfl, a.m, _, rfl, DPut.k (k := Sum.inr "cut") hA.ob (by show 5 < _; rw [sizeLine_eq]; omega), ?_⟩
     rw [oK_putC]
     have ⟨A1, s1⟩ := hA.cut false
     have elt1 := s1.keep elt nlt
     have mlt1 := mlt.step s1
     generalize upd H a.m (.dK (oK a { s with cut := false })) = H1 at A1 s1 elt1 mlt1 ⊢
     refine ⟨_, rfl, a.m, _, rfl, gE A1, _, rfl, _, rfl, a.E, s.h, lt, yt, all, k, rfl, A1.ea, elt1, mlt1, fun z => nlt (List.mem_append_right _ z), hR, ok, hl, hk, hw, fun qq l ys found t' H' L' hw' he eh st nl ol eq el ml => ?_⟩
     have ⟨A2, s2⟩ := A1.ear st L'
     have nl0 : H l = none := s1.free nl (A1.free nl)
     exact q qq l ys found t' H' A2 hw' he eh (s1.trans s2) nl0 (hA.free nl0) eq el ml
   · refine ⟨_, rfl, rfl, _, rfl, ite2 (fun z => absurd (V.int.inj (of_decide_eq_true z)) (by decide)) (fun _ => ?_)⟩
     refine ⟨_, rfl, rfl, _, rfl, ite2 (fun z => absurd (V.int.inj (of_decide_eq_true z)) (by decide)) (fun _ => ?_)⟩
     refine ⟨_, rfl, lt, _, rfl, .inl (SqL.ofL elt), _, _, rfl, rfl, _, rfl, a.m, _, rfl, gE hA, a.E, s.h, rfl, hA.ea, _, _, rfl, rfl, ?_⟩
     rw [mlt.len]; exact q
def spToldF (CF CT CR CH : Addr) : Sp := fun vs H Q _ => ∃ p way n many kind, vs = [.ref p, .int way, .str n, .int many, .str kind] ∧
 ((way = 0 ∧ spFLay CF CT CR CH [.ref p, .str n, .int many, .str kind] H Q E0) ∨ (way = 1 ∧ spFClose CF CT CR CH [.ref p, .str n] H Q E0) ∨ (way = 2 ∧ QQQ CF CT CR CH [.ref p, .str "a", .str kind] H Q E0) ∨
  (way = 3 ∧ spFCarry CF CT CR CH [.ref p, .str n, .int many] H Q E0) ∨ (way = 4 ∧ spFCatch CF CT CR CH [.ref p, .str n] H Q E0) ∨ (way = 5 ∧ spFLag CF CT CR CH [.ref p, .str n] H Q E0) ∨
  (∃ a l g k all, p = FA.p a ∧ FAt CF CT CR CH H a l g k all ∧ ((way = 0 ∧ n ∈ l ∧ ∀ q H', Same H H' → H' q = some (.tup [.str "refused", .int 2]) → Q (.ref q) H') ∨
    ((way = 1 ∨ way = 3 ∨ way = 4 ∨ way = 5 ∨ way = 6 ∨ way = 7 ∨ way = 8) ∧ n ∉ l ∧ ∀ q H', Same H H' → H' q = some (.tup [.str "refused", .int 1]) → Q (.ref q) H'))))
abbrev qVZ : Stmt := top 31
abbrev N_l_told : List Str := ["_law_fan", "_law_way", "_law_name", "_law_many", "_law_kind", "_law_e"]
theorem sc_l_told : FnScope N_l_told ["_law_fan", "_law_way", "_law_name", "_law_many", "_law_kind"] (qZ qVZ) := ⟨rfl, rfl, rfl, by decide +kernel, rfl, by decide +kernel, by decide +kernel⟩
theorem ok_l_told {f CF CT CR CH XT XN XR XK XO : Addr} {fd : FuncData} (F : Fun K "_law_told" "_law_told" qVZ f fd) (TC : TxtF K mg CF CT CR CH) (TX : TxtX K mg XT XN XR XK XO) (c_l_refused : CalleeH P w K mg base 1 "_law_refused" ["_law_e"] (zZQ XR XK))
   (mx_lay : CalleeMX P w K mg base 3 CF "lay" ["self", "name", "size", "way"] (spFLayX CF CT CR CH XK)) (mx_close : CalleeMX P w K mg base 2 CF "close" ["self", "name"] (spFCloseX CF CT CR CH XR)) (m_Fan_tell : CalleeM P w K mg base 5 CF "tell" ["self", "topic", "text"] (QQQ CF CT CR CH)) (mx_carry : CalleeMX P w K mg base 4 CF "carry" ["self", "name", "many"] (spFCarryX CF CT CR CH XR)) (mx_catch_up : CalleeMX P w K mg base 5 CF "catch_up" ["self", "name"] (vUY CF CT CR CH XR))
   (mx_Fan_heard : CalleeMX P w K mg base 3 CF "heard" ["self", "name"] (qUJ CF CT CR CH XR)) (mx_Fan_lost : CalleeMX P w K mg base 3 CF "lost" ["self", "name"] (QQZ CF CT CR CH XR)) (mx_Fan_waiting : CalleeMX P w K mg base 3 CF "waiting" ["self", "name"] (yVY CF CT CR CH XR)) (mx_lag : CalleeMX P w K mg base 3 CF "lag" ["self", "name"] (QQJ CF CT CR CH XR)) :
   FnOk P w K mg base CX0 6 f fd ["_law_fan", "_law_way", "_law_name", "_law_many", "_law_kind"] (spToldF CF CT CR CH) := by
 refine F.ok sc_l_told (fun vs H Q E h => ?_) (fun cdv A outer s0 H vs Q E hr h => ?_)
 · obtain ⟨p, way, n, many, kind, rfl, _⟩ := h; rfl
 · obtain ⟨p, way, n, many, kind, rfl, q⟩ := h
   let EX : L2.XK := fun cls _ H' => (cls = .ref XR ∧ Same H H' ∧ ∀ q H', Same H H' → H' q = some (.tup [.str "refused", .int 1]) → Q (.ref q) H') ∨ (cls = .ref XK ∧ Same H H' ∧ ∀ q H', Same H H' → H' q = some (.tup [.str "refused", .int 2]) → Q (.ref q) H')
   refine ⟨_, (qV (ps_tryAs K (i := 5) (E := EX) (fun _ _ hp => (qJ (zY (qw MG (pv 1) qG (yU _)) (qV (qz (yD mx_lay TC.cl_Fan (hr.mono (by decide)) hp (pv 0) (qU (pv 2) (qM (pv 3) (qM (pv 4) as_nil)))))) yv)
     (qJ (zY (qw MG (pv 1) qG (yU _)) (qV (qz (yD mx_close TC.cl_Fan (hr.mono (by decide)) hp (pv 0) (qU (pv 2) as_nil)))) yv)
     (qJ (zY (qw MG (pv 1) qG (yU _)) (qV (qz (Qw m_Fan_tell TC.cl_Fan (hr.mono (by decide)) (pv 0) (qU qv (qM (pv 4) as_nil))))) yv)
     (qJ (zY (qw MG (pv 1) qG (yU _)) (qV (qz (yD mx_carry TC.cl_Fan (hr.mono (by decide)) hp (pv 0) (qU (pv 2) (qM (pv 3) as_nil))))) yv)
     (qJ (zY (qw op_lt (pv 1) qG (yU _)) (qV (qz (pe_ifExp (qw MG (pv 1) qG (yU _)) (yD mx_catch_up TC.cl_Fan (hr.mono (by decide)) hp (pv 0) (qU (pv 2) as_nil)) (yD mx_lag TC.cl_Fan (hr.mono (by decide)) hp (pv 0) (qU (pv 2) as_nil))))) yv)
     (qJ (zY (qw MG (pv 1) qG (yU _)) (qV (qz (yD mx_Fan_heard TC.cl_Fan (hr.mono (by decide)) hp (pv 0) (qU (pv 2) as_nil)))) yv)
     (qV (qz (pe_ifExp (qw MG (pv 1) qG (yU _)) (yD mx_Fan_lost TC.cl_Fan (hr.mono (by decide)) hp (pv 0) (qU (pv 2) as_nil)) (yD mx_Fan_waiting TC.cl_Fan (hr.mono (by decide)) hp (pv 0) (qU (pv 2) as_nil)))))))))))) TX.a_TellError (fun _ => (qV (qz (as_fnH c_l_refused ((hr.h _).mono (by decide)) (qU (pv 5) as_nil))))) sc_l_told.nd rfl rfl rfl rfl rfl)), ?_⟩
   refine ⟨?_, ?_⟩
   · rcases q with ⟨rfl, q⟩ | ⟨rfl, q⟩ | ⟨rfl, q⟩ | ⟨rfl, q⟩ | ⟨rfl, q⟩ | ⟨rfl, q⟩ | ⟨a, l, g, k, all, rfl, hA, q⟩
     · obtain ⟨a, l, g, k, all, n', sz, way', e, hA, hn, hl, qq⟩ := q
       simp only [List.cons.injEq, V.ref.injEq, V.str.injEq, V.int.injEq, and_true] at e
       obtain ⟨rfl, rfl, rfl, rfl⟩ := e
       obtain ⟨dx, h1⟩ := hA.ob
       refine ⟨_, rfl, rfl, _, rfl, ite2 (fun _ => ?_) (fun z => absurd (decide_eq_true rfl) z)⟩
       exact ⟨_, rfl, a.p, dx, _, rfl, h1, nfY, _, rfl, _, rfl, _, rfl, a, l, g, k, all, _, _, _, rfl, hA, .inl ⟨hn, hl, qq⟩⟩
     · obtain ⟨a, l, g, k, all, n', e, hA, hn, qq⟩ := q
       simp only [List.cons.injEq, V.ref.injEq, V.str.injEq, V.int.injEq, and_true] at e
       obtain ⟨rfl, rfl⟩ := e
       obtain ⟨dx, h1⟩ := hA.ob
       refine ⟨_, rfl, rfl, _, rfl, ite2 (fun z => absurd (V.int.inj (of_decide_eq_true z)) (by decide)) (fun _ => ?_)⟩
       refine ⟨_, rfl, rfl, _, rfl, ite2 (fun _ => ?_) (fun z => absurd (decide_eq_true rfl) z)⟩
       exact ⟨_, rfl, a.p, dx, _, rfl, h1, nfX, _, rfl, a, l, g, k, all, _, rfl, hA, .inl ⟨hn, qq⟩⟩
     · obtain ⟨a, l, g, k, all, t', x', e, hA, qq⟩ := q
       simp only [List.cons.injEq, V.ref.injEq, V.str.injEq, V.int.injEq, and_true] at e
       obtain ⟨rfl, rfl, rfl⟩ := e
       obtain ⟨dx, h1⟩ := hA.ob
       refine ⟨_, rfl, rfl, _, rfl, ite2 (fun z => absurd (V.int.inj (of_decide_eq_true z)) (by decide)) (fun _ => ?_)⟩
       refine ⟨_, rfl, rfl, _, rfl, ite2 (fun z => absurd (V.int.inj (of_decide_eq_true z)) (by decide)) (fun _ => ?_)⟩
       refine ⟨_, rfl, rfl, _, rfl, ite2 (fun _ => ?_) (fun z => absurd (decide_eq_true rfl) z)⟩
       exact ⟨_, rfl, a.p, dx, _, rfl, h1, nfT, _, rfl, a, l, g, k, all, _, _, rfl, hA, qq⟩
     · obtain ⟨a, l, g, k, all, n', i', e, hA, hn, qq⟩ := q
       simp only [List.cons.injEq, V.ref.injEq, V.str.injEq, V.int.injEq, and_true] at e
       obtain ⟨rfl, rfl, rfl⟩ := e
       obtain ⟨dx, h1⟩ := hA.ob
       refine ⟨_, rfl, rfl, _, rfl, ite2 (fun z => absurd (V.int.inj (of_decide_eq_true z)) (by decide)) (fun _ => ?_)⟩
       refine ⟨_, rfl, rfl, _, rfl, ite2 (fun z => absurd (V.int.inj (of_decide_eq_true z)) (by decide)) (fun _ => ?_)⟩
       refine ⟨_, rfl, rfl, _, rfl, ite2 (fun z => absurd (V.int.inj (of_decide_eq_true z)) (by decide)) (fun _ => ?_)⟩
       refine ⟨_, rfl, rfl, _, rfl, ite2 (fun _ => ?_) (fun z => absurd (decide_eq_true rfl) z)⟩
       exact ⟨_, rfl, a.p, dx, _, rfl, h1, nfC, _, rfl, _, rfl, a, l, g, k, all, _, _, rfl, hA, .inl ⟨hn, qq⟩⟩
     · obtain ⟨a, l, g, k, all, n', e, hA, hn, qq⟩ := q
       simp only [List.cons.injEq, V.ref.injEq, V.str.injEq, V.int.injEq, and_true] at e
       obtain ⟨rfl, rfl⟩ := e
       obtain ⟨dx, h1⟩ := hA.ob
       refine ⟨_, rfl, rfl, _, rfl, ite2 (fun z => absurd (V.int.inj (of_decide_eq_true z)) (by decide)) (fun _ => ?_)⟩
       refine ⟨_, rfl, rfl, _, rfl, ite2 (fun z => absurd (V.int.inj (of_decide_eq_true z)) (by decide)) (fun _ => ?_)⟩
       refine ⟨_, rfl, rfl, _, rfl, ite2 (fun z => absurd (V.int.inj (of_decide_eq_true z)) (by decide)) (fun _ => ?_)⟩
       refine ⟨_, rfl, rfl, _, rfl, ite2 (fun z => absurd (V.int.inj (of_decide_eq_true z)) (by decide)) (fun _ => ?_)⟩
       refine ⟨_, rfl, _, _, rfl, rfl, _, rfl, ite2 (fun _ => ?_) (fun z => absurd (decide_eq_true (by decide)) z)⟩
       refine ⟨_, rfl, rfl, _, rfl, ite2 (fun _ => ?_) (fun z => absurd (decide_eq_true rfl) z)⟩
       exact ⟨_, rfl, a.p, dx, _, rfl, h1, nfU, _, rfl, a, l, g, k, all, _, rfl, hA, .inl ⟨hn, qq⟩⟩
     · obtain ⟨a, l, g, k, all, n', e, hA, hn, qq⟩ := q
       simp only [List.cons.injEq, V.ref.injEq, V.str.injEq, V.int.injEq, and_true] at e
       obtain ⟨rfl, rfl⟩ := e
       obtain ⟨dx, h1⟩ := hA.ob
       refine ⟨_, rfl, rfl, _, rfl, ite2 (fun z => absurd (V.int.inj (of_decide_eq_true z)) (by decide)) (fun _ => ?_)⟩
       refine ⟨_, rfl, rfl, _, rfl, ite2 (fun z => absurd (V.int.inj (of_decide_eq_true z)) (by decide)) (fun _ => ?_)⟩
       refine ⟨_, rfl, rfl, _, rfl, ite2 (fun z => absurd (V.int.inj (of_decide_eq_true z)) (by decide)) (fun _ => ?_)⟩
       refine ⟨_, rfl, rfl, _, rfl, ite2 (fun z => absurd (V.int.inj (of_decide_eq_true z)) (by decide)) (fun _ => ?_)⟩
       refine ⟨_, rfl, _, _, rfl, rfl, _, rfl, ite2 (fun _ => ?_) (fun z => absurd (decide_eq_true (by decide)) z)⟩
       refine ⟨_, rfl, rfl, _, rfl, ite2 (fun z => absurd (V.int.inj (of_decide_eq_true z)) (by decide)) (fun _ => ?_)⟩
       exact ⟨_, rfl, a.p, dx, _, rfl, h1, nfL, _, rfl, a, l, g, k, all, _, rfl, hA, .inl ⟨hn, qq⟩⟩
     · obtain ⟨dx, h1⟩ := hA.ob
       rcases q with ⟨rfl, hn, q⟩ | ⟨hw, hn, q⟩
       · refine ⟨_, rfl, rfl, _, rfl, ite2 (fun _ => ?_) (fun z => absurd (decide_eq_true rfl) z)⟩
         exact ⟨_, rfl, a.p, dx, _, rfl, h1, nfY, _, rfl, _, rfl, _, rfl, a, l, g, k, all, _, _, _, rfl, hA, .inr ⟨hn, .inr ⟨rfl, Same.refl _, q⟩⟩⟩
       · rcases hw with rfl | rfl | rfl | rfl | rfl | rfl | rfl
         · refine ⟨_, rfl, rfl, _, rfl, ite2 (fun z => absurd (V.int.inj (of_decide_eq_true z)) (by decide)) (fun _ => ?_)⟩
           refine ⟨_, rfl, rfl, _, rfl, ite2 (fun _ => ?_) (fun z => absurd (decide_eq_true rfl) z)⟩
           exact ⟨_, rfl, a.p, dx, _, rfl, h1, nfX, _, rfl, a, l, g, k, all, _, rfl, hA, .inr ⟨hn, .inl ⟨rfl, Same.refl _, q⟩⟩⟩
         · refine ⟨_, rfl, rfl, _, rfl, ite2 (fun z => absurd (V.int.inj (of_decide_eq_true z)) (by decide)) (fun _ => ?_)⟩
           refine ⟨_, rfl, rfl, _, rfl, ite2 (fun z => absurd (V.int.inj (of_decide_eq_true z)) (by decide)) (fun _ => ?_)⟩
           refine ⟨_, rfl, rfl, _, rfl, ite2 (fun z => absurd (V.int.inj (of_decide_eq_true z)) (by decide)) (fun _ => ?_)⟩
           refine ⟨_, rfl, rfl, _, rfl, ite2 (fun _ => ?_) (fun z => absurd (decide_eq_true rfl) z)⟩
           exact ⟨_, rfl, a.p, dx, _, rfl, h1, nfC, _, rfl, _, rfl, a, l, g, k, all, _, _, rfl, hA, .inr ⟨hn, .inl ⟨rfl, Same.refl _, q⟩⟩⟩
         · refine ⟨_, rfl, rfl, _, rfl, ite2 (fun z => absurd (V.int.inj (of_decide_eq_true z)) (by decide)) (fun _ => ?_)⟩
           refine ⟨_, rfl, rfl, _, rfl, ite2 (fun z => absurd (V.int.inj (of_decide_eq_true z)) (by decide)) (fun _ => ?_)⟩
           refine ⟨_, rfl, rfl, _, rfl, ite2 (fun z => absurd (V.int.inj (of_decide_eq_true z)) (by decide)) (fun _ => ?_)⟩
           refine ⟨_, rfl, rfl, _, rfl, ite2 (fun z => absurd (V.int.inj (of_decide_eq_true z)) (by decide)) (fun _ => ?_)⟩
           refine ⟨_, rfl, _, _, rfl, rfl, _, rfl, ite2 (fun _ => ?_) (fun z => absurd (decide_eq_true (by decide)) z)⟩
           refine ⟨_, rfl, rfl, _, rfl, ite2 (fun _ => ?_) (fun z => absurd (decide_eq_true rfl) z)⟩
           exact ⟨_, rfl, a.p, dx, _, rfl, h1, nfU, _, rfl, a, l, g, k, all, _, rfl, hA, .inr ⟨hn, .inl ⟨rfl, Same.refl _, q⟩⟩⟩
         · refine ⟨_, rfl, rfl, _, rfl, ite2 (fun z => absurd (V.int.inj (of_decide_eq_true z)) (by decide)) (fun _ => ?_)⟩
           refine ⟨_, rfl, rfl, _, rfl, ite2 (fun z => absurd (V.int.inj (of_decide_eq_true z)) (by decide)) (fun _ => ?_)⟩
           refine ⟨_, rfl, rfl, _, rfl, ite2 (fun z => absurd (V.int.inj (of_decide_eq_true z)) (by decide)) (fun _ => ?_)⟩
           refine ⟨_, rfl, rfl, _, rfl, ite2 (fun z => absurd (V.int.inj (of_decide_eq_true z)) (by decide)) (fun _ => ?_)⟩
           refine ⟨_, rfl, _, _, rfl, rfl, _, rfl, ite2 (fun _ => ?_) (fun z => absurd (decide_eq_true (by decide)) z)⟩
           refine ⟨_, rfl, rfl, _, rfl, ite2 (fun z => absurd (V.int.inj (of_decide_eq_true z)) (by decide)) (fun _ => ?_)⟩
           exact ⟨_, rfl, a.p, dx, _, rfl, h1, nfL, _, rfl, a, l, g, k, all, _, rfl, hA, .inr ⟨hn, .inl ⟨rfl, Same.refl _, q⟩⟩⟩
         · refine ⟨_, rfl, rfl, _, rfl, ite2 (fun z => absurd (V.int.inj (of_decide_eq_true z)) (by decide)) (fun _ => ?_)⟩
           refine ⟨_, rfl, rfl, _, rfl, ite2 (fun z => absurd (V.int.inj (of_decide_eq_true z)) (by decide)) (fun _ => ?_)⟩
           refine ⟨_, rfl, rfl, _, rfl, ite2 (fun z => absurd (V.int.inj (of_decide_eq_true z)) (by decide)) (fun _ => ?_)⟩
           refine ⟨_, rfl, rfl, _, rfl, ite2 (fun z => absurd (V.int.inj (of_decide_eq_true z)) (by decide)) (fun _ => ?_)⟩
           refine ⟨_, rfl, _, _, rfl, rfl, _, rfl, ite2 (fun z => absurd (of_decide_eq_true z) (by decide)) (fun _ => ?_)⟩
           refine ⟨_, rfl, rfl, _, rfl, ite2 (fun _ => ?_) (fun z => absurd (decide_eq_true rfl) z)⟩
           exact ⟨_, rfl, a.p, dx, _, rfl, h1, nfH, _, rfl, a, l, g, k, all, _, rfl, hA, .inr ⟨hn, .inl ⟨rfl, Same.refl _, q⟩⟩⟩
         · refine ⟨_, rfl, rfl, _, rfl, ite2 (fun z => absurd (V.int.inj (of_decide_eq_true z)) (by decide)) (fun _ => ?_)⟩
           refine ⟨_, rfl, rfl, _, rfl, ite2 (fun z => absurd (V.int.inj (of_decide_eq_true z)) (by decide)) (fun _ => ?_)⟩
           refine ⟨_, rfl, rfl, _, rfl, ite2 (fun z => absurd (V.int.inj (of_decide_eq_true z)) (by decide)) (fun _ => ?_)⟩
           refine ⟨_, rfl, rfl, _, rfl, ite2 (fun z => absurd (V.int.inj (of_decide_eq_true z)) (by decide)) (fun _ => ?_)⟩
           refine ⟨_, rfl, _, _, rfl, rfl, _, rfl, ite2 (fun z => absurd (of_decide_eq_true z) (by decide)) (fun _ => ?_)⟩
           refine ⟨_, rfl, rfl, _, rfl, ite2 (fun z => absurd (V.int.inj (of_decide_eq_true z)) (by decide)) (fun _ => ?_)⟩
           refine ⟨_, rfl, rfl, _, rfl, ite2 (fun _ => ?_) (fun z => absurd (decide_eq_true rfl) z)⟩
           exact ⟨_, rfl, a.p, dx, _, rfl, h1, nfO, _, rfl, a, l, g, k, all, _, rfl, hA, .inr ⟨hn, .inl ⟨rfl, Same.refl _, q⟩⟩⟩
         · refine ⟨_, rfl, rfl, _, rfl, ite2 (fun z => absurd (V.int.inj (of_decide_eq_true z)) (by decide)) (fun _ => ?_)⟩
           refine ⟨_, rfl, rfl, _, rfl, ite2 (fun z => absurd (V.int.inj (of_decide_eq_true z)) (by decide)) (fun _ => ?_)⟩
           refine ⟨_, rfl, rfl, _, rfl, ite2 (fun z => absurd (V.int.inj (of_decide_eq_true z)) (by decide)) (fun _ => ?_)⟩
           refine ⟨_, rfl, rfl, _, rfl, ite2 (fun z => absurd (V.int.inj (of_decide_eq_true z)) (by decide)) (fun _ => ?_)⟩
           refine ⟨_, rfl, _, _, rfl, rfl, _, rfl, ite2 (fun z => absurd (of_decide_eq_true z) (by decide)) (fun _ => ?_)⟩
           refine ⟨_, rfl, rfl, _, rfl, ite2 (fun z => absurd (V.int.inj (of_decide_eq_true z)) (by decide)) (fun _ => ?_)⟩
           refine ⟨_, rfl, rfl, _, rfl, ite2 (fun z => absurd (V.int.inj (of_decide_eq_true z)) (by decide)) (fun _ => ?_)⟩
           exact ⟨_, rfl, a.p, dx, _, rfl, h1, nfW, _, rfl, a, l, g, k, all, _, rfl, hA, .inr ⟨hn, .inl ⟨rfl, Same.refl _, q⟩⟩⟩
   · rintro cls e H' hE ha
     rcases hE with ⟨rfl, s0', qE⟩ | ⟨rfl, s0', qE⟩
     · refine ⟨TX.rm, ?_⟩
       have s1 := Same.new (o := ExcO e (.ref XR)) ha
       exact ⟨_, rfl, e, rfl, .inl ⟨qQ, fun q1 H2 s2 e2 => qE _ _ ((s0'.trans s1).trans s2) e2⟩⟩
     · refine ⟨TX.km, ?_⟩
       have s1 := Same.new (o := ExcO e (.ref XK)) ha
       exact ⟨_, rfl, e, rfl, .inr ⟨qQ, fun q1 H2 s2 e2 => qE _ _ ((s0'.trans s1).trans s2) e2⟩⟩
def spOne : Sp := fun vs H Q _ => vs = [] ∧ ∀ H', Same H H' → Q (.bl true) H'
def LR : List Str := ["r"]
def XY : List Msg := [⟨1, "a", "x"⟩, ⟨2, "a", "y"⟩]
abbrev ZY : Stmt := top 36
abbrev N_l_known_one : List Str := ["_law_fan", "_law_text"]
theorem sc_l_known_one : FnScope N_l_known_one [] (qZ ZY) := ⟨rfl, rfl, rfl, by decide +kernel, rfl, by decide +kernel, by decide +kernel⟩
theorem ok_l_known_one {f CF CT CR CH XR XK : Addr} {fd : FuncData} (F : Fun K "_law_known_one" "_law_known_one" ZY f fd) (TC : TxtF K mg CF CT CR CH) (i_Fan : CalleeI P w K mg base 3 CF ["self", "keep"] (spFInit CF CT CR CH))
   (mx_lay : CalleeMX P w K mg base 3 CF "lay" ["self", "name", "size", "way"] (spFLayX CF CT CR CH XK)) (m_Fan_tell : CalleeM P w K mg base 5 CF "tell" ["self", "topic", "text"] (QQQ CF CT CR CH)) (mx_catch_up : CalleeMX P w K mg base 5 CF "catch_up" ["self", "name"] (vUY CF CT CR CH XR))
   (mx_Fan_heard : CalleeMX P w K mg base 3 CF "heard" ["self", "name"] (qUJ CF CT CR CH XR)) (mx_Fan_waiting : CalleeMX P w K mg base 3 CF "waiting" ["self", "name"] (yVY CF CT CR CH XR)) :
   FnOk P w K mg base CX0 6 f fd [] spOne := by
 refine F.ok sc_l_known_one (fun vs H Q E h => ?_) (fun cdv A0 outer s0 H vs Q E hr h => ?_)
 · obtain ⟨rfl, _⟩ := h; rfl
 · obtain ⟨rfl, q⟩ := h
   refine ⟨_, (qJ (yB (i := 0) sc_l_known_one.nd rfl (Or.inl rfl) (as_make i_Fan (hr.mono (by decide)) TC.mg_Fan (qU qG as_nil)))
     (qJ (vY (yD mx_lay TC.cl_Fan (hr.mono (by decide)) YM (pv 0) (qU qv (qM qG (qM qv as_nil)))))
     (qJ (qJJ PassesOwn.never rfl (k_it_tup K (Zz (qM qv (qM qv as_nil)))) (Qz (i := 1) sc_l_known_one.nd rfl (Or.inl rfl)) (qV (vY (Qw m_Fan_tell TC.cl_Fan (hr.mono (by decide)) (pv 0) (qU qv (qM (pv 1) as_nil))))))
     (qJ (zY (qw (k_ne0 K hr.units0) (yD mx_Fan_waiting TC.cl_Fan (hr.mono (by decide)) YM (pv 0) (qU qv as_nil)) (vw as_nil) (yU _)) (qV (qz MB)) yv)
     (qJ (vY (yD mx_catch_up TC.cl_Fan (hr.mono (by decide)) YM (pv 0) (qU qv as_nil)))
     (qJ (vY (Qw m_Fan_tell TC.cl_Fan (hr.mono (by decide)) (pv 0) (qU qv (qM qv as_nil))))
     (qV (qz (pe_and (pe_cmpR (op_eqD hr.units) (yD mx_Fan_waiting TC.cl_Fan (hr.mono (by decide)) YM (pv 0) (qU qv as_nil)) (vw (qM (Zz (qM qG (qM qv (qM qv as_nil)))) as_nil)) (yU _)) (pe_one (pe_cmpR (op_eqD hr.units) (yD mx_Fan_heard TC.cl_Fan (hr.mono (by decide)) YM (pv 0) (qU qv as_nil)) (vw (qM (Zz (qM qG (qM qv (qM qv as_nil)))) (qM (Zz (qM qG (qM qv (qM qv as_nil)))) as_nil))) (yU _)))))))))))), ?_⟩
   intro p1 dx1 np1 nd1 nx1
   refine ⟨p1, dx1, 5, rfl, qQ, fun A H2 ep hA0 st2 => ⟨rfl, ?_⟩⟩
   subst ep
   have v2 : Stp [] H A.own H2 := (Stp.obj (o := .own A.p) (o' := .ins CF dx1 []) np1 nd1).trans st2
   obtain ⟨g0, hg0⟩ : ∃ g : Str → FE, True := ⟨fun _ => ⟨0, 0, 0, 0, "", ⟨[], [], false⟩, ⟨0, 0, 0, 0, 0⟩, hs0⟩, trivial⟩
   have fp0 : ∀ c, c ∈ A.fp [] g0 ↔ c ∈ A.own := fun c => by unfold FA.fp fpF; simp
   have w2 : Stp [] H (A.fp [] g0) H2 := v2.weak (fun _ z => absurd z List.not_mem_nil) fun c hc => .inl ((fp0 c).mp hc)
   obtain ⟨dx, h1⟩ := (hA0 g0).ob
   refine ⟨_, rfl, A.p, dx, _, rfl, h1, nfY, A, [], g0, 5, [], "r", 1, "cut", rfl, hA0 g0, .inl ⟨List.not_mem_nil, by decide, fun e H3 hA3 a1 a2 a3 a4 st3 => ?_⟩⟩
   have hr : ("r" : Str) ∈ LR := by unfold LR; simp
   have er : (updE g0 "r" e) "r" = e := yY
   have w3 : Stp [] H (A.fp LR (updE g0 "r" e)) H3 := w2.trans st3
   have G3 : FG CF CT CR CH H3 A LR (updE g0 "r" e) 5 [] := ⟨hA3, fun n hn => (by
     have hn' : n = "r" := by unfold LR at hn; simpa using hn
     rw [hn', er]; exact FO.new (by omega) a3 a4), Rows.nil, fun m h => absurd h List.not_mem_nil, by decide, by decide⟩
   rw [← er] at a1 a2 a3 a4
   generalize updE g0 "r" e = g3 at G3 w3 a1 a2 a3 a4
   clear hA3 st3 w2 v2 st2 hA0 fp0 er
   refine ⟨(show 2 ≤ sizeLine by decide), fun tt ntt => ?_⟩
   have gt := Same.new (o := .tup [V.str "x", V.str "y"]) ntt
   have G4 := G3.same gt
   have w4 := w3.trans (gt.step _)
   have ett := qQ (H := H3) (a := tt) (o := .tup [V.str "x", V.str "y"])
   generalize upd H3 tt (.tup [V.str "x", V.str "y"]) = H4 at G4 w4 ett ⊢
   clear G3 w3 gt
   refine ⟨tt, rfl, ⟨_, SqT.ofT ett⟩, for_tup (K := K) (a := tt) (xs := [V.str "x", V.str "y"]) (fun i σ H' => ∃ o1 gi, σ = [some (.ref A.p), o1] ∧ H' tt = some (.tup [V.str "x", V.str "y"]) ∧ FG CF CT CR CH H' A LR gi 5 (XY.take i) ∧ (gi "r").sz = 1 ∧ (gi "r").way = "cut" ∧ (gi "r").h = hs0 ∧ (gi "r").s = (XY.take i).foldl (ZD 1 "cut") ⟨[], [], false⟩ ∧ Stp [] H (A.fp LR gi) H')
     ⟨_, g3, rfl, ett, G4, a1, a2, a4, a3, w4⟩ (fun i σ H' _ ⟨_, _, _, h, _⟩ => SqT.ofT h) ?_ ?_⟩
   · rintro i x σ H' hi ⟨o1, gi, rfl, et, G, b1, b2, b4, b3, wi⟩
     have hi2 : i < 2 := (List.getElem?_eq_some_iff.mp hi).1
     obtain ⟨tx, rfl, htx, hok⟩ : ∃ tx, x = V.str tx ∧ XY.take (i + 1) = XY.take i ++ [⟨((XY.take i).length : Int) + 1, "a", tx⟩] ∧ PyData.strOk tx = true := by
       have hc : i = 0 ∨ i = 1 := by omega
       rcases hc with rfl | rfl
       · exact ⟨"x", (Option.some.inj hi).symm, rfl, by decide +kernel⟩
       · exact ⟨"y", (Option.some.inj hi).symm, rfl, by decide +kernel⟩
     obtain ⟨dx, h1⟩ := G.fa.ob
     have hl2 : (XY.take i).length ≤ 2 := by rw [List.length_take]; exact Nat.min_le_right _ _
     refine Qv ⟨_, rfl, A.p, dx, _, rfl, h1, nfT, _, rfl, A, LR, gi, 5, _, "a", tx, rfl, G.fa, by omega, by decide, by decide, G.room (by omega), fun g' H5 fa5 hp5 st5 => ?_⟩
     have hp := hp5 "r" hr
     have G5 := G.tell (t := "a") (x := tx) (by decide +kernel) hok fa5 hp5
     rw [← htx] at G5
     refine ⟨_, g', rfl, st5.tup _ _ et, G5, hp.sz.trans b1, hp.way.trans b2, hp.h.trans b4, ?_, wi.trans st5⟩
     rw [hp.s, b1, b2, b3, htx, List.foldl_append]; rfl
   rintro σ H5 ⟨o1, g5, rfl, _, G5, b1, b2, b4, b3, w5⟩
   have hxy : XY.take [V.str "x", V.str "y"].length = XY := rfl
   rw [hxy] at G5 b3
   have b3' : (g5 "r").s = ⟨[], [1, 2], true⟩ := by rw [b3]; rfl
   clear b3
   obtain ⟨dx, h1⟩ := G5.fa.ob
   refine ⟨_, rfl, A.p, dx, _, rfl, h1, nfW, A, LR, g5, 5, XY, "r", rfl, G5.fa, .inl ⟨hr, fun lw yw nlw mw => ⟨Nat.zero_le _, fun lz nlz => ?_⟩⟩⟩
   rw [b3'] at mw
   have eyw : yw = [] := List.length_eq_zero_iff.mp mw.len
   subst eyw
   have g6 := Same.new (o := .lst []) nlw
   have g7 := Same.new (o := .lst []) nlz
   refine ⟨lw, lz, [], rfl, rfl, SqL.ofL (g7 _ _ qQ), SqL.ofL qQ, _, rfl, iteF ?_⟩
   have G6 := (G5.same g6).same g7
   have w6 := w5.trans ((g6.trans g7).step _)
   generalize upd (upd H5 lw (.lst [])) lz (.lst []) = H6 at G6 w6 ⊢
   clear G5 w5 g6 g7 mw
   obtain ⟨dx, h1⟩ := G6.fa.ob
   have hO := G6.en _ hr
   have sz := hO.sizes G6.rows
   have lxy : XY.length = 2 := rfl
   refine ⟨_, rfl, A.p, dx, _, rfl, h1, nfU, A, LR, g5, 5, XY, "r", rfl, G6.fa, .inl ⟨hr, by decide, G6.rows, by decide, G6.ok, hO.hw, sz.2.2, by omega, fun e1 q1 lh1 ys1 fo1 H7 fa7 c1 c2 c3 c4 eh1 st7 oq1 fr1 ol1 eq1 el1 ml1 => ?_⟩⟩
   have G7 := G6.upd fa7 (hO.catch G6.rows (by decide) c1 c3 c4)
   obtain ⟨cw, cnx, chd, clo⟩ := hO.hw.catch G6.rows (k := 5) (by decide) sz.2.2
   have hlo : (vG 5 XY (g5 "r").h).lost = [] := List.eq_nil_iff_forall_not_mem.mpr fun x hx => by
     rcases (clo x).mp hx with z | ⟨z1, z2, _⟩
     · rw [b4] at z; exact absurd z List.not_mem_nil
     · have hp := (g5 "r").h.next_pos
       have hl := JM 5 XY
       have : min XY.length (5 : Int).toNat = 2 := rfl
       omega
   have hhd := cw.heard_all G6.rows cnx hlo
   have e1h : (updE g5 "r" e1) "r" = e1 := yY
   rw [← c4] at hhd
   rw [b3'] at c3
   rw [b1] at c1
   rw [b2] at c2
   rw [← e1h] at hhd c1 c2 c3
   have w7 := w6.trans st7
   generalize updE g5 "r" e1 = g7 at G7 w7 hhd c1 c2 c3
   clear G6 fa7 st7 w6 eq1 oq1 ol1 e1h
   obtain ⟨dx, h1⟩ := G7.fa.ob
   refine ⟨_, rfl, A.p, dx, _, rfl, h1, nfT, A, LR, g7, 5, XY, "a", "z", rfl, G7.fa, by decide, by decide, by decide, G7.room (by decide), fun g8 H8 fa8 hp8 st8 => ?_⟩
   have hp := hp8 "r" hr
   have G8 := G7.tell (t := "a") (x := "z") (by decide +kernel) (by decide +kernel) fa8 hp8
   have hs8 : (g8 "r").s.rows = [⟨3, "a", "z"⟩] := by rw [hp.s, c1, c2, c3]; rfl
   have hh8 : (g8 "r").h.heard = XY := by rw [hp.h]; exact hhd
   have w8 := w7.trans st8
   clear G7 w7 hp8 fa8 hp
   obtain ⟨dx, h1⟩ := G8.fa.ob
   refine ⟨_, rfl, A.p, dx, _, rfl, h1, nfW, A, LR, g8, 5, _, "r", rfl, G8.fa, .inl ⟨hr, fun lw yw nlw mw => ?_⟩⟩
   rw [hs8] at mw
   have k1 := Same.new (o := .lst yw) nlw
   have G9 := G8.same k1
   have elw := qQ (H := H8) (a := lw) (o := .lst yw)
   generalize upd H8 lw (.lst yw) = H9 at k1 G9 elw mw ⊢
   refine ⟨(show 3 ≤ sizeLine by decide), fun c3' nc3 => ⟨(show 1 ≤ sizeLine by decide), fun ll nll => ?_⟩⟩
   have k2 := Same.new (o := mT ⟨3, "a", "z"⟩) nc3
   have k3 := Same.new (o := .lst [V.ref c3']) nll
   have hc3 : upd H9 c3' (mT ⟨3, "a", "z"⟩) c3' = some (mT ⟨3, "a", "z"⟩) := qQ
   have ok3 : ∀ m ∈ ([⟨3, "a", "z"⟩] : List Msg), mOk m := fun m hm => by rw [List.mem_singleton] at hm; rw [hm]; exact ⟨by decide +kernel, by decide +kernel⟩
   have kk := k2.trans k3
   refine eq_ms (kk _ _ elw) (mw.same kk) qQ (Ms.one (k3 _ _ hc3)) ok3 ⟨_, rfl, iteT ?_⟩
   have G10 := G9.same kk
   have w10 := (w8.trans (k1.step _)).trans (kk.step _)
   change FG CF CT CR CH (upd (upd H9 c3' (.tup [V.int 3, V.str "a", V.str "z"])) ll (.lst [V.ref c3'])) _ _ _ _ _ at G10
   change Stp _ _ _ (upd (upd H9 c3' (.tup [V.int 3, V.str "a", V.str "z"])) ll (.lst [V.ref c3'])) at w10
   generalize upd (upd H9 c3' (.tup [V.int 3, V.str "a", V.str "z"])) ll (.lst [V.ref c3']) = H10 at G10 w10 ⊢
   clear G8 G9 k1 k2 k3 kk elw mw hc3 w8
   obtain ⟨dx, h1⟩ := G10.fa.ob
   refine ⟨_, rfl, A.p, dx, _, rfl, h1, nfH, A, LR, g8, 5, _, "r", rfl, G10.fa, .inl ⟨hr, fun lh yh nlh mh => ?_⟩⟩
   rw [hh8] at mh
   have k1 := Same.new (o := .lst yh) nlh
   have elh := qQ (H := H10) (a := lh) (o := .lst yh)
   have w11 := w10.trans (k1.step _)
   generalize upd H10 lh (.lst yh) = H11 at k1 elh mh w11 ⊢
   refine ⟨(show 3 ≤ sizeLine by decide), fun d1 nd1' => ⟨(show 3 ≤ sizeLine by decide), fun d2 nd2' => ⟨(show 2 ≤ sizeLine by decide), fun ll2 nll2 => ?_⟩⟩⟩
   have j1 := Same.new (o := mT ⟨1, "a", "x"⟩) nd1'
   have j2 := Same.new (o := mT ⟨2, "a", "y"⟩) nd2'
   have j3 := Same.new (o := .lst [V.ref d1, V.ref d2]) nll2
   have hd1 : upd H11 d1 (mT ⟨1, "a", "x"⟩) d1 = some (mT ⟨1, "a", "x"⟩) := qQ
   have hd2 : upd (upd H11 d1 (mT ⟨1, "a", "x"⟩)) d2 (mT ⟨2, "a", "y"⟩) d2 = some (mT ⟨2, "a", "y"⟩) := qQ
   have jj := (j1.trans j2).trans j3
   have okx : ∀ m ∈ XY, mOk m := fun m hm => by
     unfold XY at hm
     simp only [List.mem_cons, List.not_mem_nil, or_false] at hm
     rcases hm with rfl | rfl <;> exact ⟨by decide +kernel, by decide +kernel⟩
   refine eq_ms (ms := XY) (jj _ _ elh) (mh.same jj) qQ ((Ms.one ((j2.trans j3) _ _ hd1)).append (Ms.one (j3 _ _ hd2))) okx ?_
   exact q _ (w11.trans (jj.step _)).same
structure Alk (all : List Msg) (e : FE) (s : OS) : Prop where
 sz : e.sz = s.sz
 way : e.way = s.way
 rows : e.s.rows = s.rows
 cut : e.s.cut = s.cut
 he : HE e.h s.h
 hw : Hw all s.h
 cc : s.cut = true → s.way = "cut" ∧ s.rows = []
 wy : s.way = "old" ∨ s.way = "new" ∨ s.way = "cut"
structure FR0 (CF CT CR CH : Addr) (H : Hp) (A : FA) (l : List Str) (g : Str → FE) (k : Int) (all : List Msg) (pr : Addr) (o : Str → OA) (os : Str → OS) (lt : Addr) (yt : List V) : Prop where
 fg : FG CF CT CR CH H A l g k all
 oa : ∀ n ∈ l, OAt H (o n) (os n)
 al : ∀ n ∈ l, Alk all (g n) (os n)
 et : H lt = some (.lst yt)
 mt : Ms H yt all
 np : pr ∉ A.fp l g
 nt : lt ∉ A.fp l g
 pt : pr ≠ lt
 no : ∀ n ∈ l, ∀ c ∈ (o n).fp, c ∉ A.fp l g ∧ c ≠ pr ∧ c ≠ lt
 ap : ∀ n ∈ l, ∀ m ∈ l, n ≠ m → ∀ c ∈ (o n).fp, c ∉ (o m).fp
 nm : ∀ n ∈ l, PyData.strOk n = true
structure FR (CF CT CR CH : Addr) (H : Hp) (A : FA) (l : List Str) (g : Str → FE) (k : Int) (all : List Msg) (pr : Addr) (o : Str → OA) (os : Str → OS) (lt : Addr) (yt : List V) : Prop extends FR0 CF CT CR CH H A l g k all pr o os lt yt where
 rt : H pr = some (.dK (tabN l fun n => .ref (o n).m))
section
variable {CF CT CR CH : Addr} {H H' : Hp} {A : FA} {l : List Str} {g : Str → FE} {k : Int} {all : List Msg} {pr : Addr} {o : Str → OA} {os : Str → OS} {lt : Addr} {yt : List V}
theorem FR0.step {ps ps' : List Addr} (h : FR0 CF CT CR CH H A l g k all pr o os lt yt) (st : Stp ps H ps' H') (h1 : ∀ c ∈ A.fp l g, c ∉ ps) (h2 : ∀ n ∈ l, ∀ c ∈ (o n).fp, c ∉ ps) (h3 : lt ∉ ps) : FR0 CF CT CR CH H' A l g k all pr o os lt yt :=
 ⟨h.fg.step st h1, fun n hn => (h.oa n hn).step st (h2 n hn), h.al, st.keep h.et h3, h.mt.step st, h.np, h.nt, h.pt, h.no, h.ap, h.nm⟩
theorem FR0.same (h : FR0 CF CT CR CH H A l g k all pr o os lt yt) (s : Same H H') : FR0 CF CT CR CH H' A l g k all pr o os lt yt := h.step (s.step []) (fun _ _ => List.not_mem_nil) (fun _ _ _ _ => List.not_mem_nil) List.not_mem_nil
theorem FR0.tab (h : FR0 CF CT CR CH H A l g k all pr o os lt yt) {u v : HO} (e : H pr = some u) (hn : ∀ xs, u ≠ .tup xs) : FR0 CF CT CR CH (upd H pr v) A l g k all pr o os lt yt :=
 h.step (Stp.put (ps := [pr]) e hn (by simp)) (fun c hc z => h.np (by rw [List.mem_singleton] at z; rw [← z]; exact hc)) (fun n hn' c hc z => (h.no n hn' c hc).2.1 (List.mem_singleton.mp z)) (fun z => h.pt (List.mem_singleton.mp z).symm)
theorem FR.same (h : FR CF CT CR CH H A l g k all pr o os lt yt) (s : Same H H') : FR CF CT CR CH H' A l g k all pr o os lt yt := ⟨h.toFR0.same s, s _ _ h.rt⟩
end
theorem hasL_ss {H : Hp} : ∀ l : List Str, HasL H (l.map V.str) (l.map PyData.str)
 | [] => Mz
 | t :: l => zV (has_str t) (hasL_ss l)
theorem lay_ss : ∀ {l : List Str}, (∀ t ∈ l, PyData.strOk t = true) → PyData.canLayAll0 (l.map PyData.str) = true
 | [], _ => by simp [PyData.canLayAll0]
 | t :: l, h => by simp [PyData.canLayAll0, PyData.canLay0, h t List.mem_cons_self, lay_ss fun k hk => h k (List.mem_cons_of_mem _ hk)]
theorem depth_ss : ∀ l : List Str, PyData.depthAll (l.map PyData.str) ≤ 3
 | [] => by simp [PyData.depthAll]
 | t :: l => by
   have := depth_ss l
   simp only [List.map_cons, PyData.depthAll, PyData.depth]
   omega
theorem ne_strs {H : Hp} {a b : Addr} {l : List Str} {Q : VK} (ha : H a = some (.lst (l.map V.str))) (hb : H b = some (.lst (l.map V.str))) (hl : ∀ t ∈ l, PyData.strOk t = true) (q : Q (.bl false) H) : rNeD (.ref a) (.ref b) H Q := by
 have h1 := depth_ss l
 have h3 : PyData.canLay0 (.list (l.map PyData.str)) = true := by simp only [PyData.canLay0]; exact lay_ss hl
 have h2 : SeqAt.shaped (.list (l.map PyData.str)) = true := by
   have h2 : PyData.depth (.list (l.map PyData.str)) ≤ 64 := by simp only [PyData.depth]; omega
   show (PyData.canLay0 (.list (l.map PyData.str)) && decide (PyData.depth (.list (l.map PyData.str)) ≤ 64)) = true
   rw [Bool.and_eq_true]
   exact ⟨h3, decide_eq_true h2⟩
 refine ⟨_, _, Yw ha (hasL_ss l), Yw hb (hasL_ss l), h2, h2, ?_⟩
 rw [SeqAt.eqv_refl _ h3]; exact q
theorem eq_strs {H : Hp} {a b : Addr} {l : List Str} {Q : VK} (ha : H a = some (.lst (l.map V.str))) (hb : H b = some (.lst (l.map V.str))) (hl : ∀ t ∈ l, PyData.strOk t = true) (q : Q (.bl true) H) : rEqD (.ref a) (.ref b) H Q := by
 have h1 := depth_ss l
 have h3 : PyData.canLay0 (.list (l.map PyData.str)) = true := by simp only [PyData.canLay0]; exact lay_ss hl
 have h2 : SeqAt.shaped (.list (l.map PyData.str)) = true := by
   have h2 : PyData.depth (.list (l.map PyData.str)) ≤ 64 := by simp only [PyData.depth]; omega
   show (PyData.canLay0 (.list (l.map PyData.str)) && decide (PyData.depth (.list (l.map PyData.str)) ≤ 64)) = true
   rw [Bool.and_eq_true]
   exact ⟨h3, decide_eq_true h2⟩
 refine ⟨_, _, Yw ha (hasL_ss l), Yw hb (hasL_ss l), h2, h2, ?_⟩
 rw [SeqAt.eqv_refl _ h3]; exact q
theorem max_one {ns ms : List Int} {M N : Int} (h : ∀ x, x ∈ ns ↔ x ∈ ms) (hM : IsMax ns M) (hN : N ∈ ms) (hg : ∀ x ∈ ms, x ≤ N) : M = N := by
 rcases hM with ⟨rfl, _⟩ | ⟨h1, h2⟩
 · exact absurd ((h N).mpr hN) List.not_mem_nil
 · exact Int.le_antisymm (hg M ((h M).mp h1)) (h2 N ((h N).mpr hN))
def spStands (CF CT CR CH : Addr) : Sp := fun vs H Q _ => ∃ A l g k all pr o os lt yt, vs = [.ref (FA.p A), .ref pr, .ref lt] ∧ FR CF CT CR CH H A l g k all pr o os lt yt ∧ all.length ≤ 12 ∧ ∀ H', Same H H' → Q (.bl true) H'
abbrev UD : Stmt := top 35
abbrev N_l_stands : List Str := ["_law_fan", "_law_roads", "_law_told_here", "_law_lags", "_law_name", "_law_ear"]
theorem sc_l_stands : FnScope N_l_stands ["_law_fan", "_law_roads", "_law_told_here"] (qZ UD) := ⟨rfl, rfl, rfl, by decide +kernel, rfl, by decide +kernel, by decide +kernel⟩
theorem ok_l_stands {f CF CT CR CH XR : Addr} {fd : FuncData} (F : Fun K "_law_stands" "_law_stands" UD f fd) (T : Txt mg) (TC : TxtF K mg CF CT CR CH) (c_l_expects : Callee P w K mg base 1 "_law_expects" ["_law_mine"] yVQ)
   (mx_Fan_heard : CalleeMX P w K mg base 3 CF "heard" ["self", "name"] (qUJ CF CT CR CH XR)) (mx_Fan_lost : CalleeMX P w K mg base 3 CF "lost" ["self", "name"] (QQZ CF CT CR CH XR)) (mx_Fan_waiting : CalleeMX P w K mg base 3 CF "waiting" ["self", "name"] (yVY CF CT CR CH XR)) (mx_lag : CalleeMX P w K mg base 3 CF "lag" ["self", "name"] (QQJ CF CT CR CH XR)) (m_slowest : CalleeM P w K mg base 4 CF "slowest" ["self"] (spFSlow CF CT CR CH)) :
   FnOk P w K mg base CX0 5 f fd ["_law_fan", "_law_roads", "_law_told_here"] (spStands CF CT CR CH) := by
 refine F.ok sc_l_stands (fun vs H Q E h => ?_) (fun cdv A0 outer s0 H vs Q E hr h => ?_)
 · obtain ⟨A, l, g, k, all, pr, o, os, lt, yt, rfl, _⟩ := h; rfl
 · obtain ⟨A, l, g, k, all, pr, o, os, lt, yt, rfl, X, hl, q⟩ := h
   refine ⟨_, (qJ (yB (i := 3) sc_l_stands.nd rfl (Or.inr rfl) Mq)
     (qJ (ps_thaw (qJJ PassesOwn.never rfl (pi_keys (pv 1)) (Qz (i := 4) sc_l_stands.nd rfl (Or.inl rfl)) (qJ (yB (i := 5) sc_l_stands.nd rfl (Or.inl rfl) (yy (yG hr) (yy (yG hr) (pv 1) (pv 4) (fun _ _ => rfl)) qv (fun _ _ => rfl)))
     (qJ (Yv (yG hr) (pv 3) (pv 4) (yz Jz (yz QB (yJ (vU K) (by rfl) T.b_len PySem.boot_len (qU (pv 2) as_nil)) qG) (zB c_l_expects (hr.mono (by decide)) (qU (pv 5) as_nil))) rfl)
     (qJ (zY (PW.pt (pw_or (qw (vYQ hr.units) (yD mx_Fan_heard TC.cl_Fan (hr.mono (by decide)) YM (pv 0) (qU (pv 4) as_nil)) (yy (yG hr) (pv 5) qv (fun _ _ => rfl)) (yU _)) (pw_or (qw (vYQ hr.units) (yD mx_Fan_lost TC.cl_Fan (hr.mono (by decide)) YM (pv 0) (qU (pv 4) as_nil)) (yy (yG hr) (pv 5) qv (fun _ _ => rfl)) (yU _)) (pw_or1 (qw op_ne (yD mx_lag TC.cl_Fan (hr.mono (by decide)) YM (pv 0) (qU (pv 4) as_nil)) (yy (yG hr) (pv 3) (pv 4) (fun _ _ => rfl)) (yU _)))))) (qV (qz MB)) yv)
     (qV (zY (qw (vYQ hr.units) (yD mx_Fan_waiting TC.cl_Fan (hr.mono (by decide)) YM (pv 0) (qU (pv 4) as_nil)) (yy (yG hr) (yy (yG hr) (pv 1) (pv 4) (fun _ _ => rfl)) qv (fun _ _ => rfl)) (yU _)) (qV (qz MB)) yv)))))))
     (qV (qz (pe_cmpR (op_eqD hr.units) (zz m_slowest TC.cl_Fan (hr.mono (by decide)) (pv 0)) (vUJ (N' := ["_law_name", "_law_lags"]) (ix := [none, some 3]) (own := [0]) rfl (cs_of (osc := qZ UD) (ON := N_l_stands) rfl rfl (by decide +kernel)) (by decide) (YG K (yJ (k_sortT K rfl) (by rfl) T.b_sorted PyProof.Rows.boot_sorted (qU (pv 3) as_nil))) (fun _ _ _ _ => (Qz (i := 0) (show (["_law_name", "_law_lags"] : List Str).Nodup by decide +kernel) rfl (Or.inl rfl))) qZY (fun _ _ _ _ => (vQZ (qw MG (yy (yG hr) (pv 1) (pv 0) (fun _ _ => rfl)) (yJ k_maxV (by rfl) T.b_max PyProof.Rows.boot_max (qU (k_bm0 K PySem.F.plainAttrs_dict PySem.F.slot_dict_values PySem.F.type_dict_values mt_values (pv 1)) as_nil)) (yU _)))) (fun _ _ _ _ => (pv 0))) (yU _)))))), ?_⟩
   intro pl npl
   have hfz : ∀ (o : Obj) (u : HO), H pr = some (.frz o u) → False := fun o u e => by rw [X.rt] at e; cases e
   have g1 := Same.new (o := .dK []) npl
   have X1 := X.same g1
   have epl := qQ (H := H) (a := pl) (o := .dK [])
   have nplr : pl ≠ pr := fun z => by have := X.rt; rw [← z, npl] at this; cases this
   have npl0 : H pl = none := npl
   have hb1 : ∀ c u, H c = some u → c ≠ pr → upd H pl (.dK []) c = some u := fun c u e _ => g1 _ _ e
   generalize upd H pl (.dK []) = H1 at g1 X1 epl hb1 ⊢
   refine ⟨_, rfl, pr, _, rfl, X1.rt, hfz, fun ob => ?_⟩
   have Y := X1.toFR0.tab (v := .frz ob (.dK (tabN l fun n => .ref (o n).m))) X1.rt (fun _ z => by cases z)
   have ey := qQ (H := H1) (a := pr) (o := .frz ob (.dK (tabN l fun n => .ref (o n).m)))
   have epl2 : upd H1 pr (.frz ob (.dK (tabN l fun n => .ref (o n).m))) pl = some (.dK []) := (qY nplr).trans epl
   have hb2 : ∀ c u, H c = some u → c ≠ pr → upd H1 pr (.frz ob (.dK (tabN l fun n => .ref (o n).m))) c = some u := fun c u e hc => (qY hc).trans (hb1 c u e hc)
   generalize upd H1 pr (.frz ob (.dK (tabN l fun n => .ref (o n).m))) = H2 at Y ey epl2 hb2 ⊢
   refine for_it (n := (tabN l fun n => V.ref (o n).m).length) (fun i σ H' => ∃ o4 o5, σ = [some (.ref A.p), some (.ref pr), some (.ref lt), some (.ref pl), o4, o5] ∧ FR0 CF CT CR CH H' A l g k all pr o os lt yt ∧ H' pr = some (.frz ob (.dK (tabN l fun n => .ref (o n).m))) ∧ H' pl = some (.dK (tabN (l.take i) fun n => .int (lagF all (g n)))) ∧ ∀ c u, H c = some u → c ≠ pr → H' c = some u)
     ⟨_, _, rfl, Y, ey, epl2, hb2⟩ ?_ ?_
   · rintro i σ H' hi ⟨o4, o5, rfl, Y, ey, epl, hb⟩
     refine ⟨⟨ey, hi⟩, ?_⟩
     rintro x H3 ⟨rfl, kv, hkv, rfl⟩
     have hi' : i < l.length := by rw [UU] at hi; exact hi
     have hkv' : kv = (Sum.inr l[i], V.ref (o l[i]).m) := by
       unfold tabN at hkv
       rw [List.getElem?_map, List.getElem?_eq_getElem hi'] at hkv
       exact (Option.some.inj hkv).symm
     subst hkv'
     have hn : l[i] ∈ l := List.getElem_mem hi'
     have hni : l[i] ∉ l.take i := fun z => by
       obtain ⟨j, hj, e⟩ := List.getElem_of_mem z
       rw [List.length_take] at hj
       rw [List.getElem_take] at e
       exact List.pairwise_iff_getElem.mp Y.fg.fa.nd j i (by omega) hi' (by omega) e
     have htk : l.take (i + 1) = l.take i ++ [l[i]] := by rw [List.take_add_one, List.getElem?_eq_getElem hi']; rfl
     rw [htk]
     generalize l[i] = n at hn hni
     have hal := Y.al n hn
     have hO := Y.oa n hn
     have hL := hO.ea
     have hF := Y.fg.en n hn
     have sz := hF.sizes Y.fg.rows
     have hgP : ∀ {H' : Hp}, H' pr = some (.frz ob (.dK (tabN l fun n => .ref (o n).m))) → DGet H' pr (.str n) (some (.ref (o n).m)) := fun e => .inl ⟨_, Sum.inr n, .inr ⟨ob, e⟩, rfl, (YQ (F := fun n => V.ref (o n).m) hn).symm⟩
     have hgE : ∀ {H' : Hp}, OAt H' (o n) (os n) → DGet H' (o n).m (.str "ear") (some (.ref (o n).E.m)) := fun h => oK_ear (o n) (os n) ▸ DGet.k (k := Sum.inr "ear") h.ob
     have hgR : ∀ {H' : Hp}, OAt H' (o n) (os n) → DGet H' (o n).m (.str "rows") (some (.ref (o n).q)) := fun h => oK_rows (o n) (os n) ▸ DGet.k (k := Sum.inr "rows") h.ob
     have lyt := Y.mt.len
     refine Qv ⟨_, rfl, _, rfl, pr, _, rfl, hgP ey, (o n).m, _, rfl, hgE hO, ?_⟩
     refine ⟨_, rfl, lt, _, rfl, .inl (SqL.ofL Y.et), _, _, rfl, rfl, _, rfl, (o n).E, (os n).h, rfl, hL, _, _, rfl, rfl, _, rfl, _, rfl, pl, _, rfl, DPut.k (k := Sum.inr n) (v := V.int ((yt.length : Int) + 1 - (os n).h.next)) epl (by rw [UU, List.length_take, sizeLine_eq]; have := Y.fg.ln; omega), ?_⟩
     have hnx := hal.he.next
     have ev : (yt.length : Int) + 1 - (os n).h.next = lagF all (g n) := by unfold lagF; omega
     rw [ev, vJJ hni, show (tabN (l.take i ++ [n]) fun m => if m = n then V.int (lagF all (g n)) else V.int (lagF all (g m))) = tabN (l.take i ++ [n]) (fun m => V.int (lagF all (g m))) from Yq fun m _ => by
       by_cases z : m = n
       · rw [if_pos z, z]
       · rw [if_neg z]]
     have st := Stp.put (ps := [pl]) (o := .dK (tabN (l.take i ++ [n]) fun m => .int (lagF all (g m)))) epl (fun _ z => by cases z) (by simp)
     have Y1 := Y.step st (fun c hc z => X.fg.fa.free npl0 (by rw [List.mem_singleton] at z; rw [← z]; exact hc)) (fun m hm c hc z => (X.oa m hm).free npl0 (by rw [List.mem_singleton] at z; rw [← z]; exact hc)) (fun z => by rw [List.mem_singleton] at z; have := X.et; rw [z, npl0] at this; cases this)
     have ey1 := st.keep ey (by simp [nplr.symm])
     have epl1 := qQ (H := H3) (a := pl) (o := .dK (tabN (l.take i ++ [n]) fun m => .int (lagF all (g m))))
     have hb1' : ∀ c u, H c = some u → c ≠ pr → upd H3 pl (.dK (tabN (l.take i ++ [n]) fun m => .int (lagF all (g m)))) c = some u := fun c u e hc => (qY (fun z => by rw [z, npl0] at e; cases e)).trans (hb c u e hc)
     generalize upd H3 pl (.dK (tabN (l.take i ++ [n]) fun m => .int (lagF all (g m)))) = H4 at Y1 ey1 epl1 hb1' ⊢
     clear Y ey epl hb hO hL st
     have hO := Y1.oa n hn
     obtain ⟨yr, hq, mq⟩ := hO.ea.ro
     obtain ⟨dx, h1⟩ := Y1.fg.fa.ob
     refine ⟨_, rfl, A.p, dx, _, rfl, h1, nfH, _, rfl, A, l, g, k, all, n, rfl, Y1.fg.fa, .inl ⟨hn, fun lh yh nlh mh => ?_⟩⟩
     have g1' := Same.new (o := .lst yh) nlh
     have okh : ∀ m ∈ (g n).h.heard, mOk m := fun m hm => Y1.fg.ok m (hF.hw.sub m (.inl hm))
     refine ⟨_, rfl, (o n).E.m, _, rfl, lK_rows (o n).E ▸ DGet.k (k := Sum.inr "rows") (g1' _ _ hO.ea.ob), ne_ms qQ mh (g1' _ _ hq) (by rw [hal.he.heard]; exact mq.same g1') okh ⟨_, rfl, iteF ?_⟩⟩
     have Y2 := Y1.same g1'
     have ey2 := g1' _ _ ey1
     have epl2 := g1' _ _ epl1
     have hb2' : ∀ c u, H c = some u → c ≠ pr → upd H4 lh (.lst yh) c = some u := fun c u e hc => g1' _ _ (hb1' c u e hc)
     generalize upd H4 lh (.lst yh) = H5 at Y2 ey2 epl2 hb2' ⊢
     clear Y1 ey1 epl1 hb1' hO hq mq g1' mh
     have hO := Y2.oa n hn
     obtain ⟨dx, h1⟩ := Y2.fg.fa.ob
     refine ⟨_, rfl, A.p, dx, _, rfl, h1, nfO, _, rfl, A, l, g, k, all, n, rfl, Y2.fg.fa, .inl ⟨hn, fun ll nll => ?_⟩⟩
     have g2' := Same.new (o := .lst ((g n).h.lost.map V.int)) nll
     refine ⟨_, rfl, (o n).E.m, _, rfl, lK_gone (o n).E ▸ DGet.k (k := Sum.inr "gone") (g2' _ _ hO.ea.ob), ne_ints qQ ((g2' _ _ hO.ea.go).trans (by rw [← hal.he.lost])) ⟨_, rfl, iteF ?_⟩⟩
     have Y3 := Y2.same g2'
     have ey3 := g2' _ _ ey2
     have epl3 := g2' _ _ epl2
     have hb3' : ∀ c u, H c = some u → c ≠ pr → upd H5 ll (.lst ((g n).h.lost.map V.int)) c = some u := fun c u e hc => g2' _ _ (hb2' c u e hc)
     generalize upd H5 ll (.lst ((g n).h.lost.map V.int)) = H6 at Y3 ey3 epl3 hb3' ⊢
     clear Y2 ey2 epl2 hb2' hO g2'
     obtain ⟨dx, h1⟩ := Y3.fg.fa.ob
     have hgL : DGet H6 pl (.str n) (some (.int (lagF all (g n)))) := .inl ⟨_, Sum.inr n, .inl epl3, rfl, (YQ (F := fun m => V.int (lagF all (g m))) (by simp)).symm⟩
     refine ⟨_, rfl, A.p, dx, _, rfl, h1, nfL, _, rfl, A, l, g, k, all, n, rfl, Y3.fg.fa, .inl ⟨hn, _, rfl, _, rfl, pl, _, rfl, hgL, rfl, _, rfl, ite2 (fun z => absurd z ?_) (fun _ => ?_)⟩⟩
     · show ¬ ((!decide (V.int _ = V.int _)) = true)
       rw [decide_eq_true rfl]; decide
     have hO := Y3.oa n hn
     obtain ⟨yw, hw, mw⟩ := hO.ro
     refine ⟨_, rfl, A.p, dx, _, rfl, h1, nfW, _, rfl, A, l, g, k, all, n, rfl, Y3.fg.fa, .inl ⟨hn, fun lw yq nlw mq => ?_⟩⟩
     have g4' := Same.new (o := .lst yq) nlw
     have okr : ∀ m ∈ (g n).s.rows, mOk m := fun m hm => Y3.fg.ok m (hF.sub m hm)
     refine ⟨_, rfl, _, rfl, pr, _, rfl, hgP (g4' _ _ ey3), (o n).m, _, rfl, hgR (hO.same g4'), ne_ms qQ mq (g4' _ _ hw) (by rw [hal.rows]; exact mw.same g4') okr ⟨_, rfl, iteF ?_⟩⟩
     exact ⟨_, _, rfl, Y3.same g4', g4' _ _ ey3, g4' _ _ epl3, fun c u e hc => g4' _ _ (hb3' c u e hc)⟩
   rintro σ H3 ⟨o4, o5, rfl, Y, ey, epl, hb⟩
   rw [UU, List.take_length] at epl
   refine ⟨⟨ey, Nat.le_refl _⟩, pr, ob, _, ey, hfz, ?_⟩
   have sm : Same H (upd H3 pr (.dK (tabN l fun n => .ref (o n).m))) := fun c u e => by
     by_cases z : c = pr
     · rw [z] at e ⊢; rw [qQ]; rw [← e]; exact X.rt.symm
     · exact (qY z).trans (hb c u e z)
   have epl4 : upd H3 pr (.dK (tabN l fun n => .ref (o n).m)) pl = some (.dK (tabN l fun n => .int (lagF all (g n)))) := (qY nplr).trans epl
   have X4 := X.same sm
   generalize upd H3 pr (.dK (tabN l fun n => .ref (o n).m)) = H4 at sm epl4 X4 ⊢
   clear Y ey epl hb
   have hln := X4.fg.ln
   obtain ⟨dx, h1⟩ := X4.fg.fa.ob
   refine ⟨_, rfl, A.p, dx, _, rfl, h1, nfS, A, l, g, k, all, rfl, X4.fg.fa, by omega, fun q1 ts M H5 s5 nq1 hts hM eq1 => ?_⟩
   have epl5 := s5 _ _ epl4
   refine ⟨_, rfl, .ref pl, l, rfl, .inr ⟨pl, _, rfl, epl5, tabN_keys l _⟩, by omega, fun ls ts2 nls hts2 => ?_⟩
   obtain rfl : ts = ts2 := (hts2.eq hts.perm hts.rise).symm
   have g6 := Same.new (o := .lst (ts.map V.str)) nls
   have els := qQ (H := H5) (a := ls) (o := .lst (ts.map V.str))
   have epl6 := g6 _ _ epl5
   have eq6 := g6 _ _ eq1
   have s6 := (sm.trans s5).trans g6
   generalize upd H5 ls (.lst (ts.map V.str)) = H6 at els epl6 eq6 s6 ⊢
   have lts : ts.length = l.length := hts.perm.length_eq
   have mts : ∀ n ∈ ts, n ∈ l := fun n hn => hts.perm.mem_iff.mp hn
   refine ⟨ls, rfl, ⟨_, SqL.ofL els⟩, ts.length, fun i ys H' => Same H6 H' ∧ ys = ((ts.take i).filter fun n => decide (lagF all (g n) = M)).map V.str, szl (by omega), ⟨Same.refl _, rfl⟩, ?_, ?_⟩
   · rintro i ys H' hi ⟨sH, rfl⟩
     have ei : (ts.map V.str)[i]? = some (V.str ts[i]) := by rw [List.getElem?_map, List.getElem?_eq_getElem hi]; rfl
     refine ⟨⟨_, _, SqL.ofL (sH _ _ els), ei⟩, ?_⟩
     rintro x H7 ⟨rfl, hx⟩
     have hx' := hx _ (SqL.ofL (sH _ _ els))
     rw [ei] at hx'
     obtain rfl := Option.some.inj hx'
     have hnl := mts _ (List.getElem_mem hi)
     have eplH := sH _ _ epl6
     have hgL : DGet H7 pl (.str ts[i]) (some (.int (lagF all (g ts[i])))) := .inl ⟨_, Sum.inr ts[i], .inl eplH, rfl, (YQ (F := fun m => V.int (lagF all (g m))) hnl).symm⟩
     refine Qv ⟨_, rfl, _, rfl, pl, _, rfl, hgL, _, rfl, .inr (.inr (.inl ⟨rfl, .inl ⟨_, eplH⟩⟩)), pl, _, rfl, rfl, eplH, fun pv npv => ?_⟩
     have gv := Same.new (o := qZZ pv pl) npv
     refine ⟨pv, pl, _, l.map fun n => lagF all (g n), rfl, qQ, gv _ _ eplH, by unfold tabN; rw [List.map_map, List.map_map]; rfl, fun z => ?_, fun M2 hM2 hM2x => ?_⟩
     · exact List.ne_nil_of_mem hnl (List.map_eq_nil_iff.mp z)
     have hMM : M = M2 := max_one (fun x => (hts.perm.map _).mem_iff) hM hM2 hM2x
     subst hMM
     have sHv := sH.trans gv
     refine ⟨rfl, _, rfl, ite2 (fun z => ⟨_, rfl, sHv, ?_⟩) (fun z => ⟨sHv, ?_⟩)⟩
     · have z' : lagF all (g ts[i]) = M := V.int.inj (of_decide_eq_true z)
       rw [List.take_add_one, List.getElem?_eq_getElem hi, List.filter_append, List.map_append]
       congr 1
       show _ = List.map V.str (List.filter _ [ts[i]])
       rw [List.filter_cons, if_pos (decide_eq_true z')]; rfl
     · have z' : ¬ lagF all (g ts[i]) = M := fun y => z (decide_eq_true (congrArg V.int y))
       rw [List.take_add_one, List.getElem?_eq_getElem hi, List.filter_append]
       show _ = List.map V.str (_ ++ List.filter _ [ts[i]])
       rw [List.filter_cons, if_neg (by rw [decide_eq_false z']; decide), List.filter_nil, List.append_nil]
   rintro yr H7 ⟨s7, rfl⟩
   rw [List.take_length]
   refine ⟨⟨_, SqL.ofL (s7 _ _ els), by rw [List.length_map]; exact Nat.le_refl _⟩, fun lr nlr => ?_⟩
   have g8 := Same.new (o := .lst ((ts.filter fun n => decide (lagF all (g n) = M)).map V.str)) nlr
   have s78 := s7.trans g8
   exact eq_strs (s78 _ _ eq6) qQ (fun t ht => X.nm t (mts t (List.mem_filter.mp ht).1)) (q _ (s6.trans s78))
def ofp (l : List Str) (o : Str → OA) : List Addr := l.flatMap fun n => (o n).fp
theorem mem_ofp {l : List Str} {o : Str → OA} {c : Addr} : c ∈ ofp l o ↔ ∃ n ∈ l, c ∈ (o n).fp := by unfold ofp; rw [List.mem_flatMap]
def updO {α : Type} (f : Str → α) (n : Str) (v : α) : Str → α := fun m => if m = n then v else f m
theorem vq {α : Type} {f : Str → α} {n : Str} {v : α} : updO f n v n = v := if_pos rfl
theorem zM {α : Type} {f : Str → α} {n m : Str} {v : α} (h : m ≠ n) : updO f n v m = f m := if_neg h
structure FS0 (CF CT CR CH : Addr) (H0 H : Hp) (A : FA) (lF : List Str) (g : Str → FE) (k : Int) (aF : List Msg) (pr : Addr) (lT : List Str) (o : Str → OA) (os : Str → OS) (lt : Addr) (yt : List V) (aT : List Msg) : Prop where
 fg : FG CF CT CR CH H A lF g k aF
 oa : ∀ n ∈ lT, OAt H (o n) (os n)
 et : H lt = some (.lst yt)
 mt : Ms H yt aT
 np : pr ∉ A.fp lF g
 nt : lt ∉ A.fp lF g
 pt : pr ≠ lt
 no : ∀ n ∈ lT, ∀ c ∈ (o n).fp, c ∉ A.fp lF g ∧ c ≠ pr ∧ c ≠ lt
 ap : ∀ n ∈ lT, ∀ m ∈ lT, n ≠ m → ∀ c ∈ (o n).fp, c ∉ (o m).fp
 nd : lT.Nodup
 w : Stp [] H0 (pr :: lt :: (A.fp lF g ++ ofp lT o)) H
structure FS (CF CT CR CH : Addr) (H0 H : Hp) (A : FA) (lF : List Str) (g : Str → FE) (k : Int) (aF : List Msg) (pr : Addr) (lT : List Str) (o : Str → OA) (os : Str → OS) (lt : Addr) (yt : List V) (aT : List Msg) : Prop extends FS0 CF CT CR CH H0 H A lF g k aF pr lT o os lt yt aT where
 rt : H pr = some (.dK (tabN lT fun n => .ref (o n).m))
section
variable {CF CT CR CH : Addr} {H0 H H' : Hp} {A : FA} {lF lF' : List Str} {g g' : Str → FE} {k : Int} {aF aF' : List Msg} {pr : Addr} {lT : List Str} {o : Str → OA} {os : Str → OS} {lt : Addr} {yt : List V} {aT : List Msg} {n : Str} {a' : OA} {s' : OS}
theorem FS0.same (h : FS0 CF CT CR CH H0 H A lF g k aF pr lT o os lt yt aT) (s : Same H H') : FS0 CF CT CR CH H0 H' A lF g k aF pr lT o os lt yt aT :=
 ⟨h.fg.same s, fun n hn => (h.oa n hn).same s, s _ _ h.et, h.mt.same s, h.np, h.nt, h.pt, h.no, h.ap, h.nd, h.w.trans (s.step _)⟩
theorem FS.same (h : FS CF CT CR CH H0 H A lF g k aF pr lT o os lt yt aT) (s : Same H H') : FS CF CT CR CH H0 H' A lF g k aF pr lT o os lt yt aT := ⟨h.toFS0.same s, s _ _ h.rt⟩
theorem FS0.tab (h : FS0 CF CT CR CH H0 H A lF g k aF pr lT o os lt yt aT) {u v : HO} (e : H pr = some u) (hn : ∀ xs, u ≠ .tup xs) : FS0 CF CT CR CH H0 (upd H pr v) A lF g k aF pr lT o os lt yt aT := by
 have st := Stp.put (ps := [pr]) (o := v) e hn (by simp)
 refine ⟨h.fg.step st (fun c hc z => h.np (by rw [List.mem_singleton] at z; rw [← z]; exact hc)), fun n hn' => (h.oa n hn').step st (fun c hc z => (h.no n hn' c hc).2.1 (List.mem_singleton.mp z)), st.keep h.et (fun z => h.pt (List.mem_singleton.mp z).symm), h.mt.step st, h.np, h.nt, h.pt, h.no, h.ap, h.nd, h.w.trans (st.up fun c hc => by rw [List.mem_singleton] at hc; rw [hc]; exact List.mem_cons_self)⟩
theorem FS.fan (h : FS CF CT CR CH H0 H A lF g k aF pr lT o os lt yt aT) (fg : FG CF CT CR CH H' A lF' g' k aF') (st : Stp (A.fp lF g) H (A.fp lF' g') H') : FS CF CT CR CH H0 H' A lF' g' k aF' pr lT o os lt yt aT := by
 refine ⟨⟨fg, fun n hn => (h.oa n hn).step st fun c hc => (h.no n hn c hc).1, st.keep h.et h.nt, h.mt.step st, st.out h.rt h.np, st.out h.et h.nt, h.pt, fun n hn c hc => ⟨(h.oa n hn).out st (fun c hc => (h.no n hn c hc).1) c hc, (h.no n hn c hc).2⟩, h.ap, h.nd, h.w.trans (st.weak (fun c hc => ?_) fun c hc => ?_)⟩, st.keep h.rt h.np⟩
 · exact List.mem_cons_of_mem _ (List.mem_cons_of_mem _ (List.mem_append_left _ hc))
 · rcases List.mem_cons.mp hc with z | z
   · rw [z]; exact .inr List.mem_cons_self
   rcases List.mem_cons.mp z with y | y
   · rw [y]; exact .inr (List.mem_cons_of_mem _ List.mem_cons_self)
   rcases List.mem_append.mp y with x | x
   · exact .inl x
   · exact .inr (List.mem_cons_of_mem _ (List.mem_cons_of_mem _ (List.mem_append_right _ x)))
theorem FS0.own (h : FS0 CF CT CR CH H0 H A lF g k aF pr lT o os lt yt aT) (hn : n ∈ lT) (hp : ∃ u, H pr = some u) (st : Stp (o n).fp H a'.fp H') (ha : OAt H' a' s') : FS0 CF CT CR CH H0 H' A lF g k aF pr lT (updO o n a') (updO os n s') lt yt aT := by
 have hno := h.no n hn
 have hfr : ∀ c ∈ a'.fp, c ∉ A.fp lF g ∧ c ≠ pr ∧ c ≠ lt := fun c hc => by
   rcases st.3 c hc with z | z
   · exact hno c z
   · obtain ⟨u, hu⟩ := hp
     exact ⟨h.fg.fa.free z, fun y => (by rw [← y, z] at hu; cases hu), fun y => (by have := h.et; rw [← y, z] at this; cases this)⟩
 have hot : ∀ m ∈ lT, m ≠ n → ∀ c ∈ (o m).fp, c ∉ (o n).fp := fun m hm hne => h.ap m hm n hn hne
 refine ⟨h.fg.step st (fun c hc z => (hno c z).1 hc), fun m hm => ?_, st.keep h.et (fun z => (hno _ z).2.2 rfl), h.mt.step st, h.np, h.nt, h.pt, fun m hm c hc => ?_, fun m hm m' hm' hne c hc => ?_, h.nd, h.w.trans (st.weak (fun c hc => ?_) fun c hc => ?_)⟩
 · by_cases z : m = n
   · rw [z, vq, vq]; exact ha
   · rw [zM z, zM z]; exact (h.oa m hm).step st (hot m hm z)
 · by_cases z : m = n
   · rw [z, vq] at hc; exact hfr c hc
   · rw [zM z] at hc; exact h.no m hm c hc
 · by_cases z : m = n
   · rw [z, vq] at hc
     rw [zM (fun y => hne (z.trans y.symm))]
     intro y
     exact (h.oa m' hm').out st (hot m' hm' fun x => hne (z.trans x.symm)) c y hc
   · rw [zM z] at hc
     by_cases z' : m' = n
     · rw [z', vq]; exact (h.oa m hm).out st (hot m hm z) c hc
     · rw [zM z']; exact h.ap m hm m' hm' hne c hc
 · exact List.mem_cons_of_mem _ (List.mem_cons_of_mem _ (List.mem_append_right _ (mem_ofp.mpr ⟨n, hn, hc⟩)))
 · rcases List.mem_cons.mp hc with z | z
   · rw [z]; exact .inr List.mem_cons_self
   rcases List.mem_cons.mp z with y | y
   · rw [y]; exact .inr (List.mem_cons_of_mem _ List.mem_cons_self)
   rcases List.mem_append.mp y with x | x
   · exact .inr (List.mem_cons_of_mem _ (List.mem_cons_of_mem _ (List.mem_append_left _ x)))
   · obtain ⟨m, hm, hc⟩ := mem_ofp.mp x
     by_cases z : m = n
     · rw [z, vq] at hc; exact .inl hc
     · rw [zM z] at hc; exact .inr (List.mem_cons_of_mem _ (List.mem_cons_of_mem _ (List.mem_append_right _ (mem_ofp.mpr ⟨m, hm, hc⟩))))
theorem tab_upd (hm : a'.m = (o n).m) : (tabN lT fun n' => V.ref (updO o n a' n').m) = tabN lT fun n => V.ref (o n).m := Yq fun m _ => by
 by_cases z : m = n
 · rw [z, vq, hm]
 · rw [zM z]
theorem FS.own (h : FS CF CT CR CH H0 H A lF g k aF pr lT o os lt yt aT) (hn : n ∈ lT) (st : Stp (o n).fp H a'.fp H') (ha : OAt H' a' s') (hm : a'.m = (o n).m) : FS CF CT CR CH H0 H' A lF g k aF pr lT (updO o n a') (updO os n s') lt yt aT :=
 ⟨h.toFS0.own hn ⟨_, h.rt⟩ st ha, by rw [tab_upd hm]; exact st.keep h.rt (fun z => (h.no n hn _ z).2.1 rfl)⟩
theorem FS.told (h : FS CF CT CR CH H0 H A lF g k aF pr lT o os lt yt aT) {c : Addr} {m : Msg} (hc : H c = some (mT m)) : FS CF CT CR CH H0 (upd H lt (.lst (yt ++ [.ref c]))) A lF g k aF pr lT o os lt (yt ++ [.ref c]) (aT ++ [m]) := by
 have st := Stp.put (ps := [lt]) (o := .lst (yt ++ [.ref c])) h.et (fun _ z => by cases z) (by simp)
 exact ⟨⟨h.fg.step st (fun c hc z => h.nt (by rw [List.mem_singleton] at z; rw [← z]; exact hc)), fun n hn => (h.oa n hn).step st (fun c hc z => (h.no n hn c hc).2.2 (List.mem_singleton.mp z)), qQ, (h.mt.step st).append (Ms.one (st.tup _ _ hc)), h.np, h.nt, h.pt, h.no, h.ap, h.nd, h.w.trans (st.up fun c hc => by rw [List.mem_singleton] at hc; rw [hc]; exact List.mem_cons_of_mem _ List.mem_cons_self)⟩, st.keep h.rt (by simp [h.pt])⟩
theorem FS.lay (h : FS CF CT CR CH H0 H A lF g k aF pr lT o os lt yt aT) (hn : n ∉ lT) (st : Stp [] H a'.fp H') (ha : OAt H' a' s') : FS CF CT CR CH H0 (upd H' pr (.dK (putK (tabN lT fun n => V.ref (o n).m) (Sum.inr n) (.ref a'.m)))) A lF g k aF pr (lT ++ [n]) (updO o n a') (updO os n s') lt yt aT := by
 have hfr : ∀ c ∈ a'.fp, c ∉ A.fp lF g ∧ c ≠ pr ∧ c ≠ lt ∧ ∀ m ∈ lT, c ∉ (o m).fp := fun c hc => by
   rcases st.3 c hc with z | z
   · exact absurd z List.not_mem_nil
   · exact ⟨h.fg.fa.free z, fun y => (by have := h.rt; rw [← y, z] at this; cases this), fun y => (by have := h.et; rw [← y, z] at this; cases this), fun m hm => (h.oa m hm).free z⟩
 have e1 := st.keep h.rt List.not_mem_nil
 have s2 := Stp.put (ps := [pr]) (o := .dK (putK (tabN lT fun n => V.ref (o n).m) (Sum.inr n) (.ref a'.m))) e1 (fun _ z => by cases z) (by simp)
 have hne : ∀ m ∈ lT, m ≠ n := fun m hm z => hn (z ▸ hm)
 have mem' : ∀ m ∈ lT ++ [n], m ∈ lT ∨ m = n := fun m hm => by simpa using hm
 refine ⟨⟨(h.fg.step st fun _ _ => List.not_mem_nil).step s2 (fun c hc z => h.np (by rw [List.mem_singleton] at z; rw [← z]; exact hc)), fun m hm => ?_, s2.keep (st.keep h.et List.not_mem_nil) (fun z => h.pt (List.mem_singleton.mp z).symm), (h.mt.step st).step s2, h.np, h.nt, h.pt, fun m hm c hc => ?_, fun m hm m' hm' hne' c hc => ?_, ?_, ?_⟩, ?_⟩
 · rcases mem' m hm with z | z
   · rw [zM (hne m z), zM (hne m z)]
     exact ((h.oa m z).step st fun _ _ => List.not_mem_nil).step s2 (fun c hc y => (h.no m z c hc).2.1 (List.mem_singleton.mp y))
   · rw [z, vq, vq]
     exact ha.step s2 (fun c hc y => (hfr c hc).2.1 (List.mem_singleton.mp y))
 · rcases mem' m hm with z | z
   · rw [zM (hne m z)] at hc; exact h.no m z c hc
   · rw [z, vq] at hc; exact ⟨(hfr c hc).1, (hfr c hc).2.1, (hfr c hc).2.2.1⟩
 · rcases mem' m hm with z | z
   · rw [zM (hne m z)] at hc
     rcases mem' m' hm' with z' | z'
     · rw [zM (hne m' z')]; exact h.ap m z m' z' hne' c hc
     · rw [z', vq]; exact fun y => (hfr c y).2.2.2 m z hc
   · rw [z, vq] at hc
     rcases mem' m' hm' with z' | z'
     · rw [zM (hne m' z')]; exact (hfr c hc).2.2.2 m' z'
     · exact absurd (z.trans z'.symm) hne'
 · exact List.nodup_append.mpr ⟨h.nd, by simp, fun x hx y hy e => by rw [List.mem_singleton] at hy; rw [hy] at e; rw [e] at hx; exact hn hx⟩
 · refine (h.w.trans (st.weak (qs := pr :: lt :: (A.fp lF g ++ ofp lT o)) (qs' := pr :: lt :: (A.fp lF g ++ ofp (lT ++ [n]) (updO o n a'))) (fun _ z => absurd z List.not_mem_nil) fun c hc => ?_)).trans (s2.up fun c hc => by rw [List.mem_singleton] at hc; rw [hc]; exact List.mem_cons_self)
   rcases List.mem_cons.mp hc with z | z
   · rw [z]; exact .inr List.mem_cons_self
   rcases List.mem_cons.mp z with y | y
   · rw [y]; exact .inr (List.mem_cons_of_mem _ List.mem_cons_self)
   rcases List.mem_append.mp y with x | x
   · exact .inr (List.mem_cons_of_mem _ (List.mem_cons_of_mem _ (List.mem_append_left _ x)))
   · obtain ⟨m, hm, hc⟩ := mem_ofp.mp x
     rcases mem' m hm with z | z
     · rw [zM (hne m z)] at hc; exact .inr (List.mem_cons_of_mem _ (List.mem_cons_of_mem _ (List.mem_append_right _ (mem_ofp.mpr ⟨m, z, hc⟩))))
     · rw [z, vq] at hc; exact .inl hc
 · rw [qQ]
   have e := vJJ (F := fun n => V.ref (o n).m) hn (.ref a'.m)
   rw [e]
   refine congrArg (fun x => some (HO.dK x)) (Yq fun m hm => ?_)
   show (if m = n then V.ref a'.m else V.ref (o m).m) = _
   by_cases z : m = n
   · rw [if_pos z, z, vq]
   · rw [if_neg z, zM z]
theorem tab_drop (F : Str → V) (n : Str) : ∀ l : List Str, UZ (tabN l F) (Sum.inr n) = tabN (l.filter fun m => decide (m ≠ n)) F
 | [] => rfl
 | m :: r => by
   have ih := tab_drop F n r
   unfold UZ tabN at ih ⊢
   rw [List.map_cons, List.filter_cons, List.filter_cons]
   by_cases z : m = n
   · rw [if_neg (by simp [z]), if_neg (by simp [z])]; exact ih
   · rw [if_pos (by simp [z]), if_pos (by simp [z]), List.map_cons, ih]
theorem FS.pop (h : FS CF CT CR CH H0 H A lF g k aF pr lT o os lt yt aT) (n : Str) : FS CF CT CR CH H0 (upd H pr (.dK (UZ (tabN lT fun n => V.ref (o n).m) (Sum.inr n)))) A lF g k aF pr (lT.filter fun m => decide (m ≠ n)) o os lt yt aT := by
 have sub : ∀ m ∈ lT.filter (fun m => decide (m ≠ n)), m ∈ lT := fun m hm => (List.mem_filter.mp hm).1
 have h1 := h.toFS0.tab (v := .dK (UZ (tabN lT fun n => V.ref (o n).m) (Sum.inr n))) h.rt (fun _ z => by cases z)
 refine ⟨⟨h1.fg, fun m hm => h1.oa m (sub m hm), h1.et, h1.mt, h1.np, h1.nt, h1.pt, fun m hm => h1.no m (sub m hm), fun m hm m' hm' => h1.ap m (sub m hm) m' (sub m' hm'), List.Pairwise.filter _ h1.nd, ?_⟩, by rw [qQ, tab_drop]⟩
 refine h1.w.trans ((Same.refl _).step _ |>.weak (fun _ z => z) fun c hc => ?_)
 rcases List.mem_cons.mp hc with z | z
 · rw [z]; exact .inl List.mem_cons_self
 rcases List.mem_cons.mp z with y | y
 · rw [y]; exact .inl (List.mem_cons_of_mem _ List.mem_cons_self)
 rcases List.mem_append.mp y with x | x
 · exact .inl (List.mem_cons_of_mem _ (List.mem_cons_of_mem _ (List.mem_append_left _ x)))
 · obtain ⟨m, hm, hc⟩ := mem_ofp.mp x
   exact .inl (List.mem_cons_of_mem _ (List.mem_cons_of_mem _ (List.mem_append_right _ (mem_ofp.mpr ⟨m, sub m hm, hc⟩))))
theorem FS.fr (h : FS CF CT CR CH H0 H A lF g k aF pr lF o os lt yt aF) (al : ∀ n ∈ lF, Alk aF (g n) (os n)) (nm : ∀ n ∈ lF, PyData.strOk n = true) : FR CF CT CR CH H A lF g k aF pr o os lt yt :=
 ⟨⟨h.fg, h.oa, al, h.et, h.mt, h.np, h.nt, h.pt, h.no, h.ap, nm⟩, h.rt⟩
end
theorem Alk.more {all : List Msg} {m : Msg} {e e' : FE} {s : OS} (h : Alk all e s) (p : FPut m e e') : Alk (all ++ [m]) e' (oput s m) := by
 have hw : Hw (all ++ [m]) s.h := h.hw.more (fun x hx => List.mem_append_left _ hx) (by rw [List.length_append]; omega)
 have key : (ZD e.sz e.way e.s m).rows = (oput s m).rows ∧ (ZD e.sz e.way e.s m).cut = (oput s m).cut ∧ (oput s m).sz = s.sz ∧ (oput s m).way = s.way ∧ (oput s m).h = s.h ∧ ((oput s m).cut = true → s.way = "cut" ∧ (oput s m).rows = []) := by
   obtain ⟨sz, way, rows, cut, hh⟩ := s
   obtain ⟨k1, k2, k3, k4, _, _, k7, k8⟩ := h
   generalize e.s = es0 at k3 k4 ⊢
   obtain ⟨es, eo, ec⟩ := es0
   simp only at k1 k2 k3 k4 k7 k8
   subst k1 k2 k3 k4
   unfold ZD oput
   cases ec with
   | true =>
     obtain ⟨w1, w2⟩ := k7 rfl
     simp only [Bool.true_eq_false, false_and, if_false, if_true, w1, w2]
     simp
   | false =>
     by_cases z : (es.length : Int) < e.sz
     · simp only [Bool.false_eq_true, if_false, true_and, z, if_true]
       simp
     · simp only [Bool.false_eq_true, if_false, true_and, z]
       rcases k8 with y | y | y
       · simp only [y, if_true]; simp
       · have n1 : ¬ ("new" : Str) = "old" := by decide +kernel
         have n2 : ¬ ("new" : Str) = "cut" := by decide +kernel
         simp only [y, n1, n2, if_false, if_true]; simp
       · have n1 : ¬ ("cut" : Str) = "old" := by decide +kernel
         have n2 : ¬ ("cut" : Str) = "new" := by decide +kernel
         simp only [y, n1, n2, if_false, if_true]; simp
 refine ⟨by rw [p.sz, h.sz, key.2.2.1], by rw [p.way, h.way, key.2.2.2.1], by rw [p.s]; exact key.1, by rw [p.s]; exact key.2.1, by rw [p.h, key.2.2.2.2.1]; exact h.he, by rw [key.2.2.2.2.1]; exact hw, fun z => by rw [key.2.2.2.1]; exact key.2.2.2.2.2 z, by rw [key.2.2.2.1]; exact h.wy⟩
def PQR : List Str := ["p", "q", "r"]
theorem PQR_ok : ∀ t ∈ PQR, PyData.strOk t = true := fun t ht => by
 unfold PQR at ht
 simp only [List.mem_cons, List.not_mem_nil, or_false] at ht
 rcases ht with rfl | rfl | rfl <;> decide +kernel
theorem PQR_len {l : List Str} (hn : l.Nodup) (h : ∀ n ∈ l, n ∈ PQR) : l.length ≤ 3 := List.Nodup.length_le_of_subset hn h
theorem HE.takeC {all : List Msg} {u v : HS} (hR : Rows all) (hu : Hw all u) (hv : Hw all v) (h : HE u v) {ms : List Msg} (hms : ∀ x ∈ ms, x ∈ all) : HE (vV u ms) (vV v ms) :=
 HE.of (hu.take hR hms) (hv.take hR hms) (by rw [ZQ, ZQ, h.lost]) fun x => by rw [hu.take_mem hR hms, hv.take_mem hR hms, ← or_assoc, ← or_assoc, h.mem x, h.next]
theorem HE.catchC {all : List Msg} {u v : HS} {k : Int} (hR : Rows all) (hk : 0 ≤ k) (hu : Hw all u) (hv : Hw all v) (h : HE u v) : HE (vG k all u) (vG k all v) := by
 obtain ⟨u1, u2, _, u4⟩ := hu.catch hR hk (hu.toHw0.up hR)
 obtain ⟨v1, v2, _, v4⟩ := hv.catch hR hk (hv.toHw0.up hR)
 refine HE.ends hR u1 v1 (rise_eq u1.lr v1.lr fun x => ?_) u2 v2
 rw [u4 x, v4 x, h.lost, h.next]
 refine or_congr_right (and_congr_right fun _ => and_congr_right fun _ => ⟨fun q m hm => q m ((h.held m).mpr hm), fun q m hm => q m ((h.held m).mp hm)⟩)
def cD (ms : List Msg) (c : Int) : PyData := .tuple [.list (ms.map mD), .int c]
theorem cD_shaped {ms : List Msg} {c : Int} (ok : ∀ m ∈ ms, mOk m) : SeqAt.shaped (cD ms c) = true := by
 have h1 := depth_ms ms
 have h2 : PyData.depth (cD ms c) ≤ 64 := by simp only [cD, PyData.depth, PyData.depthAll]; omega
 have h3 : PyData.canLay0 (cD ms c) = true := by simp only [cD, PyData.canLay0, PyData.canLayAll0, lay_ms ok, Bool.and_true]
 show (PyData.canLay0 (cD ms c) && decide (PyData.depth (cD ms c) ≤ 64)) = true
 rw [Bool.and_eq_true]
 exact ⟨h3, decide_eq_true h2⟩
def rD (i : Int) : PyData := .tuple [.str "refused", .int i]
theorem rD_has {H : Hp} {q : Addr} {i : Int} (hq : H q = some (.tup [.str "refused", .int i])) : Has H (.ref q) (rD i) := has_tup hq (zV (has_str _) (zV (JD _) Mz))
theorem str_refused : PyData.strOk "refused" = true := by decide +kernel
theorem yQZ (i : Int) : SeqAt.shaped (rD i) = true := by
 have h2 : PyData.depth (rD i) ≤ 64 := by simp only [rD, PyData.depth, PyData.depthAll]; omega
 have h3 : PyData.canLay0 (rD i) = true := by simp only [rD, PyData.canLay0, PyData.canLayAll0, str_refused, Bool.and_true]
 show (PyData.canLay0 (rD i) && decide (PyData.depth (rD i) ≤ 64)) = true
 rw [Bool.and_eq_true]
 exact ⟨h3, decide_eq_true h2⟩
theorem int_shaped (i : Int) : SeqAt.shaped (.int i) = true := by
 have h2 : PyData.depth (.int i) ≤ 64 := by simp only [PyData.depth]; omega
 have h3 : PyData.canLay0 (.int i) = true := by simp only [PyData.canLay0]
 show (PyData.canLay0 (.int i) && decide (PyData.depth (.int i) ≤ 64)) = true
 rw [Bool.and_eq_true]
 exact ⟨h3, decide_eq_true h2⟩
theorem none_shaped : SeqAt.shaped .none = true := by decide +kernel
theorem due_any {way : Int} {σ : St} {H : Hp} {Q : VK} (h7 : ∀ R : VK, R (.int way) H → tVar 7 σ H R) (k : ∀ v H', Same H H' → ((way = 0 ∧ v = .non) ∨ (way ≠ 0 ∧ ∃ c, v = .ref c ∧ H' c = some (.tup [.str "refused", .int 1]))) → Q v H') : tIf (tTest (tOp rEq (tVar 7) (tC (V.int 0)))) (tC V.non) (tTup (tCons (tC (V.str "refused")) (tCons (tC (V.int 1)) tNil))) σ H Q := by
 unfold tIf tTest tOp
 refine h7 _ ?_
 refine ⟨rfl, _, rfl, ite2 (fun z => k .non H (Same.refl H) (.inl ⟨V.int.inj (of_decide_eq_true z), rfl⟩)) (fun z => ?_)⟩
 exact ⟨(show 2 ≤ sizeLine by decide), fun c nc => k (.ref c) _ (Same.new nc) (.inr ⟨fun y => z (decide_eq_true (congrArg V.int y)), c, rfl, qQ⟩)⟩
def Will (CF CT CR CH : Addr) (H0 : Hp) (A : FA) (k : Int) (pr lt : Addr) (N : Nat) (way many : Int) (n kind : Str) (v : V) (H' : Hp) : Prop :=
 ∀ Q2 : VK, (∀ r H2 l2 g2 all2 o2 os2 yt2 dd, FS CF CT CR CH H0 H2 A l2 g2 k all2 pr l2 o2 os2 lt yt2 all2 → (∀ n ∈ l2, Alk all2 (g2 n) (os2 n)) → (∀ n ∈ l2, n ∈ PQR) → all2.length ≤ N → SeqAt.shaped dd = true → Has H2 r dd → Has H2 v dd → Q2 r H2) → spToldF CF CT CR CH [.ref A.p, .int way, .str n, .int many, .str kind] H' Q2 E0
section
variable {CF CT CR CH : Addr} {H0 H : Hp} {A : FA} {l : List Str} {g : Str → FE} {k : Int} {all : List Msg} {pr : Addr} {o : Str → OA} {os : Str → OS} {lt : Addr} {yt : List V} {n kind : Str} {a' : OA} {s' : OS} {N : Nat} {many : Int} {v : V}
theorem will_lay (X : FS CF CT CR CH H0 H A l g k all pr (l ++ [n]) (updO o n a') (updO os n ⟨many, kind, [], false, hs0⟩) lt yt all) (al : ∀ n ∈ l, Alk all (g n) (os n)) (hp : ∀ n ∈ l, n ∈ PQR) (hN : all.length ≤ N) (hn : n ∉ l) (hpn : n ∈ PQR) (hm : 1 ≤ many) (hk : kind = "old" ∨ kind = "new" ∨ kind = "cut") : Will CF CT CR CH H0 A k pr lt N 0 many n kind .non H := by
 intro Q2 hQ
 have hp' : ∀ m ∈ l ++ [n], m ∈ PQR := fun m hm => by
   rcases List.mem_append.mp hm with z | z
   · exact hp m z
   · rw [List.mem_singleton] at z; rw [z]; exact hpn
 have hl2 : l.length ≤ 2 := by
   have := PQR_len X.nd hp'
   rw [List.length_append] at this
   have h1 : [n].length = 1 := rfl
   omega
 refine ⟨A.p, 0, n, many, kind, rfl, .inl ⟨rfl, A, l, g, k, all, n, many, kind, rfl, X.fg.fa, hn, by omega, fun e H2 fa2 e1 e2 e3 e4 st => ?_⟩⟩
 refine hQ .non H2 _ _ _ _ _ _ .none (X.fan (X.fg.lay fa2 (FO.new (by omega) e3 e4) hl2) st) (fun m hm => ?_) hp' hN none_shaped has_none has_none
 rcases List.mem_append.mp hm with z | z
 · have : m ≠ n := fun y => hn (y ▸ z)
   rw [zZ this, zM this]; exact al m z
 · rw [List.mem_singleton] at z
   rw [z, yY, vq]
   exact ⟨e1, e2, by rw [e3], by rw [e3], by rw [e4]; exact HE.refl _, Hw.start all, fun z => (by cases z), hk⟩
theorem will_taken {c : Addr} (X : FS CF CT CR CH H0 H A l g k all pr l o os lt yt all) (al : ∀ n ∈ l, Alk all (g n) (os n)) (hp : ∀ n ∈ l, n ∈ PQR) (hN : all.length ≤ N) (hn : n ∈ l) (hc : H c = some (.tup [.str "refused", .int 2])) : Will CF CT CR CH H0 A k pr lt N 0 many n kind (.ref c) H := by
 intro Q2 hQ
 refine ⟨A.p, 0, n, many, kind, rfl, .inr (.inr (.inr (.inr (.inr (.inr ⟨A, l, g, k, all, rfl, X.fg.fa, .inl ⟨rfl, hn, fun q H2 s2 e2 => ?_⟩⟩)))))⟩
 exact hQ _ H2 _ _ _ _ _ _ _ (X.same s2) al hp hN (yQZ 2) (rD_has e2) (rD_has (s2 _ _ hc))
theorem will_none {way : Int} {c : Addr} (X : FS CF CT CR CH H0 H A l g k all pr l o os lt yt all) (al : ∀ n ∈ l, Alk all (g n) (os n)) (hp : ∀ n ∈ l, n ∈ PQR) (hN : all.length ≤ N) (hn : n ∉ l) (hw : way = 1 ∨ way = 3 ∨ way = 4 ∨ way = 5 ∨ way = 6 ∨ way = 7 ∨ way = 8) (hc : H c = some (.tup [.str "refused", .int 1])) : Will CF CT CR CH H0 A k pr lt N way many n kind (.ref c) H := by
 intro Q2 hQ
 refine ⟨A.p, way, n, many, kind, rfl, .inr (.inr (.inr (.inr (.inr (.inr ⟨A, l, g, k, all, rfl, X.fg.fa, .inr ⟨hw, hn, fun q H2 s2 e2 => ?_⟩⟩)))))⟩
 exact hQ _ H2 _ _ _ _ _ _ _ (X.same s2) al hp hN (yQZ 1) (rD_has e2) (rD_has (s2 _ _ hc))
theorem will_close (X : FS CF CT CR CH H0 H A l g k all pr (l.filter fun m => decide (m ≠ n)) o os lt yt all) (al : ∀ n ∈ l, Alk all (g n) (os n)) (hp : ∀ n ∈ l, n ∈ PQR) (hN : all.length ≤ N) (hn : n ∈ l) : Will CF CT CR CH H0 A k pr lt N 1 many n kind .non H := by
 intro Q2 hQ
 have sub : ∀ m ∈ l.filter (fun m => decide (m ≠ n)), m ∈ l := fun m hm => (List.mem_filter.mp hm).1
 refine ⟨A.p, 1, n, many, kind, rfl, .inr (.inl ⟨rfl, A, l, g, k, all, n, rfl, X.fg.fa, hn, fun H2 fa2 st => ?_⟩)⟩
 exact hQ .non H2 _ _ _ _ _ _ .none (X.fan ⟨fa2, fun m hm => X.fg.en m (sub m hm), X.fg.rows, X.fg.ok, X.fg.k0, Nat.le_trans (List.length_filter_le _ _) X.fg.ln⟩ st) (fun m hm => al m (sub m hm)) (fun m hm => hp m (sub m hm)) hN none_shaped has_none has_none
theorem will_tell (X : FS CF CT CR CH H0 H A l g k all pr l o os lt yt (all ++ [⟨(all.length : Int) + 1, "a", kind⟩])) {os0 : Str → OS} (al : ∀ n ∈ l, Alk all (g n) (os0 n)) (ho : ∀ n ∈ l, os n = oput (os0 n) ⟨(all.length : Int) + 1, "a", kind⟩) (hp : ∀ n ∈ l, n ∈ PQR) (hN : all.length + 1 ≤ N) (hl : all.length ≤ 12) (hk : PyData.strOk kind = true) : Will CF CT CR CH H0 A k pr lt N 2 many n kind (.int ((all.length : Int) + 1)) H := by
 intro Q2 hQ
 refine ⟨A.p, 2, n, many, kind, rfl, .inr (.inr (.inl ⟨rfl, A, l, g, k, all, "a", kind, rfl, X.fg.fa, by omega, X.fg.k0, by have := X.fg.ln; omega, X.fg.room (by omega), fun g' H2 fa2 hpt st => ?_⟩))⟩
 exact hQ _ H2 _ _ _ _ _ _ (.int ((all.length : Int) + 1)) (X.fan (X.fg.tell (by decide +kernel) hk fa2 hpt) st) (fun m hm => by rw [ho m hm]; exact (al m hm).more (hpt m hm)) hp (by rw [List.length_append]; exact hN) (int_shaped _) (JD _) (JD _)
theorem will_carry {lv : Addr} {ys : List V} {fo2 : List Msg} {t' : HS} (X : FS CF CT CR CH H0 H A l g k all pr l (updO o n a') (updO os n { os n with rows := (os n).rows.drop many.toNat, h := t' }) lt yt all) (al : ∀ n ∈ l, Alk all (g n) (os n)) (hp : ∀ n ∈ l, n ∈ PQR) (hN : all.length ≤ N) (hl : all.length ≤ 12) (hn : n ∈ l) (hm : 0 ≤ many)
   (hw : Hw all t') (hE : HE (vV (os n).h ((os n).rows.take many.toNat)) t') (eh2 : t'.heard = (os n).h.heard ++ fo2) (nv : lv ∉ A.fp l g) (ev : H lv = some (.lst ys)) (mv : Ms H ys fo2) : Will CF CT CR CH H0 A k pr lt N 3 many n kind (.ref lv) H := by
 intro Q2 hQ
 have cn := X.fg.can (by omega) hn many.toNat
 have hA := al n hn
 have hF := X.fg.en n hn
 refine ⟨A.p, 3, n, many, kind, rfl, .inr (.inr (.inr (.inl ⟨rfl, A, l, g, k, all, n, many, rfl, X.fg.fa, hn, hm, cn.1, cn.2.1, cn.2.2.1, cn.2.2.2.1, cn.2.2.2.2, fun e lh ys' fo H2 fa2 a1 a2 a3 a4 eh st fr ol el ml => ?_⟩)))⟩
 have hms : ∀ x ∈ (g n).s.rows.take many.toNat, x ∈ all := fun x hx => hF.sub x (List.mem_of_mem_take hx)
 have h1 := HE.takeC X.fg.rows hF.hw hA.hw hA.he hms
 rw [← hA.rows] at hE
 have h2 : HE (vV (g n).h ((g n).s.rows.take many.toNat)) t' := HE.trans h1 hE
 have efo : fo = fo2 := by
   have := h2.heard
   rw [eh, eh2, hA.he.heard] at this
   exact List.append_cancel_left this
 subst efo
 have okf : ∀ m ∈ fo, mOk m := fun m hm => X.fg.ok m (hw.sub m (.inl (by rw [eh2]; exact List.mem_append_right _ hm)))
 refine hQ (.ref lh) H2 _ _ _ _ _ _ (.list (fo.map mD)) (X.fan (X.fg.upd fa2 (hF.carry X.fg.rows a1 a3 a4)) st) (fun m hm' => ?_) hp hN (qVQ okf) (Yw el ml) (Yw (st.keep ev nv) (mv.step st))
 by_cases z : m = n
 · rw [z, yY, vq]
   refine ⟨a1.trans hA.sz, a2.trans hA.way, by rw [a3]; show (g n).s.rows.drop _ = (os n).rows.drop _; rw [hA.rows], by rw [a3]; exact hA.cut, by rw [a4]; exact h2, hw, fun y => ?_, hA.wy⟩
   have := hA.cc y
   exact ⟨this.1, by show (os n).rows.drop _ = []; rw [this.2, List.drop_nil]⟩
 · rw [zZ z, zM z]; exact al m hm'
theorem will_catch {q2 lv : Addr} {ys : List V} {fo2 : List Msg} {t' : HS} (X : FS CF CT CR CH H0 H A l g k all pr l (updO o n a') (updO os n { os n with cut := false, h := t' }) lt yt all) (al : ∀ n ∈ l, Alk all (g n) (os n)) (hp : ∀ n ∈ l, n ∈ PQR) (hN : all.length ≤ N) (hl : all.length ≤ 12) (hn : n ∈ l)
   (hw : Hw all t') (hE : HE (vG k all (os n).h) t') (eh2 : t'.heard = (os n).h.heard ++ fo2) (nv : lv ∉ A.fp l g) (eq2 : H q2 = some (.tup [.ref lv, .int ((t'.lost.length : Int) - ((os n).h.lost.length : Int))])) (ev : H lv = some (.lst ys)) (mv : Ms H ys fo2) : Will CF CT CR CH H0 A k pr lt N 4 many n kind (.ref q2) H := by
 intro Q2 hQ
 have hA := al n hn
 have hF := X.fg.en n hn
 have sz := hF.sizes X.fg.rows
 refine ⟨A.p, 4, n, many, kind, rfl, .inr (.inr (.inr (.inr (.inl ⟨rfl, A, l, g, k, all, n, rfl, X.fg.fa, hn, X.fg.k0, X.fg.rows, by omega, X.fg.ok, hF.hw, sz.2.2, by omega, fun e q1 lh ys' fo H2 fa2 a1 a2 a3 a4 eh st oq fr ol eq el ml => ?_⟩))))⟩
 have h1 := HE.catchC X.fg.rows X.fg.k0 hF.hw hA.hw hA.he (k := k)
 have h2 : HE (vG k all (g n).h) t' := HE.trans h1 hE
 have efo : fo = fo2 := by
   have := h2.heard
   rw [eh, eh2, hA.he.heard] at this
   exact List.append_cancel_left this
 subst efo
 have okf : ∀ m ∈ fo, mOk m := fun m hm => X.fg.ok m (hw.sub m (.inl (by rw [eh2]; exact List.mem_append_right _ hm)))
 have ec : ((vG k all (g n).h).lost.length : Int) - ((g n).h.lost.length : Int) = (t'.lost.length : Int) - ((os n).h.lost.length : Int) := by rw [h2.lost, hA.he.lost]
 rw [ec] at eq
 refine hQ (.ref q1) H2 _ _ _ _ _ _ (cD fo ((t'.lost.length : Int) - ((os n).h.lost.length : Int))) (X.fan (X.fg.upd fa2 (hF.catch X.fg.rows X.fg.k0 a1 a3 a4)) st) (fun m hm' => ?_) hp hN (cD_shaped okf) (has_tup eq (zV (Yw el ml) (zV (JD _) Mz))) (has_tup (st.tup _ _ eq2) (zV (Yw (st.keep ev nv) (mv.step st)) (zV (JD _) Mz)))
 by_cases z : m = n
 · rw [z, yY, vq]
   exact ⟨a1.trans hA.sz, a2.trans hA.way, by rw [a3]; exact hA.rows, by rw [a3], by rw [a4]; exact h2, hw, fun y => (by cases y), hA.wy⟩
 · rw [zZ z, zM z]; exact al m hm'
theorem will_lag (X : FS CF CT CR CH H0 H A l g k all pr l o os lt yt all) (al : ∀ n ∈ l, Alk all (g n) (os n)) (hp : ∀ n ∈ l, n ∈ PQR) (hN : all.length ≤ N) (hn : n ∈ l) : Will CF CT CR CH H0 A k pr lt N 5 many n kind (.int ((all.length : Int) + 1 - (os n).h.next)) H := by
 intro Q2 hQ
 refine ⟨A.p, 5, n, many, kind, rfl, .inr (.inr (.inr (.inr (.inr (.inl ⟨rfl, A, l, g, k, all, n, rfl, X.fg.fa, hn, ?_⟩)))))⟩
 have e : lagF all (g n) = (all.length : Int) + 1 - (os n).h.next := by
   have := (al n hn).he.next
   unfold lagF; omega
 rw [e]
 exact hQ _ H _ _ _ _ _ _ (.int ((all.length : Int) + 1 - (os n).h.next)) X al hp hN (int_shaped _) (JD _) (JD _)
end
end
end K40
namespace K40
open PySem L2
def spLaw (K : W.Frag) : Sp := fun vs H Q _ => ∃ (a : Addr) (ns : List Int), vs = [.ref a] ∧ SqL K H a (ns.map V.int) ∧ ns.length ≤ 63 ∧ ∀ H', Q (.bl true) H'
theorem zYZ {H : Hp} : ∀ {ns : List Int} {xs : List V}, HasL H xs (ns.map PyData.int) → xs = ns.map V.int
 | [], xs, h => by unfold HasL at h; exact h
 | n :: ns, xs, h => by
   rw [List.map_cons] at h
   unfold HasL at h
   obtain ⟨x, r, rfl, h1, h2⟩ := h
   unfold Has at h1
   rw [h1, zYZ h2]; rfl
theorem zYY {H : Hp} : ∀ {ns : List Str} {xs : List V}, HasL H xs (ns.map PyData.str) → xs = ns.map V.str
 | [], xs, h => by unfold HasL at h; exact h
 | n :: ns, xs, h => by
   rw [List.map_cons] at h
   unfold HasL at h
   obtain ⟨x, r, rfl, h1, h2⟩ := h
   unfold Has at h1
   rw [h1, zYY h2]; rfl
def WAYS : List Int := [0, 0, 1, 2, 2, 2, 2, 3, 3, 4, 5]
def KINDS : List Str := ["old", "new", "cut"]
theorem ways_lit {H : Hp} {v : V} (h : Has H v (.list (WAYS.map PyData.int))) : ∃ lw, v = .ref lw ∧ H lw = some (.lst (WAYS.map V.int)) := by
 unfold Has at h
 obtain ⟨a, xs, rfl, h1, h2⟩ := h
 rw [zYZ h2] at h1
 exact ⟨a, rfl, h1⟩
theorem kinds_lit {H : Hp} {v : V} (h : Has H v (.list (KINDS.map PyData.str))) : ∃ lw, v = .ref lw ∧ H lw = some (.lst (KINDS.map V.str)) := by
 unfold Has at h
 obtain ⟨a, xs, rfl, h1, h2⟩ := h
 rw [zYY h2] at h1
 exact ⟨a, rfl, h1⟩
theorem ways_at {d : Int} (h0 : 0 ≤ d) (h1 : d < 11) : ∃ w, atI (WAYS.map V.int) d = some (V.int w) ∧ 0 ≤ w ∧ w ≤ 5 := by
 have hc : d = 0 ∨ d = 1 ∨ d = 2 ∨ d = 3 ∨ d = 4 ∨ d = 5 ∨ d = 6 ∨ d = 7 ∨ d = 8 ∨ d = 9 ∨ d = 10 := by omega
 rcases hc with rfl | rfl | rfl | rfl | rfl | rfl | rfl | rfl | rfl | rfl | rfl <;> exact ⟨_, rfl, by decide, by decide⟩
theorem kinds_at {d : Int} (h0 : 0 ≤ d) (h1 : d < 3) : ∃ x, atI (KINDS.map V.str) d = some (V.str x) ∧ (x = "old" ∨ x = "new" ∨ x = "cut") ∧ PyData.strOk x = true := by
 have hc : d = 0 ∨ d = 1 ∨ d = 2 := by omega
 rcases hc with rfl | rfl | rfl
 · exact ⟨_, rfl, .inl rfl, by decide +kernel⟩
 · exact ⟨_, rfl, .inr (.inl rfl), by decide +kernel⟩
 · exact ⟨_, rfl, .inr (.inr rfl), by decide +kernel⟩
theorem pqr_at {d : Int} (h0 : 0 ≤ d) (h1 : d < 3) : ∃ c, atI ("pqr" : Str).cps.toList d = some c ∧ (⟨#[c]⟩ : Str) ∈ PQR := by
 have hc : d = 0 ∨ d = 1 ∨ d = 2 := by omega
 unfold PQR
 rcases hc with rfl | rfl | rfl
 · exact ⟨_, rfl, by decide +kernel⟩
 · exact ⟨_, rfl, by decide +kernel⟩
 · exact ⟨_, rfl, by decide +kernel⟩
theorem none_not {l : List Str} (h : ∀ n ∈ l, n ∈ PQR) : ("none" : Str) ∉ l := fun z => by
 have := h _ z
 revert this
 unfold PQR
 decide +kernel
theorem OAt_notup {H : Hp} {a : OA} {s : OS} {c : Addr} {xs : List V} (h : OAt H a s) (hc : H c = some (.tup xs)) : c ∉ a.fp := fun z => by
 obtain ⟨ys, h2, _⟩ := h.ro
 obtain ⟨l1, ⟨y1, l2, _⟩, ⟨kv, l3, _⟩, l4, _, _⟩ := h.ea
 rcases List.mem_append.mp z with y | y
 · simp only [List.mem_cons, List.not_mem_nil, or_false] at y
   rcases y with y | y
   · rw [y, h.ob] at hc; cases hc
   · rw [y, h2] at hc; cases hc
 · simp only [LA.fp, List.mem_cons, List.not_mem_nil, or_false] at y
   rcases y with y | y | y | y
   · rw [y, l1] at hc; cases hc
   · rw [y, l2] at hc; cases hc
   · rw [y, l3] at hc; cases hc
   · rw [y, l4] at hc; cases hc
abbrev Yy : Stmt := top 37
abbrev N_l_of_drawn : List Str := ["_law_script", "_law_keep", "_law_fan", "_law_roads", "_law_told_here", "_law_k", "_law_here", "_law_way", "_law_name", "_law_many", "_law_kind", "_law_due", "_law_one", "_law_bad"]
theorem sc_l_of_drawn : FnScope N_l_of_drawn ["_law_script"] (qZ Yy) := ⟨rfl, rfl, rfl, by decide +kernel, rfl, by decide +kernel, by decide +kernel⟩
abbrev QYZ : Stmt := top 38
abbrev N_law : List Str := ["_law_script"]
theorem sc_law : FnScope N_law ["_law_script"] (qZ QYZ) := ⟨rfl, rfl, rfl, by decide +kernel, rfl, by decide +kernel, by decide +kernel⟩
section
variable {P : Program} {w : World} {K : W.Frag} {mg : Str → Option Value} {base : Heap}
theorem ok_l_of_drawn {f CF CT CR CH : Addr} {fd : FuncData} (F : Fun K "_law_of_drawn" "_law_of_drawn" Yy f fd) (T : Txt mg) (TC : TxtF K mg CF CT CR CH) (c_l_drawn : Callee P w K mg base 2 "_law_drawn" ["_law_script", "_law_k", "_law_many"] (spDrawn K)) (c_l_hearer : Callee P w K mg base 1 "_law_hearer" [] spLNew)
   (c_l_puts : Callee P w K mg base 1 "_law_puts" ["_law_road", "_law_message"] spOPut) (c_l_does : Callee P w K mg base 5 "_law_does" ["_law_road", "_law_way", "_law_many", "_law_told_here", "_law_keep"] spODoes) (c_l_told : Callee P w K mg base 6 "_law_told" ["_law_fan", "_law_way", "_law_name", "_law_many", "_law_kind"] (spToldF CF CT CR CH)) (c_l_stands : Callee P w K mg base 5 "_law_stands" ["_law_fan", "_law_roads", "_law_told_here"] (spStands CF CT CR CH))
   (i_Fan : CalleeI P w K mg base 3 CF ["self", "keep"] (spFInit CF CT CR CH)) (m_names : CalleeM P w K mg base 1 CF "names" ["self"] (QQY CF CT CR CH)) :
   FnOk P w K mg base CX0 7 f fd ["_law_script"] (spLaw K) := by
 refine F.ok sc_l_of_drawn (fun vs H Q E h => ?_) (fun cdv A0 outer s0 H vs Q E hr h => ?_)
 · obtain ⟨a, ns, rfl, _⟩ := h; rfl
 · obtain ⟨a, ns, rfl, hS, hlen, q⟩ := h
   refine ⟨_, (@qJ _ _ _ _ _ (yB (i := 1) sc_l_of_drawn.nd rfl (Or.inl rfl) (zB c_l_drawn (hr.mono (by decide)) (qU (pv 0) (qM qG (qM qG as_nil)))))
     (@qJ _ _ _ _ _ (yB (i := 2) sc_l_of_drawn.nd rfl (Or.inr rfl) (as_make i_Fan (hr.mono (by decide)) TC.mg_Fan (qU (pv 1) as_nil)))
     (@qJ _ _ _ _ _ (yB (i := 3) sc_l_of_drawn.nd rfl (Or.inl rfl) Mq)
     (@qJ _ _ _ _ _ (yB (i := 4) sc_l_of_drawn.nd rfl (Or.inl rfl) (vw as_nil))
     (@qJ _ _ _ _ _ (qJJ PassesOwn.never rfl (pi_range1 (by rfl) T.b_range (zq (yJ (zQQ rfl) (by rfl) T.b_max PyProof.Rows.boot_max (qU qG (qM (yJ (call_min2 rfl) (by rfl) T.b_min PyProof.Rows.boot_min (qU qG (qM (yJ (vU K) (by rfl) T.b_len PySem.boot_len (qU (pv 0) as_nil)) as_nil))) as_nil))) YB)) (Qz (i := 5) sc_l_of_drawn.nd rfl (Or.inl rfl)) (@qJ _ _ _ _ _ (yB (i := 6) sc_l_of_drawn.nd rfl (Or.inl rfl) (yz QB qG (yz zJQ qG (pv 5))))
     (@qJ _ _ _ _ _ (@yB _ _ 7 _ _ _ _ sc_l_of_drawn.nd rfl (Or.inl rfl) (qZQ (vVZ K) (@pe_lit _ 8 _ (.list [.int 0, .int 0, .int 1, .int 2, .int 2, .int 2, .int 2, .int 3, .int 3, .int 4, .int 5] : PyData) (by kernel_rfl)) (zB c_l_drawn (hr.mono (by decide)) (qU (pv 0) (qM (pv 6) (qM qG as_nil)))) (fun _ _ => rfl)) (by rfl) (by first | exact .inl rfl | exact .inr rfl))
     (@qJ _ _ _ _ _ (yB (i := 8) sc_l_of_drawn.nd rfl (Or.inl rfl) (qZQ ix_str qv (zB c_l_drawn (hr.mono (by decide)) (qU (pv 0) (qM (yz QB (pv 6) qG) (qM qG as_nil)))) (fun _ _ => rfl)))
     (@qJ _ _ _ _ _ (yB (i := 9) sc_l_of_drawn.nd rfl (Or.inl rfl) (yz QB qG (zB c_l_drawn (hr.mono (by decide)) (qU (pv 0) (qM (yz QB (pv 6) qG) (qM qG as_nil))))))
     (@qJ _ _ _ _ _ (@yB _ _ 10 _ _ _ _ sc_l_of_drawn.nd rfl (Or.inl rfl) (qZQ (vVZ K) (@pe_lit _ 8 _ (.list [.str "old", .str "new", .str "cut"] : PyData) (by kernel_rfl)) (zB c_l_drawn (hr.mono (by decide)) (qU (pv 0) (qM (@yz _ _ _ _ _ _ _ _ QB (pv 6) qG) (qM qG as_nil)))) (fun _ _ => rfl)) (by rfl) (by first | exact .inl rfl | exact .inr rfl))
     (@qJ _ _ _ _ _ (yB (i := 11) sc_l_of_drawn.nd rfl (Or.inl rfl) (pe_ifExp (qw MG (pv 7) qG (yU _)) pe_non (Zz (qM qv (qM qG as_nil)))))
     (pss_cut (zY (PW.pt (pw_and (qw MG (pv 7) qG (yU _)) (pw_and1 (zZJ (pc_din (yG hr) (pv 8) (pv 3)))))) (qV (yB (i := 11) sc_l_of_drawn.nd rfl (Or.inl rfl) (Zz (qM qv (qM qG as_nil))))) (qV (zY (qw MG (pv 7) qG (yU _)) (qV (Yv (yG hr) (pv 3) (pv 8) (pe_disp (Jq qv (pv 9) (Jq qv (pv 10) (Jq qv (vw as_nil) (Jq qv MB (Jq qv (pe_fn0 c_l_hearer (hr.mono (by decide))) pps_nil))))) rfl rfl (List.cons_ne_nil _ _) (Nat.le_of_ble_eq_true rfl)) rfl)) (qV (zY (qw MG (pv 7) qG (yU _)) (@qJ _ _ _ _ _ (vY (k_bm K PySem.F.plainAttrs_list PySem.F.slot_list_append PySem.F.type_list_append UQ (pv 4) (zq (Zz (qM (yz QB (yJ (vU K) (by rfl) T.b_len PySem.boot_len (qU (pv 4) as_nil)) qG) (qM qv (qM (pv 10) as_nil)))) YB)))
     (@qJ _ _ _ _ _ (yB (i := 11) sc_l_of_drawn.nd rfl (Or.inl rfl) (yJ (vU K) (by rfl) T.b_len PySem.boot_len (qU (pv 4) as_nil)))
     (qV (ps_thaw (qJJ PassesOwn.never rfl (pi_keys (pv 3)) (Qz (i := 12) sc_l_of_drawn.nd rfl (Or.inl rfl)) (qV (vY (zB c_l_puts (hr.mono (by decide)) (qU (yy (yG hr) (pv 3) (pv 12) (fun _ _ => rfl)) (qM (qZQ (vVZ K) (pv 4) (pe_un un_neg qG) (fun _ _ => rfl)) as_nil)))))))))) (qV (zY (PW.pt (pw_and (zZJ (pc_din (yG hr) (pv 8) (pv 3))) (pw_and1 (qw MG (pv 7) qG (yU _))))) (@qJ _ _ _ _ _ (yB (i := 11) sc_l_of_drawn.nd rfl (Or.inl rfl) pe_non)
     (qV (vY (vQJ (pv 3) (pv 8) ⟨rfl, rfl, rfl, rfl⟩)))) (qV (zY (zZJ (pc_din (yG hr) (pv 8) (pv 3))) (qV (yB (i := 11) sc_l_of_drawn.nd rfl (Or.inl rfl) (zB c_l_does (hr.mono (by decide)) (qU (yy (yG hr) (pv 3) (pv 8) (fun _ _ => rfl)) (qM (pv 7) (qM (pv 9) (qM (pv 4) (qM (pv 1) as_nil)))))))) yv)))))))))
     (@qJ _ _ _ _ _ (zY (PW.pt (pw_or (qw (vYQ hr.units) (zB c_l_told (hr.mono (by decide)) (qU (pv 2) (qM (pv 7) (qM (pv 8) (qM (pv 9) (qM (pv 10) as_nil)))))) (pv 11) (yU _)) (pw_or1 (qw (vYQ hr.units) (zz m_names TC.cl_Fan (hr.mono (by decide)) (pv 2)) (yJ (k_sortT K rfl) (by rfl) T.b_sorted PyProof.Rows.boot_sorted (qU (pv 3) as_nil)) (yU _))))) (qV (qz MB)) yv)
     (@qJ _ _ _ _ _ (ps_comp (i := 13) sc_l_of_drawn.nd rfl (Or.inl rfl) (N' := ["_law_ask", "_law_fan"]) (ix := [none, some 2]) (own := [0]) rfl (cs_of (osc := qZ Yy) (ON := N_l_of_drawn) rfl rfl (by decide +kernel)) (by decide) (pi_range2 (by rfl) T.b_range (zq qG (zq qG YB))) (fun _ _ _ _ => (Qz (i := 0) (show (["_law_ask", "_law_fan"] : List Str).Nodup by decide +kernel) rfl (Or.inl rfl))) qZY (fun _ _ _ _ => (vQZ (qw (vYQ hr.units) (zB c_l_told (hr.mono (by decide)) (qU (pv 1) (qM (pv 0) (qM qv (qM qG (qM qv as_nil)))))) (Zz (qM qv (qM qG as_nil))) (yU _)))) (fun _ _ _ _ => (pv 0)))
     (qV (zY (PW.pt (pw_or (qw (k_ne0 K hr.units0) (pv 13) (vw as_nil) (yU _)) (pw_or1 (pt_not (pt_val (zB c_l_stands (hr.mono (by decide)) (qU (pv 2) (qM (pv 3) (qM (pv 4) as_nil))))))))) (qV (qz MB)) yv))))))))))))
     (qV (qz MB))))))), ?_⟩
   refine ⟨_, rfl, a, ns, 0, 6, rfl, hS, hlen, by decide, by decide, fun H1 s1 => ?_⟩
   have k0 := vJQ ns 0 (m := 6) (by decide)
   generalize drawnF ns 0 6 = k at k0 ⊢
   refine ⟨_, rfl, ?_⟩
   intro p1 dx1 np1 nd1 nx1
   refine ⟨p1, dx1, k, rfl, qQ, fun A H2 ep hA0 st2 => ⟨rfl, ?_⟩⟩
   subst ep
   have v2 : Stp [] H A.own H2 := (s1.step []).trans ((Stp.obj (o := .own A.p) (o' := .ins CF dx1 []) np1 nd1).trans st2)
   obtain ⟨g0, hg0⟩ : ∃ g : Str → FE, True := ⟨fun _ => ⟨0, 0, 0, 0, "", ⟨[], [], false⟩, ⟨0, 0, 0, 0, 0⟩, hs0⟩, trivial⟩
   obtain ⟨o0, ho0⟩ : ∃ o : Str → OA, True := ⟨fun _ => ⟨0, 0, ⟨0, 0, 0, 0⟩⟩, trivial⟩
   obtain ⟨os0, hos0⟩ : ∃ o : Str → OS, True := ⟨fun _ => ⟨0, "", [], false, hs0⟩, trivial⟩
   have fp0 : ∀ c, c ∈ A.fp [] g0 ↔ c ∈ A.own := fun c => by unfold FA.fp fpF; simp
   have w2 : Stp [] H (A.fp [] g0) H2 := v2.weak (fun _ z => absurd z List.not_mem_nil) fun c hc => .inl ((fp0 c).mp hc)
   intro pr npr
   have m3 := Stp.make (ps := A.fp [] g0) (o := .dK []) npr
   have A3 := (hA0 g0).same (Same.new (o := .dK []) npr)
   have npA := (hA0 g0).free npr
   have er3 := qQ (H := H2) (a := pr) (o := .dK [])
   generalize upd H2 pr (.dK []) = H3 at m3 A3 er3 ⊢
   refine ⟨Nat.zero_le _, fun lt nlt => ?_⟩
   have m4 := Stp.make (ps := pr :: A.fp [] g0) (o := .lst []) nlt
   have X0 : FS CF CT CR CH H (upd H3 lt (.lst [])) A [] g0 k [] pr [] o0 os0 lt [] [] := ⟨⟨⟨A3.same (Same.new nlt), fun n hn => absurd hn List.not_mem_nil, Rows.nil, fun m h => absurd h List.not_mem_nil, k0, by decide⟩, fun n hn => absurd hn List.not_mem_nil, qQ, Ms.nil, npA, A3.free nlt, fun z => (by rw [z, nlt] at er3; cases er3), fun n hn => absurd hn List.not_mem_nil, fun n hn => absurd hn List.not_mem_nil, List.nodup_nil, ((w2.trans m3).trans m4).weak (fun _ z => z) fun c hc => (by
     rcases List.mem_cons.mp hc with z | z
     · rw [z]; exact .inl (List.mem_cons_of_mem _ List.mem_cons_self)
     rcases List.mem_cons.mp z with y | y
     · rw [y]; exact .inl List.mem_cons_self
     rcases List.mem_append.mp y with x | x
     · exact .inl (List.mem_cons_of_mem _ (List.mem_cons_of_mem _ x))
     · unfold ofp at x; simp at x)⟩, Same.new nlt _ _ er3⟩
   generalize upd H3 lt (.lst []) = H4 at X0 ⊢
   clear m4 m3 A3 er3 npA w2 fp0 v2 st2 hA0 nlt npr
   have hm : ∀ x : Int, (if (if x < 12 then x else 12) > 1 then (if x < 12 then x else 12) else 1) ≤ 12 ∧ 1 ≤ (if (if x < 12 then x else 12) > 1 then (if x < 12 then x else 12) else 1) := fun x => by split <;> split <;> omega
   have hm' := hm ((ns.map V.int).length : Int)
   refine ⟨_, rfl, a, _, rfl, .inl (X0.w.same.seq hS), _, _, rfl, _, _, rfl, _, rfl, by omega, by omega, ?_⟩
   generalize (if (if ((ns.map V.int).length : Int) < 12 then ((ns.map V.int).length : Int) else 12) > 1 then (if ((ns.map V.int).length : Int) < 12 then ((ns.map V.int).length : Int) else 12) else 1) = nn at hm' ⊢
   refine for_range (lo := 0) (n := nn.toNat) (fun i σ H' => ∃ o5 o6 o7 o8 o9 o10 o11 o12 o13 l g all o os yt, σ = [some (.ref a), some (.int k), some (.ref A.p), some (.ref pr), some (.ref lt), o5, o6, o7, o8, o9, o10, o11, o12, o13] ∧ FS CF CT CR CH H H' A l g k all pr l o os lt yt all ∧ (∀ n ∈ l, Alk all (g n) (os n)) ∧ (∀ n ∈ l, n ∈ PQR) ∧ all.length ≤ i)
     ⟨_, _, _, _, _, _, _, _, _, [], g0, [], o0, os0, [], rfl, X0, fun n hn => absurd hn List.not_mem_nil, fun n hn => absurd hn List.not_mem_nil, Nat.le_refl _⟩ ?_ (fun σ H' h => q H')
   clear X0 hm
   rintro i σ H5 hi ⟨o5, o6, o7, o8, o9, o10, o11, o12, o13, l, g, all, o, os, yt, rfl, X, al, hp, hli⟩
   refine Qv ⟨_, rfl, _, _, rfl, rfl, .inl ⟨by decide, by decide⟩, _, _, rfl, rfl, ?_⟩
   refine fun v H6 s6 hv _ => ?_
   obtain ⟨lw, rfl, elw⟩ := ways_lit hv
   have X6 := X.same s6
   refine ⟨_, rfl, _, rfl, a, ns, _, 11, rfl, X6.w.same.seq hS, hlen, by omega, by decide, fun H7 s7 => ?_⟩
   obtain ⟨way, hway, w0, w5⟩ := ways_at (vJQ ns (10 + 6 * (0 + (i : Int))) (m := 11) (by decide)) (drawn_lt ns (10 + 6 * (0 + (i : Int))) (m := 11) (by decide))
   refine ⟨lw, _, _, .int way, rfl, rfl, SqL.ofL (s7 _ _ elw), hway, ?_⟩
   have X7 := X6.same s7
   clear X X6 s6 s7 elw hv
   refine ⟨_, rfl, _, rfl, _, _, rfl, rfl, a, ns, _, 3, rfl, X7.w.same.seq hS, hlen, by omega, by decide, fun H8 s8 => ?_⟩
   obtain ⟨c8, hc8, hpn⟩ := pqr_at (vJQ ns (10 + 6 * (0 + (i : Int)) + 1) (m := 3) (by decide)) (drawn_lt ns (10 + 6 * (0 + (i : Int)) + 1) (m := 3) (by decide))
   refine ⟨"pqr", _, c8, rfl, rfl, by decide +kernel, hc8, ?_⟩
   generalize (⟨#[c8]⟩ : Str) = n at hpn ⊢
   have X8 := X7.same s8
   clear X7 s8
   refine ⟨_, rfl, _, rfl, _, _, rfl, rfl, a, ns, _, 3, rfl, X8.w.same.seq hS, hlen, by omega, by decide, fun H9 s9 => ?_⟩
   have d0 := vJQ ns (10 + 6 * (0 + (i : Int)) + 2) (m := 3) (by decide)
   have d3 := drawn_lt ns (10 + 6 * (0 + (i : Int)) + 2) (m := 3) (by decide)
   generalize drawnF ns (10 + 6 * (0 + (i : Int)) + 2) 3 = md at d0 d3 ⊢
   refine ⟨_, _, rfl, rfl, ?_⟩
   have X9 := X8.same s9
   clear X8 s9
   refine fun v H10 s10 hv _ => ?_
   obtain ⟨lkd, rfl, elkd⟩ := kinds_lit hv
   have X10 := X9.same s10
   refine ⟨_, rfl, _, rfl, _, _, rfl, rfl, a, ns, _, 3, rfl, X10.w.same.seq hS, hlen, by omega, by decide, fun H11 s11 => ?_⟩
   obtain ⟨kind, hkd, hkw, hko⟩ := kinds_at (vJQ ns (10 + 6 * (0 + (i : Int)) + 3) (m := 3) (by decide)) (drawn_lt ns (10 + 6 * (0 + (i : Int)) + 3) (m := 3) (by decide))
   refine ⟨lkd, _, _, .str kind, rfl, rfl, SqL.ofL (s11 _ _ elkd), hkd, ?_⟩
   have X11 := X10.same s11
   clear X9 X10 s10 s11 elkd hv
   refine due_any (way := way) (fun R hR => ⟨_, rfl, hR⟩) (fun v H12 s12 hv => ?_)
   have X12 := X11.same s12
   clear X11 s12
   refine ⟨fun σ H' => ∃ v o12, σ = [some (.ref a), some (.int k), some (.ref A.p), some (.ref pr), some (.ref lt), some (.int (0 + (i : Int))), some (.int (10 + 6 * (0 + (i : Int)))), some (.int way), some (.str n), some (.int (1 + md)), some (.str kind), some v, o12, o13] ∧ Will CF CT CR CH H A k pr lt (i + 1) way (1 + md) n kind v H', ?_, ?_⟩
   case refine_1 =>
     rintro σ H13 ⟨v, o12, rfl, W⟩
     refine ⟨_, rfl, _, rfl, _, rfl, _, rfl, _, rfl, W _ fun r H14 l2 g2 all2 o2 os2 yt2 dd X al hp hli hsh hr hv => ?_⟩
     have hcl : PyData.canLay0 dd = true := (Bool.and_eq_true_iff.mp hsh).1
     refine ⟨_, rfl, dd, dd, hr, hv, hsh, hsh, ?_⟩
     rw [SeqAt.eqv_refl _ hcl]
     refine ⟨_, rfl, iteF ?_⟩
     have hln := X.fg.ln
     have okn : ∀ t ∈ l2, PyData.strOk t = true := fun t ht => PQR_ok t (hp t ht)
     obtain ⟨dx, h1⟩ := X.fg.fa.ob
     refine ⟨_, rfl, A.p, dx, _, rfl, h1, nfN, A, l2, g2, k, all2, rfl, X.fg.fa, by omega, fun q1 ts nq1 hts => ?_⟩
     have g1 := Same.new (o := .lst (ts.map V.str)) nq1
     have X1 := X.same g1
     refine ⟨_, rfl, .ref pr, l2, rfl, .inr ⟨pr, _, rfl, X1.rt, tabN_keys l2 _⟩, by omega, fun q2 ts2 nq2 hts2 => ?_⟩
     obtain rfl : ts = ts2 := (hts2.eq hts.perm hts.rise).symm
     have g2' := Same.new (o := .lst (ts.map V.str)) nq2
     refine ne_strs (g2' _ _ qQ) qQ (fun t ht => okn t (hts.perm.mem_iff.mp ht)) ⟨_, rfl, iteF ?_⟩
     have X2 := X1.same g2'
     generalize upd (upd H14 q1 (.lst (ts.map V.str))) q2 (.lst (ts.map V.str)) = H15 at X2 ⊢
     clear X X1 g1 g2' hr hv W
     refine ⟨3, 9, rfl, ⟨by decide, by decide, by decide, by decide⟩, 6, fun i ys H' => Same H15 H' ∧ ys = [], by decide, ⟨Same.refl _, rfl⟩, ?_, ?_⟩
     · rintro i ys H' hi ⟨sH, rfl⟩
       refine ⟨(show i < ((9 : Int) - 3).toNat from hi), ?_⟩
       rintro x H16 ⟨rfl, rfl⟩
       have X3 := X2.same sH
       refine Qv ⟨_, rfl, _, rfl, A.p, _, "none", 1, "", rfl, .inr (.inr (.inr (.inr (.inr (.inr ⟨A, l2, g2, k, all2, rfl, X3.fg.fa, .inr ⟨by omega, none_not hp, fun qq H17 s17 e17 => ?_⟩⟩)))))⟩
       refine ⟨(show 2 ≤ sizeLine by decide), fun c nc => ?_⟩
       have gc := Same.new (o := .tup [V.str "refused", V.int 1]) nc
       refine ⟨rD 1, rD 1, rD_has (gc _ _ e17), rD_has qQ, yQZ 1, yQZ 1, ?_⟩
       rw [SeqAt.eqv_refl _ (Bool.and_eq_true_iff.mp (yQZ 1)).1]
       exact ⟨_, rfl, iteF ⟨(sH.trans s17).trans gc, rfl⟩⟩
     rintro yr H16 ⟨s16, rfl⟩
     refine ⟨(show ((9 : Int) - 3).toNat ≤ 6 from by decide), fun lb nlb => ?_⟩
     have gb := Same.new (o := .lst []) nlb
     refine ⟨_, rfl, Nat.zero_le _, fun lz nlz => ?_⟩
     have gz := Same.new (o := .lst []) nlz
     have X4 := ((X2.same s16).same gb).same gz
     refine ⟨lb, lz, [], rfl, rfl, SqL.ofL (gz _ _ qQ), SqL.ofL qQ, _, rfl, iteF ?_⟩
     generalize upd (upd H16 lb (.lst [])) lz (.lst []) = H17 at X4 ⊢
     refine ⟨_, rfl, _, rfl, _, rfl, A, l2, g2, k, all2, pr, o2, os2, lt, yt2, rfl, X4.fr al okn, by omega, fun H18 s18 => ⟨_, rfl, iteF ?_⟩⟩
     exact ⟨_, _, _, _, _, _, _, _, _, l2, g2, all2, o2, os2, yt2, rfl, X4.same s18, al, hp, hli⟩
   have hnd := X12.nd
   have hfz : ∀ (o : Obj) (u : HO), H pr = some (.frz o u) → False := fun o u e => by
     rcases X12.w.3 pr List.mem_cons_self with z | z
     · exact absurd z List.not_mem_nil
     · rw [z] at e; cases e
   have hin : DGet H12 pr (.str n) (valV (tabN l fun n => V.ref (o n).m) (Sum.inr n)) := DGet.k (k := Sum.inr n) X12.rt
   have hgP : n ∈ l → DGet H12 pr (.str n) (some (.ref (o n).m)) := fun hn => (YQ (F := fun n => V.ref (o n).m) hn) ▸ hin
   have hll : all.length ≤ 12 := by omega
   by_cases hw0 : way = 0
   · subst hw0
     have hvn : v = .non := by
       rcases hv with ⟨_, z⟩ | ⟨z, _⟩
       · exact z
       · exact absurd rfl z
     subst hvn
     refine ⟨_, rfl, rfl, _, rfl, ite2 (fun _ => ?_) (fun z => absurd (decide_eq_true rfl) z)⟩
     refine ⟨_, rfl, _, rfl, pr, _, rfl, hin, _, rfl, ?_⟩
     by_cases hn : n ∈ l
     · rw [show valV (tabN l fun n => V.ref (o n).m) (Sum.inr n) = some (.ref (o n).m) from YQ (F := fun n => V.ref (o n).m) hn]
       refine iteT ⟨(show 2 ≤ sizeLine by decide), fun c nc => ?_⟩
       exact ⟨.ref c, _, rfl, will_taken (X12.same (Same.new nc)) al hp (by omega) hn qQ⟩
     · rw [show valV (tabN l fun n => V.ref (o n).m) (Sum.inr n) = none from qQQ hn]
       refine iteF ⟨_, rfl, rfl, _, rfl, ite2 (fun _ => ?_) (fun z => absurd (decide_eq_true rfl) z)⟩
       intro p np
       refine ⟨_, rfl, _, rfl, Nat.zero_le _, fun qr nqr => ⟨rfl, fun E2 H13 L13 st13 => ?_⟩⟩
       have w1 : Stp [] H12 [p] (upd H12 p (.dK [])) := Stp.make np
       have w2 : Stp [p] (upd H12 p (.dK [])) [qr, p] (upd (upd H12 p (.dK [])) qr (.lst [])) := Stp.make nqr
       have ep2 : upd (upd H12 p (.dK [])) qr (.lst []) p = some (.dK []) := Same.new nqr _ _ qQ
       have eq2 : upd (upd H12 p (.dK [])) qr (.lst []) qr = some (.lst []) := qQ
       have npq : p ≠ qr := fun z => by rw [z, qQ] at ep2; cases ep2
       generalize upd (upd H12 p (.dK [])) qr (.lst []) = H12b at w2 ep2 eq2 st13 ⊢
       have ep3 := st13.keep ep2 List.not_mem_nil
       have eq3 := st13.keep eq2 List.not_mem_nil
       have npE := st13.out ep2 List.not_mem_nil
       have nqE := st13.out eq2 List.not_mem_nil
       refine ⟨ep3, [(Sum.inr "size", .int (1 + md)), (Sum.inr "way", .str kind), (Sum.inr "rows", .ref qr), (Sum.inr "cut", .bl false), (Sum.inr "ear", .ref E2.m)], rfl, (show 5 ≤ 15 by decide), ?_⟩
       have em : zJZ [] [(Sum.inr "size", V.int (1 + md)), (Sum.inr "way", V.str kind), (Sum.inr "rows", V.ref qr), (Sum.inr "cut", V.bl false), (Sum.inr "ear", V.ref E2.m)] = oK ⟨p, qr, E2⟩ ⟨1 + md, kind, [], false, hs0⟩ := rfl
       rw [em]
       have st := Stp.put (ps := [p]) (o := .dK (oK ⟨p, qr, E2⟩ ⟨1 + md, kind, [], false, hs0⟩)) ep3 (fun _ z => by cases z) (by simp)
       have OA' : OAt (upd H13 p (.dK (oK ⟨p, qr, E2⟩ ⟨1 + md, kind, [], false, hs0⟩))) ⟨p, qr, E2⟩ ⟨1 + md, kind, [], false, hs0⟩ := ⟨qQ, ⟨[], st.keep eq3 (by simp [npq.symm]), Ms.nil⟩, L13.step st (fun c hc z => npE (by rw [List.mem_singleton] at z; rw [← z]; exact hc)), fun c hc => (by
         simp only [List.mem_cons, List.not_mem_nil, or_false] at hc
         rcases hc with rfl | rfl
         · exact npE
         · exact nqE)⟩
       have w3 : Stp [] H12 (OA.fp ⟨p, qr, E2⟩) (upd H13 p (.dK (oK ⟨p, qr, E2⟩ ⟨1 + md, kind, [], false, hs0⟩))) := ((w1.trans w2).trans (st13.weak (qs := [qr, p]) (qs' := OA.fp ⟨p, qr, E2⟩) (fun _ z => absurd z List.not_mem_nil) fun c hc => (by
         rcases List.mem_append.mp hc with z | z
         · simp only [List.mem_cons, List.not_mem_nil, or_false] at z
           rcases z with rfl | rfl
           · exact .inr (by simp)
           · exact .inr (by simp)
         · exact .inl z))).trans (st.up fun c hc => by rw [List.mem_singleton] at hc; rw [hc]; simp [OA.fp])
       generalize upd H13 p (.dK (oK ⟨p, qr, E2⟩ ⟨1 + md, kind, [], false, hs0⟩)) = H14 at OA' w3 ⊢
       refine ⟨_, rfl, _, rfl, pr, _, rfl, DPut.k (k := Sum.inr n) (w3.keep X12.rt List.not_mem_nil) (by rw [UU, sizeLine_eq]; have := X12.fg.ln; omega), ?_⟩
       exact ⟨.non, _, rfl, will_lay (X12.lay hn w3 OA') al hp (by omega) hn hpn (by omega) hkw⟩
   obtain ⟨cv, rfl, hcv⟩ : ∃ c, v = .ref c ∧ H12 c = some (.tup [.str "refused", .int 1]) := by
     rcases hv with ⟨z, _⟩ | ⟨_, z⟩
     · exact absurd z hw0
     · exact z
   refine ⟨_, rfl, rfl, _, rfl, ite2 (fun z => absurd (V.int.inj (of_decide_eq_true z)) hw0) (fun _ => iteF ?_)⟩
   refine ⟨_, rfl, rfl, _, rfl, ite2 (fun z => absurd (V.int.inj (of_decide_eq_true z)) hw0) (fun _ => ?_)⟩
   by_cases hw2 : way = 2
   · subst hw2
     refine ⟨_, rfl, rfl, _, rfl, ite2 (fun _ => ?_) (fun z => absurd (decide_eq_true rfl) z)⟩
     have lyt := X12.mt.len
     refine ⟨_, rfl, .inl ⟨rfl, _, SqL.ofL X12.et⟩, _, rfl, lt, _, rfl, .inl (SqL.ofL X12.et), _, _, rfl, rfl, _, rfl, (show 3 ≤ sizeLine by decide), fun c nc => ?_⟩
     have emT : HO.tup [V.int ((yt.length : Int) + 1), V.str "a", V.str kind] = mT ⟨(all.length : Int) + 1, "a", kind⟩ := by rw [lyt]; rfl
     rw [show HO.tup [(fun (i j : Int) => V.int (i + j)) (yt.length : Int) 1, V.str "a", V.str kind] = mT ⟨(all.length : Int) + 1, "a", kind⟩ from emT]
     have gc := Same.new (o := mT ⟨(all.length : Int) + 1, "a", kind⟩) nc
     have X13 := X12.same gc
     have hc : upd H12 c (mT ⟨(all.length : Int) + 1, "a", kind⟩) c = some (mT ⟨(all.length : Int) + 1, "a", kind⟩) := qQ
     generalize upd H12 c (mT ⟨(all.length : Int) + 1, "a", kind⟩) = H13 at X13 hc ⊢
     refine ⟨lt, _, _, rfl, rfl, X13.et, by rw [sizeLine_eq]; omega, ?_⟩
     have X14 := X13.told hc
     have ntl : c ≠ lt := fun z => by have := X13.et; rw [← z, hc] at this; cases this
     have hc14 : upd H13 lt (.lst (yt ++ [.ref c])) c = some (mT ⟨(all.length : Int) + 1, "a", kind⟩) := (qY ntl).trans hc
     generalize upd H13 lt (.lst (yt ++ [.ref c])) = H14 at X14 hc14 ⊢
     clear X13 gc hc
     refine ⟨_, rfl, lt, _, rfl, .inl (SqL.ofL X14.et), ?_⟩
     have elen : (((yt ++ [V.ref c]).length : Nat) : Int) = (all.length : Int) + 1 := by rw [List.length_append, lyt]; rfl
     rw [elen]
     obtain ⟨m, hmm⟩ : ∃ m : Msg, m = ⟨(all.length : Int) + 1, "a", kind⟩ := ⟨_, rfl⟩
     rw [← hmm] at X14 hc14
     refine ⟨_, rfl, pr, _, rfl, X14.rt, hfz, fun ob => ?_⟩
     have Y := X14.toFS0.tab (v := .frz ob (.dK (tabN l fun n => .ref (o n).m))) X14.rt (fun _ z => by cases z)
     have ey := qQ (H := H14) (a := pr) (o := .frz ob (.dK (tabN l fun n => .ref (o n).m)))
     have ncp : c ≠ pr := fun z => by have := X14.rt; rw [← z, hc14] at this; cases this
     have hcy : upd H14 pr (.frz ob (.dK (tabN l fun n => .ref (o n).m))) c = some (mT m) := (qY ncp).trans hc14
     generalize upd H14 pr (.frz ob (.dK (tabN l fun n => .ref (o n).m))) = H15 at Y ey hcy ⊢
     refine for_it (n := (tabN l fun n => V.ref (o n).m).length) (fun j σ H' => ∃ o12 oi osi, σ = [some (.ref a), some (.int k), some (.ref A.p), some (.ref pr), some (.ref lt), some (.int (0 + (i : Int))), some (.int (10 + 6 * (0 + (i : Int)))), some (.int 2), some (.str n), some (.int (1 + md)), some (.str kind), some (.int ((all.length : Int) + 1)), o12, o13] ∧ FS0 CF CT CR CH H H' A l g k all pr l oi osi lt (yt ++ [.ref c]) (all ++ [m]) ∧ H' pr = some (.frz ob (.dK (tabN l fun n => .ref (o n).m))) ∧ H' c = some (mT m) ∧ (∀ n, (oi n).m = (o n).m) ∧ (∀ n ∈ l, (n ∈ l.take j → osi n = oput (os n) m) ∧ (n ∉ l.take j → osi n = os n)))
       ⟨_, o, os, rfl, Y, ey, hcy, fun _ => rfl, fun n hn => ⟨fun z => absurd z (by rw [List.take_zero]; exact List.not_mem_nil), fun _ => rfl⟩⟩ ?_ ?_
     · rintro j σ H' hj ⟨o12, oi, osi, rfl, Y, ey, hcy, hom, hos⟩
       refine ⟨⟨ey, hj⟩, ?_⟩
       rintro x H16 ⟨rfl, kv, hkv, rfl⟩
       have hj' : j < l.length := by rw [UU] at hj; exact hj
       have hkv' : kv = (Sum.inr l[j], V.ref (o l[j]).m) := by
         unfold tabN at hkv
         rw [List.getElem?_map, List.getElem?_eq_getElem hj'] at hkv
         exact (Option.some.inj hkv).symm
       subst hkv'
       have hn : l[j] ∈ l := List.getElem_mem hj'
       have hnj : l[j] ∉ l.take j := fun z => by
         obtain ⟨j', hj2, e⟩ := List.getElem_of_mem z
         rw [List.length_take] at hj2
         rw [List.getElem_take] at e
         exact List.pairwise_iff_getElem.mp hnd j' j (by omega) hj' (by omega) e
       have htk : l.take (j + 1) = l.take j ++ [l[j]] := by rw [List.take_add_one, List.getElem?_eq_getElem hj']; rfl
       rw [htk]
       generalize l[j] = nm at hn hnj
       have hO := Y.oa nm hn
       have hgR : DGet H16 pr (.str nm) (some (.ref (oi nm).m)) := by
         rw [hom nm]
         exact .inl ⟨_, Sum.inr nm, .inr ⟨ob, ey⟩, rfl, (YQ (F := fun n => V.ref (o n).m) hn).symm⟩
       have hrl : (osi nm).rows.length < 100 := by
         rw [(hos nm hn).2 hnj]
         have h1 := (al nm hn).rows
         have h2 := (X12.fg.en nm hn).sum
         rw [← h1]; omega
       refine Qv ⟨_, rfl, _, rfl, pr, _, rfl, hgR, _, rfl, _, rfl, lt, _, _, .ref c, rfl, rfl, SqL.ofL Y.et, atI_last yt (V.ref c), oi nm, osi nm, c, m, rfl, hO, hcy, hrl, OAt_notup hO hcy, fun a2 H17 O17 em17 st17 => ?_⟩
       have Y2 := Y.own hn ⟨_, ey⟩ st17 O17
       refine ⟨_, _, _, rfl, Y2, st17.keep ey (fun z => (Y.no nm hn _ z).2.1 rfl), st17.tup _ _ hcy, fun n' => ?_, fun n' hn' => ⟨fun z => ?_, fun z => ?_⟩⟩
       · by_cases y : n' = nm
         · rw [y, vq, em17, hom nm]
         · rw [zM y, hom n']
       · by_cases y : n' = nm
         · rw [y, vq, (hos nm hn).2 hnj]
         · rw [zM y]
           refine (hos n' hn').1 ?_
           rcases List.mem_append.mp z with u | u
           · exact u
           · exact absurd (List.mem_singleton.mp u) y
       · have y : n' ≠ nm := fun y => z (List.mem_append_right _ (by rw [y]; simp))
         rw [zM y]
         exact (hos n' hn').2 fun u => z (List.mem_append_left _ u)
     rintro σ H16 ⟨o12, oi, osi, rfl, Y, ey, hcy, hom, hos⟩
     refine ⟨⟨ey, Nat.le_refl _⟩, pr, ob, _, ey, hfz, ?_⟩
     have Y2 := Y.tab (v := .dK (tabN l fun n => .ref (o n).m)) ey (fun _ z => by cases z)
     have eT : (tabN l fun n => V.ref (oi n).m) = tabN l fun n => V.ref (o n).m := Yq fun n _ => by rw [hom n]
     have X17 : FS CF CT CR CH H (upd H16 pr (.dK (tabN l fun n => .ref (o n).m))) A l g k all pr l oi osi lt (yt ++ [.ref c]) (all ++ [m]) := ⟨Y2, by rw [eT]; exact qQ⟩
     rw [hmm] at X17
     refine ⟨.int ((all.length : Int) + 1), _, rfl, will_tell X17 al (fun n hn => ?_) hp (by omega) hll hko⟩
     have := (hos n hn).1 (by rw [UU, List.take_length]; exact hn)
     rw [this, hmm]
   refine ⟨_, rfl, rfl, _, rfl, ite2 (fun z => absurd (V.int.inj (of_decide_eq_true z)) hw2) (fun _ => ?_)⟩
   refine ⟨_, rfl, _, rfl, pr, _, rfl, hin, _, rfl, ?_⟩
   by_cases hn : n ∈ l
   case neg =>
     rw [show valV (tabN l fun n => V.ref (o n).m) (Sum.inr n) = none from qQQ hn]
     refine iteF (iteF ⟨_, rfl, _, rfl, pr, _, rfl, hin, _, rfl, ?_⟩)
     rw [show valV (tabN l fun n => V.ref (o n).m) (Sum.inr n) = none from qQQ hn]
     exact iteF ⟨.ref cv, _, rfl, will_none X12 al hp (by omega) hn (by omega) hcv⟩
   have hval : valV (tabN l fun n => V.ref (o n).m) (Sum.inr n) = some (.ref (o n).m) := YQ (F := fun n => V.ref (o n).m) hn
   rw [hval]
   by_cases hw1 : way = 1
   · subst hw1
     refine iteT ⟨_, rfl, rfl, _, rfl, ite2 (fun _ => ?_) (fun z => absurd (decide_eq_true rfl) z)⟩
     exact ⟨_, rfl, pr, rfl, .inl ⟨_, .inl X12.rt⟩, _, rfl, _, Sum.inr n, _, X12.rt, rfl, hval, .non, _, rfl, will_close (X12.pop n) al hp (by omega) hn⟩
   refine iteT ⟨_, rfl, rfl, _, rfl, ite2 (fun z => absurd (V.int.inj (of_decide_eq_true z)) hw1) (fun _ => ?_)⟩
   refine ⟨_, rfl, _, rfl, pr, _, rfl, hin, _, rfl, ?_⟩
   rw [hval]
   refine iteT ?_
   have hA := al n hn
   have hF := X12.fg.en n hn
   have hsum := hF.sum
   refine ⟨_, rfl, _, rfl, pr, _, rfl, hgP hn, _, rfl, _, rfl, _, rfl, _, rfl, o n, os n, lt, yt, all, k, way, 1 + md, rfl, X12.oa n hn, X12.et, X12.mt, fun z => (X12.no n hn _ z).2.2 rfl, X12.fg.rows, X12.fg.ok, hll, k0, hA.hw, fun m hm => hF.sub m (by rw [hA.rows]; exact hm), by rw [← hA.rows]; omega, by omega, ?_⟩
   have hw345 : way = 3 ∨ way = 4 ∨ way = 5 := by omega
   rcases hw345 with rfl | rfl | rfl
   · refine .inl ⟨rfl, fun lv ys fo t' a2 H13 O13 em hw' hE eh st nlv olv elv mlv => ?_⟩
     exact ⟨.ref lv, _, rfl, will_carry (X12.own hn st O13 em) al hp (by omega) hll hn (by omega) hw' hE eh (X12.fg.fa.free nlv) elv mlv⟩
   · refine .inr (.inl ⟨rfl, fun qq lv ys fo t' H13 O13 hw' hE eh st nlv olv eqq elv mlv => ?_⟩)
     exact ⟨.ref qq, _, rfl, will_catch (X12.own hn st O13 rfl) al hp (by omega) hll hn hw' hE eh (X12.fg.fa.free nlv) eqq elv mlv⟩
   · refine .inr (.inr ⟨rfl, ?_⟩)
     exact ⟨_, _, rfl, will_lag X12 al hp (by omega) hn⟩
theorem ok_law {f : Addr} {fd : FuncData} (F : Fun K "law" "law" QYZ f fd) (c_l_known_one : Callee P w K mg base 6 "_law_known_one" [] spOne) (c_l_of_drawn : Callee P w K mg base 7 "_law_of_drawn" ["_law_script"] (spLaw K)) :
   FnOk P w K mg base CX0 8 f fd ["_law_script"] (spLaw K) := by
 refine F.ok sc_law (fun vs H Q E h => ?_) (fun cdv A0 outer s0 H vs Q E hr h => ?_)
 · obtain ⟨a, ns, rfl, _⟩ := h; rfl
 · obtain ⟨a, ns, rfl, hS, hlen, q⟩ := h
   refine ⟨_, (qV (qz (pe_and (pe_fn0 c_l_known_one (hr.mono (by decide))) (pe_one (zB c_l_of_drawn (hr.mono (by decide)) (qU (pv 0) as_nil)))))), ?_⟩
   exact ⟨rfl, fun H1 s1 => ⟨_, rfl, iteT ⟨_, rfl, a, ns, rfl, s1.seq hS, hlen, q⟩⟩⟩
end
end K40
namespace K40
open PySem L2
theorem all_mk {l : W.OpenLaw} {w : World} {K : W.Frag} {h : Heap} {mg : Str → Option Value} {fa f0 f1 f2 f3 f4 f5 f6 f7 f8 f9 f10 f11 f12 f13 f14 f15 f16 f17 f18 f19 f20 f21 f22 f23 f24 f25 f26 f27 f28 f29 f30 f31 f32 f33 f34 f35 f36 f37 f38 f39 f40 f41 f42 f43 f44 f45 f46 f47 f48 f49 f50 f51 f52 f53 f54 f55 C_Fan C_Teller C_Road C_Hearer XT XN XR XK XO : Addr} (X : K.In h) (G : h.Ns mainGlobals mg) (hfa : mg "law" = some (.ref fa))
   {od0 an0 od1 an1 od2 an2 od3 an3 od4 an4 od5 an5 od6 an6 od7 an7 od8 an8 od9 an9 od10 an10 od11 an11 od12 an12 od13 an13 od14 an14 od15 an15 od16 an16 od17 an17 od18 an18 od19 an19 od20 an20 od21 an21 od22 an22 od23 an23 od24 an24 od25 an25 od26 an26 od27 an27 od28 an28 od29 an29 od30 an30 od31 an31 od32 an32 od33 an33 od34 an34 od35 an35 od36 an36 od37 an37 od38 an38 od39 an39 od40 an40 od41 an41 od42 an42 od43 an43 od44 an44 od45 an45 od46 an46 od47 an47 od48 an48 od49 an49 od50 an50 od51 an51 od52 an52 od53 an53 od54 an54 od55 an55 : Option Addr} {sl0 sl1 sl2 sl3 sl4 sl5 sl6 sl7 sl8 sl9 sl10 sl11 sl12 sl13 sl14 sl15 sl16 sl17 sl18 sl19 sl20 sl21 sl22 sl23 sl24 sl25 sl26 sl27 sl28 sl29 sl30 sl31 sl32 sl33 sl34 sl35 sl36 sl37 sl38 sl39 sl40 sl41 sl42 sl43 sl44 sl45 sl46 sl47 sl48 sl49 sl50 sl51 sl52 sl53 sl54 sl55 : Array (Option Value)} {oc0 kV0 dc0 pm0 cd0 ct0 oc1 kV1 dc1 pm1 cd1 ct1 oc2 kV2 dc2 pm2 cd2 ct2 oc3 kV3 dc3 pm3 cd3 ct3 oc4 kV4 dc4 pm4 cd4 ct4 oc5 kV5 dc5 pm5 cd5 ct5 oc6 kV6 dc6 pm6 cd6 ct6 oc7 kV7 dc7 pm7 cd7 ct7 oc8 kV8 dc8 pm8 cd8 ct8 oc9 kV9 dc9 pm9 cd9 ct9 oc10 kV10 dc10 pm10 cd10 ct10 oc11 kV11 dc11 pm11 cd11 ct11 oc12 kV12 dc12 pm12 cd12 ct12 oc13 kV13 dc13 pm13 cd13 ct13 oc14 kV14 dc14 pm14 cd14 ct14 oc15 kV15 dc15 pm15 cd15 ct15 oc16 kV16 dc16 pm16 cd16 ct16 oc17 kV17 dc17 pm17 cd17 ct17 oc18 kV18 dc18 pm18 cd18 ct18 oc19 kV19 dc19 pm19 cd19 ct19 oc20 kV20 dc20 pm20 cd20 ct20 oc21 kV21 dc21 pm21 cd21 ct21 oc22 kV22 dc22 pm22 cd22 ct22 oc23 kV23 dc23 pm23 cd23 ct23 oc24 kV24 dc24 pm24 cd24 ct24 oc25 kV25 dc25 pm25 cd25 ct25 oc26 kV26 dc26 pm26 cd26 ct26 oc27 kV27 dc27 pm27 cd27 ct27 oc28 kV28 dc28 pm28 cd28 ct28 oc29 kV29 dc29 pm29 cd29 ct29 oc30 kV30 dc30 pm30 cd30 ct30 oc31 kV31 dc31 pm31 cd31 ct31 oc32 kV32 dc32 pm32 cd32 ct32 oc33 kV33 dc33 pm33 cd33 ct33 oc34 kV34 dc34 pm34 cd34 ct34 oc35 kV35 dc35 pm35 cd35 ct35 oc36 kV36 dc36 pm36 cd36 ct36 oc37 kV37 dc37 pm37 cd37 ct37 oc38 kV38 dc38 pm38 cd38 ct38 oc39 kV39 dc39 pm39 cd39 ct39 oc40 kV40 dc40 pm40 cd40 ct40 oc41 kV41 dc41 pm41 cd41 ct41 oc42 kV42 dc42 pm42 cd42 ct42 oc43 kV43 dc43 pm43 cd43 ct43 oc44 kV44 dc44 pm44 cd44 ct44 oc45 kV45 dc45 pm45 cd45 ct45 oc46 kV46 dc46 pm46 cd46 ct46 oc47 kV47 dc47 pm47 cd47 ct47 oc48 kV48 dc48 pm48 cd48 ct48 oc49 kV49 dc49 pm49 cd49 ct49 oc50 kV50 dc50 pm50 cd50 ct50 oc51 kV51 dc51 pm51 cd51 ct51 oc52 kV52 dc52 pm52 cd52 ct52 oc53 kV53 dc53 pm53 cd53 ct53 oc54 kV54 dc54 pm54 cd54 ct54 oc55 kV55 dc55 pm55 cd55 ct55 : Value}
   (aX_TellError : W.nsIn K mainGlobals "TellError" = some (some (.ref XT)))
   (aX_NoNumber : W.nsIn K mainGlobals "NoNumber" = some (some (.ref XN)))
   (aX_NoRoad : W.nsIn K mainGlobals "NoRoad" = some (some (.ref XR)))
   (aX_Taken : W.nsIn K mainGlobals "Taken" = some (some (.ref XK)))
   (aX_Other : W.nsIn K mainGlobals "Other" = some (some (.ref XO)))
   (xe_NoRoad : W.excIn K XR [.type "ValueError", .type "Exception", .type "BaseException", .type "object"] "ValueError.__new__" = true)
   (xe_Taken : W.excIn K XK [.type "ValueError", .type "Exception", .type "BaseException", .type "object"] "ValueError.__new__" = true)
   (xga_zR : W.findIn K (.ref XR) "__getattribute__" = some (some (.builtin "BaseException.__getattribute__")))
   (xcl_zR : W.findIn K (.ref XR) "__class__" = some (some (.builtin "object.__class__")))
   (xno_zR : W.findIn K (.ref XR) "__getattr__" = some none)
   (xob_zR : W.mroIn K XR (.type "object") = some true)
   (xbe_zR : W.mroIn K XR (.type "BaseException") = some true)
   (xhd_zR : W.hasDictIn K XR = true)
   (xga_zK : W.findIn K (.ref XK) "__getattribute__" = some (some (.builtin "BaseException.__getattribute__")))
   (xcl_zK : W.findIn K (.ref XK) "__class__" = some (some (.builtin "object.__class__")))
   (xno_zK : W.findIn K (.ref XK) "__getattr__" = some none)
   (xob_zK : W.mroIn K XK (.type "object") = some true)
   (xbe_zK : W.mroIn K XK (.type "BaseException") = some true)
   (xhd_zK : W.hasDictIn K XK = true)
   (x_rN : W.kitOne K (.ref XR) (.ref XN) = some false)
   (x_rR : W.kitOne K (.ref XR) (.ref XR) = some true)
   (x_rK : W.kitOne K (.ref XR) (.ref XK) = some false)
   (x_rO : W.kitOne K (.ref XR) (.ref XO) = some false)
   (x_rV : W.kitOne K (.ref XR) (.type "ValueError") = some true)
   (x_rm : W.exmOne K (.ref XR) (.ref XT) = some true)
   (x_kN : W.kitOne K (.ref XK) (.ref XN) = some false)
   (x_kR : W.kitOne K (.ref XK) (.ref XR) = some false)
   (x_kK : W.kitOne K (.ref XK) (.ref XK) = some true)
   (x_kO : W.kitOne K (.ref XK) (.ref XO) = some false)
   (x_kV : W.kitOne K (.ref XK) (.type "ValueError") = some true)
   (x_km : W.exmOne K (.ref XK) (.ref XT) = some true)
   (aC_Fan : W.nsIn K mainGlobals "Fan" = some (some (.ref C_Fan)))
   (pg_Fan : W.plainGet K C_Fan Str.empty = true)
   (hd_Fan : W.hasDictIn K C_Fan = true)
   (po_Fan : W.plainOver K C_Fan = true)
   (sa_Fan : W.findIn K (.ref C_Fan) "__setattr__" = some (some (.builtin "object.__setattr__")))
   (mk_Fan : W.makesIn K C_Fan = true)
   (kc_Fan : W.keepIn K (.ref C_Fan) = true)
   (n_Fan_teller : W.findIn K (.ref C_Fan) "teller" = some none)
   (n_Fan_roads : W.findIn K (.ref C_Fan) "roads" = some none)
   (n_Fan_hearers : W.findIn K (.ref C_Fan) "hearers" = some none)
   (aC_Teller : W.nsIn K mainGlobals "Teller" = some (some (.ref C_Teller)))
   (pg_Teller : W.plainGet K C_Teller Str.empty = true)
   (hd_Teller : W.hasDictIn K C_Teller = true)
   (po_Teller : W.plainOver K C_Teller = true)
   (sa_Teller : W.findIn K (.ref C_Teller) "__setattr__" = some (some (.builtin "object.__setattr__")))
   (mk_Teller : W.makesIn K C_Teller = true)
   (kc_Teller : W.keepIn K (.ref C_Teller) = true)
   (n_Teller_keep : W.findIn K (.ref C_Teller) "keep" = some none)
   (n_Teller_turn : W.findIn K (.ref C_Teller) "turn" = some none)
   (n_Teller_total : W.findIn K (.ref C_Teller) "total" = some none)
   (n_Teller_stored : W.findIn K (.ref C_Teller) "stored" = some none)
   (n_Teller_newest : W.findIn K (.ref C_Teller) "newest" = some none)
   (aC_Road : W.nsIn K mainGlobals "Road" = some (some (.ref C_Road)))
   (pg_Road : W.plainGet K C_Road Str.empty = true)
   (hd_Road : W.hasDictIn K C_Road = true)
   (po_Road : W.plainOver K C_Road = true)
   (sa_Road : W.findIn K (.ref C_Road) "__setattr__" = some (some (.builtin "object.__setattr__")))
   (mk_Road : W.makesIn K C_Road = true)
   (kc_Road : W.keepIn K (.ref C_Road) = true)
   (n_Road_size : W.findIn K (.ref C_Road) "size" = some none)
   (n_Road_way : W.findIn K (.ref C_Road) "way" = some none)
   (n_Road_row : W.findIn K (.ref C_Road) "row" = some none)
   (n_Road_dropped : W.findIn K (.ref C_Road) "dropped" = some none)
   (n_Road_broken : W.findIn K (.ref C_Road) "broken" = some none)
   (aC_Hearer : W.nsIn K mainGlobals "Hearer" = some (some (.ref C_Hearer)))
   (pg_Hearer : W.plainGet K C_Hearer Str.empty = true)
   (hd_Hearer : W.hasDictIn K C_Hearer = true)
   (po_Hearer : W.plainOver K C_Hearer = true)
   (sa_Hearer : W.findIn K (.ref C_Hearer) "__setattr__" = some (some (.builtin "object.__setattr__")))
   (mk_Hearer : W.makesIn K C_Hearer = true)
   (kc_Hearer : W.keepIn K (.ref C_Hearer) = true)
   (n_Hearer_next_number : W.findIn K (.ref C_Hearer) "next_number" = some none)
   (n_Hearer_past : W.findIn K (.ref C_Hearer) "past" = some none)
   (n_Hearer_held : W.findIn K (.ref C_Hearer) "held" = some none)
   (n_Hearer_known : W.findIn K (.ref C_Hearer) "known" = some none)
   (n_Hearer_given_up : W.findIn K (.ref C_Hearer) "given_up" = some none)
   (a0 : W.nsIn K mainGlobals "number_of" = some (some (.ref f0)))
   (l0 : K.lookup f0 = some ⟨oc0, od0, .func (W.fnOf "number_of" "number_of" (qy Uq) (qD Uq) (qZ Uq) .none kV0 dc0 pm0 an0 cd0 ct0), sl0⟩)
   (c0 : W.codeIn K cd0 "number_of" = true)
   (k0 : W.keepIn K (.ref f0) = true)
   (a1 : W.nsIn K mainGlobals "topic_of" = some (some (.ref f1)))
   (l1 : K.lookup f1 = some ⟨oc1, od1, .func (W.fnOf "topic_of" "topic_of" (qy JY) (qD JY) (qZ JY) .none kV1 dc1 pm1 an1 cd1 ct1), sl1⟩)
   (c1 : W.codeIn K cd1 "topic_of" = true)
   (k1 : W.keepIn K (.ref f1) = true)
   (a2 : W.nsIn K mainGlobals "of_topics" = some (some (.ref f2)))
   (l2 : K.lookup f2 = some ⟨oc2, od2, .func (W.fnOf "of_topics" "of_topics" (qy ZG) (qD ZG) (qZ ZG) .none kV2 dc2 pm2 an2 cd2 ct2), sl2⟩)
   (c2 : W.codeIn K cd2 "of_topics" = true)
   (k2 : W.keepIn K (.ref f2) = true)
   (a3 : W.nsIn K mainGlobals "with_greater_numbers" = some (some (.ref f3)))
   (l3 : K.lookup f3 = some ⟨oc3, od3, .func (W.fnOf "with_greater_numbers" "with_greater_numbers" (qy vM) (qD vM) (qZ vM) .none kV3 dc3 pm3 an3 cd3 ct3), sl3⟩)
   (c3 : W.codeIn K cd3 "with_greater_numbers" = true)
   (k3 : W.keepIn K (.ref f3) = true)
   (a4 : W.findIn K (.ref C_Teller) "__init__" = some (some (.ref f4)))
   (i4 : W.isFn K (.ref f4) = true)
   (l4 : K.lookup f4 = some ⟨oc4, od4, .func (W.fnOf "__init__" "Teller.__init__" (qy zw) (qD zw) (qZ zw) .none kV4 dc4 pm4 an4 cd4 ct4), sl4⟩)
   (c4 : W.codeIn K cd4 "Teller.__init__" = true)
   (k4 : W.keepIn K (.ref f4) = true)
   (a5 : W.findIn K (.ref C_Teller) "tell" = some (some (.ref f5)))
   (i5 : W.isFn K (.ref f5) = true)
   (l5 : K.lookup f5 = some ⟨oc5, od5, .func (W.fnOf "tell" "Teller.tell" (qy ZJ) (qD ZJ) (qZ ZJ) .none kV5 dc5 pm5 an5 cd5 ct5), sl5⟩)
   (c5 : W.codeIn K cd5 "Teller.tell" = true)
   (k5 : W.keepIn K (.ref f5) = true)
   (a6 : W.findIn K (.ref C_Teller) "told" = some (some (.ref f6)))
   (i6 : W.isFn K (.ref f6) = true)
   (l6 : K.lookup f6 = some ⟨oc6, od6, .func (W.fnOf "told" "Teller.told" (qy ZZ) (qD ZZ) (qZ ZZ) .none kV6 dc6 pm6 an6 cd6 ct6), sl6⟩)
   (c6 : W.codeIn K cd6 "Teller.told" = true)
   (k6 : W.keepIn K (.ref f6) = true)
   (a7 : W.findIn K (.ref C_Teller) "oldest" = some (some (.ref f7)))
   (i7 : W.isFn K (.ref f7) = true)
   (l7 : K.lookup f7 = some ⟨oc7, od7, .func (W.fnOf "oldest" "Teller.oldest" (qy QG) (qD QG) (qZ QG) .none kV7 dc7 pm7 an7 cd7 ct7), sl7⟩)
   (c7 : W.codeIn K cd7 "Teller.oldest" = true)
   (k7 : W.keepIn K (.ref f7) = true)
   (a8 : W.findIn K (.ref C_Teller) "behind" = some (some (.ref f8)))
   (i8 : W.isFn K (.ref f8) = true)
   (l8 : K.lookup f8 = some ⟨oc8, od8, .func (W.fnOf "behind" "Teller.behind" (qy QD) (qD QD) (qZ QD) .none kV8 dc8 pm8 an8 cd8 ct8), sl8⟩)
   (c8 : W.codeIn K cd8 "Teller.behind" = true)
   (k8 : W.keepIn K (.ref f8) = true)
   (a9 : W.findIn K (.ref C_Road) "__init__" = some (some (.ref f9)))
   (i9 : W.isFn K (.ref f9) = true)
   (l9 : K.lookup f9 = some ⟨oc9, od9, .func (W.fnOf "__init__" "Road.__init__" (qy Qq) (qD Qq) (qZ Qq) .none kV9 dc9 pm9 an9 cd9 ct9), sl9⟩)
   (c9 : W.codeIn K cd9 "Road.__init__" = true)
   (k9 : W.keepIn K (.ref f9) = true)
   (a10 : W.findIn K (.ref C_Road) "leave_out" = some (some (.ref f10)))
   (i10 : W.isFn K (.ref f10) = true)
   (l10 : K.lookup f10 = some ⟨oc10, od10, .func (W.fnOf "leave_out" "Road.leave_out" (qy zG) (qD zG) (qZ zG) .none kV10 dc10 pm10 an10 cd10 ct10), sl10⟩)
   (c10 : W.codeIn K cd10 "Road.leave_out" = true)
   (k10 : W.keepIn K (.ref f10) = true)
   (a11 : W.findIn K (.ref C_Road) "put_without_room" = some (some (.ref f11)))
   (i11 : W.isFn K (.ref f11) = true)
   (l11 : K.lookup f11 = some ⟨oc11, od11, .func (W.fnOf "put_without_room" "Road.put_without_room" (qy vD) (qD vD) (qZ vD) .none kV11 dc11 pm11 an11 cd11 ct11), sl11⟩)
   (c11 : W.codeIn K cd11 "Road.put_without_room" = true)
   (k11 : W.keepIn K (.ref f11) = true)
   (a12 : W.findIn K (.ref C_Road) "put" = some (some (.ref f12)))
   (i12 : W.isFn K (.ref f12) = true)
   (l12 : K.lookup f12 = some ⟨oc12, od12, .func (W.fnOf "put" "Road.put" (qy JJ) (qD JJ) (qZ JJ) .none kV12 dc12 pm12 an12 cd12 ct12), sl12⟩)
   (c12 : W.codeIn K cd12 "Road.put" = true)
   (k12 : W.keepIn K (.ref f12) = true)
   (a13 : W.findIn K (.ref C_Road) "take" = some (some (.ref f13)))
   (i13 : W.isFn K (.ref f13) = true)
   (l13 : K.lookup f13 = some ⟨oc13, od13, .func (W.fnOf "take" "Road.take" (qy MY) (qD MY) (qZ MY) .none kV13 dc13 pm13 an13 cd13 ct13), sl13⟩)
   (c13 : W.codeIn K cd13 "Road.take" = true)
   (k13 : W.keepIn K (.ref f13) = true)
   (a14 : W.findIn K (.ref C_Road) "waiting" = some (some (.ref f14)))
   (i14 : W.isFn K (.ref f14) = true)
   (l14 : K.lookup f14 = some ⟨oc14, od14, .func (W.fnOf "waiting" "Road.waiting" (qy YY) (qD YY) (qZ YY) .none kV14 dc14 pm14 an14 cd14 ct14), sl14⟩)
   (c14 : W.codeIn K cd14 "Road.waiting" = true)
   (k14 : W.keepIn K (.ref f14) = true)
   (a15 : W.findIn K (.ref C_Road) "mend" = some (some (.ref f15)))
   (i15 : W.isFn K (.ref f15) = true)
   (l15 : K.lookup f15 = some ⟨oc15, od15, .func (W.fnOf "mend" "Road.mend" (qy MZ) (qD MZ) (qZ MZ) .none kV15 dc15 pm15 an15 cd15 ct15), sl15⟩)
   (c15 : W.codeIn K cd15 "Road.mend" = true)
   (k15 : W.keepIn K (.ref f15) = true)
   (a16 : W.findIn K (.ref C_Hearer) "__init__" = some (some (.ref f16)))
   (i16 : W.isFn K (.ref f16) = true)
   (l16 : K.lookup f16 = some ⟨oc16, od16, .func (W.fnOf "__init__" "Hearer.__init__" (qy QZ) (qD QZ) (qZ QZ) .none kV16 dc16 pm16 an16 cd16 ct16), sl16⟩)
   (c16 : W.codeIn K cd16 "Hearer.__init__" = true)
   (k16 : W.keepIn K (.ref f16) = true)
   (a17 : W.findIn K (.ref C_Hearer) "expects" = some (some (.ref f17)))
   (i17 : W.isFn K (.ref f17) = true)
   (l17 : K.lookup f17 = some ⟨oc17, od17, .func (W.fnOf "expects" "Hearer.expects" (qy QV) (qD QV) (qZ QV) .none kV17 dc17 pm17 an17 cd17 ct17), sl17⟩)
   (c17 : W.codeIn K cd17 "Hearer.expects" = true)
   (k17 : W.keepIn K (.ref f17) = true)
   (a18 : W.findIn K (.ref C_Hearer) "hear_held" = some (some (.ref f18)))
   (i18 : W.isFn K (.ref f18) = true)
   (l18 : K.lookup f18 = some ⟨oc18, od18, .func (W.fnOf "hear_held" "Hearer.hear_held" (qy zD) (qD zD) (qZ zD) .none kV18 dc18 pm18 an18 cd18 ct18), sl18⟩)
   (c18 : W.codeIn K cd18 "Hearer.hear_held" = true)
   (k18 : W.keepIn K (.ref f18) = true)
   (a19 : W.findIn K (.ref C_Hearer) "refuse_others" = some (some (.ref f19)))
   (i19 : W.isFn K (.ref f19) = true)
   (l19 : K.lookup f19 = some ⟨oc19, od19, .func (W.fnOf "refuse_others" "Hearer.refuse_others" (qy vy) (qD vy) (qZ vy) .none kV19 dc19 pm19 an19 cd19 ct19), sl19⟩)
   (c19 : W.codeIn K cd19 "Hearer.refuse_others" = true)
   (k19 : W.keepIn K (.ref f19) = true)
   (a20 : W.findIn K (.ref C_Hearer) "take_all" = some (some (.ref f20)))
   (i20 : W.isFn K (.ref f20) = true)
   (l20 : K.lookup f20 = some ⟨oc20, od20, .func (W.fnOf "take_all" "Hearer.take_all" (qy QY) (qD QY) (qZ QY) .none kV20 dc20 pm20 an20 cd20 ct20), sl20⟩)
   (c20 : W.codeIn K cd20 "Hearer.take_all" = true)
   (k20 : W.keepIn K (.ref f20) = true)
   (a21 : W.findIn K (.ref C_Hearer) "heard" = some (some (.ref f21)))
   (i21 : W.isFn K (.ref f21) = true)
   (l21 : K.lookup f21 = some ⟨oc21, od21, .func (W.fnOf "heard" "Hearer.heard" (qy YZ) (qD YZ) (qZ YZ) .none kV21 dc21 pm21 an21 cd21 ct21), sl21⟩)
   (c21 : W.codeIn K cd21 "Hearer.heard" = true)
   (k21 : W.keepIn K (.ref f21) = true)
   (a22 : W.findIn K (.ref C_Hearer) "lost" = some (some (.ref f22)))
   (i22 : W.isFn K (.ref f22) = true)
   (l22 : K.lookup f22 = some ⟨oc22, od22, .func (W.fnOf "lost" "Hearer.lost" (qy ZU) (qD ZU) (qZ ZU) .none kV22 dc22 pm22 an22 cd22 ct22), sl22⟩)
   (c22 : W.codeIn K cd22 "Hearer.lost" = true)
   (k22 : W.keepIn K (.ref f22) = true)
   (a23 : W.findIn K (.ref C_Hearer) "give_up" = some (some (.ref f23)))
   (i23 : W.isFn K (.ref f23) = true)
   (l23 : K.lookup f23 = some ⟨oc23, od23, .func (W.fnOf "give_up" "Hearer.give_up" (qy QU) (qD QU) (qZ QU) .none kV23 dc23 pm23 an23 cd23 ct23), sl23⟩)
   (c23 : W.codeIn K cd23 "Hearer.give_up" = true)
   (k23 : W.keepIn K (.ref f23) = true)
   (a24 : W.nsIn K mainGlobals "caught_up" = some (some (.ref f24)))
   (l24 : K.lookup f24 = some ⟨oc24, od24, .func (W.fnOf "caught_up" "caught_up" (qy MQ) (qD MQ) (qZ MQ) .none kV24 dc24 pm24 an24 cd24 ct24), sl24⟩)
   (c24 : W.codeIn K cd24 "caught_up" = true)
   (k24 : W.keepIn K (.ref f24) = true)
   (a25 : W.findIn K (.ref C_Fan) "__init__" = some (some (.ref f25)))
   (i25 : W.isFn K (.ref f25) = true)
   (l25 : K.lookup f25 = some ⟨oc25, od25, .func (W.fnOf "__init__" "Fan.__init__" (qy YU) (qD YU) (qZ YU) .none kV25 dc25 pm25 an25 cd25 ct25), sl25⟩)
   (c25 : W.codeIn K cd25 "Fan.__init__" = true)
   (k25 : W.keepIn K (.ref f25) = true)
   (a26 : W.findIn K (.ref C_Fan) "lay" = some (some (.ref f26)))
   (i26 : W.isFn K (.ref f26) = true)
   (l26 : K.lookup f26 = some ⟨oc26, od26, .func (W.fnOf "lay" "Fan.lay" (qy qQJ) (qD qQJ) (qZ qQJ) .none kV26 dc26 pm26 an26 cd26 ct26), sl26⟩)
   (c26 : W.codeIn K cd26 "Fan.lay" = true)
   (k26 : W.keepIn K (.ref f26) = true)
   (a27 : W.findIn K (.ref C_Fan) "refuse_unknown" = some (some (.ref f27)))
   (i27 : W.isFn K (.ref f27) = true)
   (l27 : K.lookup f27 = some ⟨oc27, od27, .func (W.fnOf "refuse_unknown" "Fan.refuse_unknown" (qy zQ) (qD zQ) (qZ zQ) .none kV27 dc27 pm27 an27 cd27 ct27), sl27⟩)
   (c27 : W.codeIn K cd27 "Fan.refuse_unknown" = true)
   (k27 : W.keepIn K (.ref f27) = true)
   (a28 : W.findIn K (.ref C_Fan) "road_of" = some (some (.ref f28)))
   (i28 : W.isFn K (.ref f28) = true)
   (l28 : K.lookup f28 = some ⟨oc28, od28, .func (W.fnOf "road_of" "Fan.road_of" (qy ZM) (qD ZM) (qZ ZM) .none kV28 dc28 pm28 an28 cd28 ct28), sl28⟩)
   (c28 : W.codeIn K cd28 "Fan.road_of" = true)
   (k28 : W.keepIn K (.ref f28) = true)
   (a29 : W.findIn K (.ref C_Fan) "hearer_of" = some (some (.ref f29)))
   (i29 : W.isFn K (.ref f29) = true)
   (l29 : K.lookup f29 = some ⟨oc29, od29, .func (W.fnOf "hearer_of" "Fan.hearer_of" (qy Qy) (qD Qy) (qZ Qy) .none kV29 dc29 pm29 an29 cd29 ct29), sl29⟩)
   (c29 : W.codeIn K cd29 "Fan.hearer_of" = true)
   (k29 : W.keepIn K (.ref f29) = true)
   (a30 : W.findIn K (.ref C_Fan) "names" = some (some (.ref f30)))
   (i30 : W.isFn K (.ref f30) = true)
   (l30 : K.lookup f30 = some ⟨oc30, od30, .func (W.fnOf "names" "Fan.names" (qy MJ) (qD MJ) (qZ MJ) .none kV30 dc30 pm30 an30 cd30 ct30), sl30⟩)
   (c30 : W.codeIn K cd30 "Fan.names" = true)
   (k30 : W.keepIn K (.ref f30) = true)
   (a31 : W.findIn K (.ref C_Fan) "tell" = some (some (.ref f31)))
   (i31 : W.isFn K (.ref f31) = true)
   (l31 : K.lookup f31 = some ⟨oc31, od31, .func (W.fnOf "tell" "Fan.tell" (qy JU) (qD JU) (qZ JU) .none kV31 dc31 pm31 an31 cd31 ct31), sl31⟩)
   (c31 : W.codeIn K cd31 "Fan.tell" = true)
   (k31 : W.keepIn K (.ref f31) = true)
   (a32 : W.findIn K (.ref C_Fan) "carry" = some (some (.ref f32)))
   (i32 : W.isFn K (.ref f32) = true)
   (l32 : K.lookup f32 = some ⟨oc32, od32, .func (W.fnOf "carry" "Fan.carry" (qy MM) (qD MM) (qZ MM) .none kV32 dc32 pm32 an32 cd32 ct32), sl32⟩)
   (c32 : W.codeIn K cd32 "Fan.carry" = true)
   (k32 : W.keepIn K (.ref f32) = true)
   (a33 : W.findIn K (.ref C_Fan) "catch_up" = some (some (.ref f33)))
   (i33 : W.isFn K (.ref f33) = true)
   (l33 : K.lookup f33 = some ⟨oc33, od33, .func (W.fnOf "catch_up" "Fan.catch_up" (qy YJ) (qD YJ) (qZ YJ) .none kV33 dc33 pm33 an33 cd33 ct33), sl33⟩)
   (c33 : W.codeIn K cd33 "Fan.catch_up" = true)
   (k33 : W.keepIn K (.ref f33) = true)
   (a34 : W.findIn K (.ref C_Fan) "heard" = some (some (.ref f34)))
   (i34 : W.isFn K (.ref f34) = true)
   (l34 : K.lookup f34 = some ⟨oc34, od34, .func (W.fnOf "heard" "Fan.heard" (qy MU) (qD MU) (qZ MU) .none kV34 dc34 pm34 an34 cd34 ct34), sl34⟩)
   (c34 : W.codeIn K cd34 "Fan.heard" = true)
   (k34 : W.keepIn K (.ref f34) = true)
   (a35 : W.findIn K (.ref C_Fan) "lost" = some (some (.ref f35)))
   (i35 : W.isFn K (.ref f35) = true)
   (l35 : K.lookup f35 = some ⟨oc35, od35, .func (W.fnOf "lost" "Fan.lost" (qy JV) (qD JV) (qZ JV) .none kV35 dc35 pm35 an35 cd35 ct35), sl35⟩)
   (c35 : W.codeIn K cd35 "Fan.lost" = true)
   (k35 : W.keepIn K (.ref f35) = true)
   (a36 : W.findIn K (.ref C_Fan) "waiting" = some (some (.ref f36)))
   (i36 : W.isFn K (.ref f36) = true)
   (l36 : K.lookup f36 = some ⟨oc36, od36, .func (W.fnOf "waiting" "Fan.waiting" (qy ZV) (qD ZV) (qZ ZV) .none kV36 dc36 pm36 an36 cd36 ct36), sl36⟩)
   (c36 : W.codeIn K cd36 "Fan.waiting" = true)
   (k36 : W.keepIn K (.ref f36) = true)
   (a37 : W.findIn K (.ref C_Fan) "lag" = some (some (.ref f37)))
   (i37 : W.isFn K (.ref f37) = true)
   (l37 : K.lookup f37 = some ⟨oc37, od37, .func (W.fnOf "lag" "Fan.lag" (qy qYQ) (qD qYQ) (qZ qYQ) .none kV37 dc37 pm37 an37 cd37 ct37), sl37⟩)
   (c37 : W.codeIn K cd37 "Fan.lag" = true)
   (k37 : W.keepIn K (.ref f37) = true)
   (a38 : W.findIn K (.ref C_Fan) "close" = some (some (.ref f38)))
   (i38 : W.isFn K (.ref f38) = true)
   (l38 : K.lookup f38 = some ⟨oc38, od38, .func (W.fnOf "close" "Fan.close" (qy MV) (qD MV) (qZ MV) .none kV38 dc38 pm38 an38 cd38 ct38), sl38⟩)
   (c38 : W.codeIn K cd38 "Fan.close" = true)
   (k38 : W.keepIn K (.ref f38) = true)
   (a39 : W.findIn K (.ref C_Fan) "slowest" = some (some (.ref f39)))
   (i39 : W.isFn K (.ref f39) = true)
   (l39 : K.lookup f39 = some ⟨oc39, od39, .func (W.fnOf "slowest" "Fan.slowest" (qy QJ) (qD QJ) (qZ QJ) .none kV39 dc39 pm39 an39 cd39 ct39), sl39⟩)
   (c39 : W.codeIn K cd39 "Fan.slowest" = true)
   (k39 : W.keepIn K (.ref f39) = true)
   (a40 : W.nsIn K mainGlobals "_law_cell" = some (some (.ref f40)))
   (l40 : K.lookup f40 = some ⟨oc40, od40, .func (W.fnOf "_law_cell" "_law_cell" (qy yQY) (qD yQY) (qZ yQY) .none kV40 dc40 pm40 an40 cd40 ct40), sl40⟩)
   (c40 : W.codeIn K cd40 "_law_cell" = true)
   (k40 : W.keepIn K (.ref f40) = true)
   (a41 : W.nsIn K mainGlobals "_law_drawn" = some (some (.ref f41)))
   (l41 : K.lookup f41 = some ⟨oc41, od41, .func (W.fnOf "_law_drawn" "_law_drawn" (qy qQZ) (qD qQZ) (qZ qQZ) .none kV41 dc41 pm41 an41 cd41 ct41), sl41⟩)
   (c41 : W.codeIn K cd41 "_law_drawn" = true)
   (k41 : W.keepIn K (.ref f41) = true)
   (a42 : W.nsIn K mainGlobals "_law_hearer" = some (some (.ref f42)))
   (l42 : K.lookup f42 = some ⟨oc42, od42, .func (W.fnOf "_law_hearer" "_law_hearer" (qy JZ) (qD JZ) (qZ JZ) .none kV42 dc42 pm42 an42 cd42 ct42), sl42⟩)
   (c42 : W.codeIn K cd42 "_law_hearer" = true)
   (k42 : W.keepIn K (.ref f42) = true)
   (a43 : W.nsIn K mainGlobals "_law_expects" = some (some (.ref f43)))
   (l43 : K.lookup f43 = some ⟨oc43, od43, .func (W.fnOf "_law_expects" "_law_expects" (qy Uz) (qD Uz) (qZ Uz) .none kV43 dc43 pm43 an43 cd43 ct43), sl43⟩)
   (c43 : W.codeIn K cd43 "_law_expects" = true)
   (k43 : W.keepIn K (.ref f43) = true)
   (a44 : W.nsIn K mainGlobals "_law_goes_on" = some (some (.ref f44)))
   (l44 : K.lookup f44 = some ⟨oc44, od44, .func (W.fnOf "_law_goes_on" "_law_goes_on" (qy Uv) (qD Uv) (qZ Uv) .none kV44 dc44 pm44 an44 cd44 ct44), sl44⟩)
   (c44 : W.codeIn K cd44 "_law_goes_on" = true)
   (k44 : W.keepIn K (.ref f44) = true)
   (a45 : W.nsIn K mainGlobals "_law_takes" = some (some (.ref f45)))
   (l45 : K.lookup f45 = some ⟨oc45, od45, .func (W.fnOf "_law_takes" "_law_takes" (qy qQY) (qD qQY) (qZ qQY) .none kV45 dc45 pm45 an45 cd45 ct45), sl45⟩)
   (c45 : W.codeIn K cd45 "_law_takes" = true)
   (k45 : W.keepIn K (.ref f45) = true)
   (a46 : W.nsIn K mainGlobals "_law_gives_up" = some (some (.ref f46)))
   (l46 : K.lookup f46 = some ⟨oc46, od46, .func (W.fnOf "_law_gives_up" "_law_gives_up" (qy Zw) (qD Zw) (qZ Zw) .none kV46 dc46 pm46 an46 cd46 ct46), sl46⟩)
   (c46 : W.codeIn K cd46 "_law_gives_up" = true)
   (k46 : W.keepIn K (.ref f46) = true)
   (a47 : W.nsIn K mainGlobals "_law_refused" = some (some (.ref f47)))
   (l47 : K.lookup f47 = some ⟨oc47, od47, .func (W.fnOf "_law_refused" "_law_refused" (qy Uy) (qD Uy) (qZ Uy) .none kV47 dc47 pm47 an47 cd47 ct47), sl47⟩)
   (c47 : W.codeIn K cd47 "_law_refused" = true)
   (k47 : W.keepIn K (.ref f47) = true)
   (a48 : W.nsIn K mainGlobals "_law_told" = some (some (.ref f48)))
   (l48 : K.lookup f48 = some ⟨oc48, od48, .func (W.fnOf "_law_told" "_law_told" (qy qVZ) (qD qVZ) (qZ qVZ) .none kV48 dc48 pm48 an48 cd48 ct48), sl48⟩)
   (c48 : W.codeIn K cd48 "_law_told" = true)
   (k48 : W.keepIn K (.ref f48) = true)
   (a49 : W.nsIn K mainGlobals "_law_puts" = some (some (.ref f49)))
   (l49 : K.lookup f49 = some ⟨oc49, od49, .func (W.fnOf "_law_puts" "_law_puts" (qy qVJ) (qD qVJ) (qZ qVJ) .none kV49 dc49 pm49 an49 cd49 ct49), sl49⟩)
   (c49 : W.codeIn K cd49 "_law_puts" = true)
   (k49 : W.keepIn K (.ref f49) = true)
   (a50 : W.nsIn K mainGlobals "_law_catches" = some (some (.ref f50)))
   (l50 : K.lookup f50 = some ⟨oc50, od50, .func (W.fnOf "_law_catches" "_law_catches" (qy Uw) (qD Uw) (qZ Uw) .none kV50 dc50 pm50 an50 cd50 ct50), sl50⟩)
   (c50 : W.codeIn K cd50 "_law_catches" = true)
   (k50 : W.keepIn K (.ref f50) = true)
   (a51 : W.nsIn K mainGlobals "_law_does" = some (some (.ref f51)))
   (l51 : K.lookup f51 = some ⟨oc51, od51, .func (W.fnOf "_law_does" "_law_does" (qy yQQ) (qD yQQ) (qZ yQQ) .none kV51 dc51 pm51 an51 cd51 ct51), sl51⟩)
   (c51 : W.codeIn K cd51 "_law_does" = true)
   (k51 : W.keepIn K (.ref f51) = true)
   (a52 : W.nsIn K mainGlobals "_law_stands" = some (some (.ref f52)))
   (l52 : K.lookup f52 = some ⟨oc52, od52, .func (W.fnOf "_law_stands" "_law_stands" (qy UD) (qD UD) (qZ UD) .none kV52 dc52 pm52 an52 cd52 ct52), sl52⟩)
   (c52 : W.codeIn K cd52 "_law_stands" = true)
   (k52 : W.keepIn K (.ref f52) = true)
   (a53 : W.nsIn K mainGlobals "_law_known_one" = some (some (.ref f53)))
   (l53 : K.lookup f53 = some ⟨oc53, od53, .func (W.fnOf "_law_known_one" "_law_known_one" (qy ZY) (qD ZY) (qZ ZY) .none kV53 dc53 pm53 an53 cd53 ct53), sl53⟩)
   (c53 : W.codeIn K cd53 "_law_known_one" = true)
   (k53 : W.keepIn K (.ref f53) = true)
   (a54 : W.nsIn K mainGlobals "_law_of_drawn" = some (some (.ref f54)))
   (l54 : K.lookup f54 = some ⟨oc54, od54, .func (W.fnOf "_law_of_drawn" "_law_of_drawn" (qy Yy) (qD Yy) (qZ Yy) .none kV54 dc54 pm54 an54 cd54 ct54), sl54⟩)
   (c54 : W.codeIn K cd54 "_law_of_drawn" = true)
   (k54 : W.keepIn K (.ref f54) = true)
   (a55 : W.nsIn K mainGlobals "law" = some (some (.ref f55)))
   (l55 : K.lookup f55 = some ⟨oc55, od55, .func (W.fnOf "law" "law" (qy QYZ) (qD QYZ) (qZ QYZ) .none kV55 dc55 pm55 an55 cd55 ct55), sl55⟩)
   (c55 : W.codeIn K cd55 "law" = true)
   (k55 : W.keepIn K (.ref f55) = true)
   (z0 : W.nsIn K mainGlobals "len" = some none)
   (z1 : W.nsIn K mainGlobals "range" = some none)
   (z2 : W.nsIn K mainGlobals "list" = some none)
   (z3 : W.nsIn K mainGlobals "max" = some none)
   (z4 : W.nsIn K mainGlobals "sorted" = some none)
   (z5 : W.nsIn K mainGlobals "min" = some none)
   (z6 : W.nsIn K mainGlobals "dict" = some none)
   (z7 : W.nsIn K mainGlobals "isinstance" = some none)
   (z8 : W.nsIn K mainGlobals "ValueError" = some none)
   : ∃ fd : FuncData, (∀ (s : Shared) (v : Value), BindsTo s fd ⟨[v], []⟩ [("_law_script", v)]) ∧ ∀ base : Heap, K.In base → base.Ns mainGlobals mg → FnOk l.prog w K mg base CX0 8 fa fd ["_law_script"] (spLaw K) := by
 have e := hfa.symm.trans (W.mg_of X G a55)
 cases e
 have T : Txt mg := { b_len := W.mg_none_of X G z0, b_range := W.mg_none_of X G z1, b_list := W.mg_none_of X G z2, b_max := W.mg_none_of X G z3, b_sorted := W.mg_none_of X G z4, b_min := W.mg_none_of X G z5, b_dict := W.mg_none_of X G z6, b_isinstance := W.mg_none_of X G z7, b_ValueError := W.mg_none_of X G z8 }
 have R_Fan : FanC K mg C_Fan := { cl_Fan := ⟨pg_Fan, hd_Fan, po_Fan, sa_Fan⟩, mg_Fan := W.mg_of X G aC_Fan, n_teller := n_Fan_teller, n_roads := n_Fan_roads, n_hearers := n_Fan_hearers }
 have R_Teller : TellerC K mg C_Teller := { cl_Teller := ⟨pg_Teller, hd_Teller, po_Teller, sa_Teller⟩, mg_Teller := W.mg_of X G aC_Teller, n_keep := n_Teller_keep, n_turn := n_Teller_turn, n_total := n_Teller_total, n_stored := n_Teller_stored, n_newest := n_Teller_newest }
 have R_Road : RoadC K mg C_Road := { cl_Road := ⟨pg_Road, hd_Road, po_Road, sa_Road⟩, mg_Road := W.mg_of X G aC_Road, n_size := n_Road_size, n_way := n_Road_way, n_row := n_Road_row, n_dropped := n_Road_dropped, n_broken := n_Road_broken }
 have R_Hearer : HearK K mg C_Hearer := { cl_Hearer := ⟨pg_Hearer, hd_Hearer, po_Hearer, sa_Hearer⟩, mg_Hearer := W.mg_of X G aC_Hearer, n_next_number := n_Hearer_next_number, n_past := n_Hearer_past, n_held := n_Hearer_held, n_known := n_Hearer_known, n_given_up := n_Hearer_given_up }
 have TC : TxtF K mg C_Fan C_Teller C_Road C_Hearer := ⟨R_Fan, R_Teller, R_Road, R_Hearer⟩
 have TX : TxtX K mg XT XN XR XK XO := { a_TellError := W.mg_of X G aX_TellError, a_NoNumber := W.mg_of X G aX_NoNumber, a_NoRoad := W.mg_of X G aX_NoRoad, a_Taken := W.mg_of X G aX_Taken, a_Other := W.mg_of X G aX_Other, zR := ⟨xga_zR, xcl_zR, xno_zR, xob_zR, xbe_zR, xhd_zR⟩, zK := ⟨xga_zK, xcl_zK, xno_zK, xob_zK, xbe_zK, xhd_zK⟩, rN := x_rN, rR := x_rR, rK := x_rK, rO := x_rO, rV := x_rV, rm := x_rm, kN := x_kN, kR := x_kR, kK := x_kK, kO := x_kO, kV := x_kV, km := x_km }
 have xc_NoRoad : Exc K mg "NoRoad" XR := ⟨W.mg_of X G aX_NoRoad, xe_NoRoad⟩
 have xc_Taken : Exc K mg "Taken" XK := ⟨W.mg_of X G aX_Taken, xe_Taken⟩
 have F0 := yZ (st := Uq) l0 c0 k0
 have b0 := F0.binds (ps := ["message"]) fun _ _ _ _ _ _ us hl => match us, hl with | [_], _ => rfl
 have F1 := yZ (st := JY) l1 c1 k1
 have b1 := F1.binds (ps := ["message"]) fun _ _ _ _ _ _ us hl => match us, hl with | [_], _ => rfl
 have F2 := yZ (st := ZG) l2 c2 k2
 have b2 := F2.binds (ps := ["messages", "topics"]) fun _ _ _ _ _ _ us hl => match us, hl with | [_, _], _ => rfl
 have F3 := yZ (st := vM) l3 c3 k3
 have b3 := F3.binds (ps := ["messages", "number"]) fun _ _ _ _ _ _ us hl => match us, hl with | [_, _], _ => rfl
 have F4 := yZ (st := zw) l4 c4 k4
 have b4 := F4.binds (ps := ["self", "keep"]) fun _ _ _ _ _ _ us hl => match us, hl with | [_, _], _ => rfl
 have F5 := yZ (st := ZJ) l5 c5 k5
 have b5 := F5.binds (ps := ["self", "topic", "text"]) fun _ _ _ _ _ _ us hl => match us, hl with | [_, _, _], _ => rfl
 have F6 := yZ (st := ZZ) l6 c6 k6
 have b6 := F6.binds (ps := ["self"]) fun _ _ _ _ _ _ us hl => match us, hl with | [_], _ => rfl
 have F7 := yZ (st := QG) l7 c7 k7
 have b7 := F7.binds (ps := ["self"]) fun _ _ _ _ _ _ us hl => match us, hl with | [_], _ => rfl
 have F8 := yZ (st := QD) l8 c8 k8
 have b8 := F8.binds (ps := ["self", "number", "topics"]) fun _ _ _ _ _ _ us hl => match us, hl with | [_, _, _], _ => rfl
 have F9 := yZ (st := Qq) l9 c9 k9
 have b9 := F9.binds (ps := ["self", "size", "way"]) fun _ _ _ _ _ _ us hl => match us, hl with | [_, _, _], _ => rfl
 have F10 := yZ (st := zG) l10 c10 k10
 have b10 := F10.binds (ps := ["self", "messages"]) fun _ _ _ _ _ _ us hl => match us, hl with | [_, _], _ => rfl
 have F11 := yZ (st := vD) l11 c11 k11
 have b11 := F11.binds (ps := ["self", "message"]) fun _ _ _ _ _ _ us hl => match us, hl with | [_, _], _ => rfl
 have F12 := yZ (st := JJ) l12 c12 k12
 have b12 := F12.binds (ps := ["self", "message"]) fun _ _ _ _ _ _ us hl => match us, hl with | [_, _], _ => rfl
 have F13 := yZ (st := MY) l13 c13 k13
 have b13 := F13.binds (ps := ["self", "many"]) fun _ _ _ _ _ _ us hl => match us, hl with | [_, _], _ => rfl
 have F14 := yZ (st := YY) l14 c14 k14
 have b14 := F14.binds (ps := ["self"]) fun _ _ _ _ _ _ us hl => match us, hl with | [_], _ => rfl
 have F15 := yZ (st := MZ) l15 c15 k15
 have b15 := F15.binds (ps := ["self"]) fun _ _ _ _ _ _ us hl => match us, hl with | [_], _ => rfl
 have F16 := yZ (st := QZ) l16 c16 k16
 have b16 := F16.binds (ps := ["self"]) fun _ _ _ _ _ _ us hl => match us, hl with | [_], _ => rfl
 have F17 := yZ (st := QV) l17 c17 k17
 have b17 := F17.binds (ps := ["self"]) fun _ _ _ _ _ _ us hl => match us, hl with | [_], _ => rfl
 have F18 := yZ (st := zD) l18 c18 k18
 have b18 := F18.binds (ps := ["self"]) fun _ _ _ _ _ _ us hl => match us, hl with | [_], _ => rfl
 have F19 := yZ (st := vy) l19 c19 k19
 have b19 := F19.binds (ps := ["self", "messages"]) fun _ _ _ _ _ _ us hl => match us, hl with | [_, _], _ => rfl
 have F20 := yZ (st := QY) l20 c20 k20
 have b20 := F20.binds (ps := ["self", "messages"]) fun _ _ _ _ _ _ us hl => match us, hl with | [_, _], _ => rfl
 have F21 := yZ (st := YZ) l21 c21 k21
 have b21 := F21.binds (ps := ["self"]) fun _ _ _ _ _ _ us hl => match us, hl with | [_], _ => rfl
 have F22 := yZ (st := ZU) l22 c22 k22
 have b22 := F22.binds (ps := ["self"]) fun _ _ _ _ _ _ us hl => match us, hl with | [_], _ => rfl
 have F23 := yZ (st := QU) l23 c23 k23
 have b23 := F23.binds (ps := ["self", "number"]) fun _ _ _ _ _ _ us hl => match us, hl with | [_, _], _ => rfl
 have F24 := yZ (st := MQ) l24 c24 k24
 have b24 := F24.binds (ps := ["teller", "hearer"]) fun _ _ _ _ _ _ us hl => match us, hl with | [_, _], _ => rfl
 have F25 := yZ (st := YU) l25 c25 k25
 have b25 := F25.binds (ps := ["self", "keep"]) fun _ _ _ _ _ _ us hl => match us, hl with | [_, _], _ => rfl
 have F26 := yZ (st := qQJ) l26 c26 k26
 have b26 := F26.binds (ps := ["self", "name", "size", "way"]) fun _ _ _ _ _ _ us hl => match us, hl with | [_, _, _, _], _ => rfl
 have F27 := yZ (st := zQ) l27 c27 k27
 have b27 := F27.binds (ps := ["self", "name"]) fun _ _ _ _ _ _ us hl => match us, hl with | [_, _], _ => rfl
 have F28 := yZ (st := ZM) l28 c28 k28
 have b28 := F28.binds (ps := ["self", "name"]) fun _ _ _ _ _ _ us hl => match us, hl with | [_, _], _ => rfl
 have F29 := yZ (st := Qy) l29 c29 k29
 have b29 := F29.binds (ps := ["self", "name"]) fun _ _ _ _ _ _ us hl => match us, hl with | [_, _], _ => rfl
 have F30 := yZ (st := MJ) l30 c30 k30
 have b30 := F30.binds (ps := ["self"]) fun _ _ _ _ _ _ us hl => match us, hl with | [_], _ => rfl
 have F31 := yZ (st := JU) l31 c31 k31
 have b31 := F31.binds (ps := ["self", "topic", "text"]) fun _ _ _ _ _ _ us hl => match us, hl with | [_, _, _], _ => rfl
 have F32 := yZ (st := MM) l32 c32 k32
 have b32 := F32.binds (ps := ["self", "name", "many"]) fun _ _ _ _ _ _ us hl => match us, hl with | [_, _, _], _ => rfl
 have F33 := yZ (st := YJ) l33 c33 k33
 have b33 := F33.binds (ps := ["self", "name"]) fun _ _ _ _ _ _ us hl => match us, hl with | [_, _], _ => rfl
 have F34 := yZ (st := MU) l34 c34 k34
 have b34 := F34.binds (ps := ["self", "name"]) fun _ _ _ _ _ _ us hl => match us, hl with | [_, _], _ => rfl
 have F35 := yZ (st := JV) l35 c35 k35
 have b35 := F35.binds (ps := ["self", "name"]) fun _ _ _ _ _ _ us hl => match us, hl with | [_, _], _ => rfl
 have F36 := yZ (st := ZV) l36 c36 k36
 have b36 := F36.binds (ps := ["self", "name"]) fun _ _ _ _ _ _ us hl => match us, hl with | [_, _], _ => rfl
 have F37 := yZ (st := qYQ) l37 c37 k37
 have b37 := F37.binds (ps := ["self", "name"]) fun _ _ _ _ _ _ us hl => match us, hl with | [_, _], _ => rfl
 have F38 := yZ (st := MV) l38 c38 k38
 have b38 := F38.binds (ps := ["self", "name"]) fun _ _ _ _ _ _ us hl => match us, hl with | [_, _], _ => rfl
 have F39 := yZ (st := QJ) l39 c39 k39
 have b39 := F39.binds (ps := ["self"]) fun _ _ _ _ _ _ us hl => match us, hl with | [_], _ => rfl
 have F40 := yZ (st := yQY) l40 c40 k40
 have b40 := F40.binds (ps := ["_law_script", "_law_k"]) fun _ _ _ _ _ _ us hl => match us, hl with | [_, _], _ => rfl
 have F41 := yZ (st := qQZ) l41 c41 k41
 have b41 := F41.binds (ps := ["_law_script", "_law_k", "_law_many"]) fun _ _ _ _ _ _ us hl => match us, hl with | [_, _, _], _ => rfl
 have F42 := yZ (st := JZ) l42 c42 k42
 have b42 := F42.binds (ps := []) fun _ _ _ _ _ _ us hl => match us, hl with | [], _ => rfl
 have F43 := yZ (st := Uz) l43 c43 k43
 have b43 := F43.binds (ps := ["_law_mine"]) fun _ _ _ _ _ _ us hl => match us, hl with | [_], _ => rfl
 have F44 := yZ (st := Uv) l44 c44 k44
 have b44 := F44.binds (ps := ["_law_mine"]) fun _ _ _ _ _ _ us hl => match us, hl with | [_], _ => rfl
 have F45 := yZ (st := qQY) l45 c45 k45
 have b45 := F45.binds (ps := ["_law_mine", "_law_message"]) fun _ _ _ _ _ _ us hl => match us, hl with | [_, _], _ => rfl
 have F46 := yZ (st := Zw) l46 c46 k46
 have b46 := F46.binds (ps := ["_law_mine", "_law_number"]) fun _ _ _ _ _ _ us hl => match us, hl with | [_, _], _ => rfl
 have F47 := yZ (st := Uy) l47 c47 k47
 have b47 := F47.binds (ps := ["_law_e"]) fun _ _ _ _ _ _ us hl => match us, hl with | [_], _ => rfl
 have F48 := yZ (st := qVZ) l48 c48 k48
 have b48 := F48.binds (ps := ["_law_fan", "_law_way", "_law_name", "_law_many", "_law_kind"]) fun _ _ _ _ _ _ us hl => match us, hl with | [_, _, _, _, _], _ => rfl
 have F49 := yZ (st := qVJ) l49 c49 k49
 have b49 := F49.binds (ps := ["_law_road", "_law_message"]) fun _ _ _ _ _ _ us hl => match us, hl with | [_, _], _ => rfl
 have F50 := yZ (st := Uw) l50 c50 k50
 have b50 := F50.binds (ps := ["_law_mine", "_law_told_here", "_law_keep"]) fun _ _ _ _ _ _ us hl => match us, hl with | [_, _, _], _ => rfl
 have F51 := yZ (st := yQQ) l51 c51 k51
 have b51 := F51.binds (ps := ["_law_road", "_law_way", "_law_many", "_law_told_here", "_law_keep"]) fun _ _ _ _ _ _ us hl => match us, hl with | [_, _, _, _, _], _ => rfl
 have F52 := yZ (st := UD) l52 c52 k52
 have b52 := F52.binds (ps := ["_law_fan", "_law_roads", "_law_told_here"]) fun _ _ _ _ _ _ us hl => match us, hl with | [_, _, _], _ => rfl
 have F53 := yZ (st := ZY) l53 c53 k53
 have b53 := F53.binds (ps := []) fun _ _ _ _ _ _ us hl => match us, hl with | [], _ => rfl
 have F54 := yZ (st := Yy) l54 c54 k54
 have b54 := F54.binds (ps := ["_law_script"]) fun _ _ _ _ _ _ us hl => match us, hl with | [_], _ => rfl
 have F55 := yZ (st := QYZ) l55 c55 k55
 refine ⟨W.fnOf "law" "law" (qy QYZ) (qD QYZ) (qZ QYZ) .none kV55 dc55 pm55 an55 cd55 ct55, fun s v => .of_eq rfl, fun base _ _ => ?_⟩
 have C0 : Callee l.prog w K mg base 1 "number_of" ["message"] (yJQ 0) := ⟨_, _, ok_number_of F0 , W.mg_of X G a0, k0, b0⟩
 have C1 : Callee l.prog w K mg base 1 "topic_of" ["message"] (yJQ 1) := ⟨_, _, ok_topic_of F1 , W.mg_of X G a1, k1, b1⟩
 have C2 : Callee l.prog w K mg base 2 "of_topics" ["messages", "topics"] (spOfT K) := ⟨_, _, ok_of_topics F2 T C1, W.mg_of X G a2, k2, b2⟩
 have C3 : Callee l.prog w K mg base 2 "with_greater_numbers" ["messages", "number"] (spGreater) := ⟨_, _, yYQ F3 T C0, W.mg_of X G a3, k3, b3⟩
 have C4 : CalleeI l.prog w K mg base 1 C_Teller ["self", "keep"] (spInitT C_Teller) := ⟨_, _, ok_Teller_init F4 R_Teller, ⟨mk_Teller, a4, i4, kc_Teller⟩, b4⟩
 have C5 : CalleeM l.prog w K mg base 1 C_Teller "tell" ["self", "topic", "text"] (spTell C_Teller) := ⟨_, _, ok_Teller_tell F5 T R_Teller, ⟨a5, i5, k5⟩, b5⟩
 have C6 : CalleeM l.prog w K mg base 1 C_Teller "told" ["self"] (spTold C_Teller) := ⟨_, _, ok_Teller_told F6 R_Teller, ⟨a6, i6, k6⟩, b6⟩
 have C7 : CalleeM l.prog w K mg base 1 C_Teller "oldest" ["self"] (zVZ C_Teller) := ⟨_, _, ok_Teller_oldest F7 T R_Teller, ⟨a7, i7, k7⟩, b7⟩
 have C8 : CalleeM l.prog w K mg base 3 C_Teller "behind" ["self", "number", "topics"] (spBehind K C_Teller) := ⟨_, _, ok_Teller_behind F8 T R_Teller C2 C3 C7, ⟨a8, i8, k8⟩, b8⟩
 have C9 : CalleeI l.prog w K mg base 1 C_Road ["self", "size", "way"] (spInitR C_Road) := ⟨_, _, ok_Road_init F9 R_Road, ⟨mk_Road, a9, i9, kc_Road⟩, b9⟩
 have C10 : CalleeM l.prog w K mg base 2 C_Road "leave_out" ["self", "messages"] (spLeave C_Road) := ⟨_, _, ok_Road_leave_out F10 R_Road C0, ⟨a10, i10, k10⟩, b10⟩
 have C11 : CalleeM l.prog w K mg base 3 C_Road "put_without_room" ["self", "message"] (spPutW C_Road) := ⟨_, _, qUQ F11 R_Road C10, ⟨a11, i11, k11⟩, b11⟩
 have C12 : CalleeM l.prog w K mg base 4 C_Road "put" ["self", "message"] (spPut C_Road) := ⟨_, _, ok_Road_put F12 T R_Road C10 C11, ⟨a12, i12, k12⟩, b12⟩
 have C13 : CalleeM l.prog w K mg base 1 C_Road "take" ["self", "many"] (spTakeR C_Road) := ⟨_, _, ok_Road_take F13 T R_Road, ⟨a13, i13, k13⟩, b13⟩
 have C14 : CalleeM l.prog w K mg base 1 C_Road "waiting" ["self"] (spWait C_Road) := ⟨_, _, ok_Road_waiting F14 T R_Road, ⟨a14, i14, k14⟩, b14⟩
 have C15 : CalleeM l.prog w K mg base 1 C_Road "mend" ["self"] (spMend C_Road) := ⟨_, _, ok_Road_mend F15 R_Road, ⟨a15, i15, k15⟩, b15⟩
 have C16 : CalleeI l.prog w K mg base 1 C_Hearer ["self"] (spInitH C_Hearer) := ⟨_, _, ok_Hearer_init F16 R_Hearer.toHearC, ⟨mk_Hearer, a16, i16, kc_Hearer⟩, b16⟩
 have C17 : CalleeM l.prog w K mg base 1 C_Hearer "expects" ["self"] (vUZ C_Hearer) := ⟨_, _, ok_Hearer_expects F17 R_Hearer.toHearC, ⟨a17, i17, k17⟩, b17⟩
 have C18 : CalleeM l.prog w K mg base 1 C_Hearer "hear_held" ["self"] (spHear C_Hearer) := ⟨_, _, zQJ F18 R_Hearer.toHearC, ⟨a18, i18, k18⟩, b18⟩
 have C19 : CalleeM l.prog w K mg base 2 C_Hearer "refuse_others" ["self", "messages"] (zVY C_Hearer) := ⟨_, _, yYY F19 R_Hearer.toHearC C0, ⟨a19, i19, k19⟩, b19⟩
 have C20 : CalleeM l.prog w K mg base 3 C_Hearer "take_all" ["self", "messages"] (vUQ C_Hearer) := ⟨_, _, zJY F20 R_Hearer.toHearC C0 C19 C18, ⟨a20, i20, k20⟩, b20⟩
 have C21 : CalleeM l.prog w K mg base 1 C_Hearer "heard" ["self"] (spHeard C_Hearer) := ⟨_, _, ok_Hearer_heard F21 T R_Hearer.toHearC, ⟨a21, i21, k21⟩, b21⟩
 have C22 : CalleeM l.prog w K mg base 1 C_Hearer "lost" ["self"] (spLost C_Hearer) := ⟨_, _, ok_Hearer_lost F22 T R_Hearer.toHearC, ⟨a22, i22, k22⟩, b22⟩
 have C23 : CalleeM l.prog w K mg base 2 C_Hearer "give_up" ["self", "number"] (spGive C_Hearer) := ⟨_, _, ok_Hearer_give_up F23 R_Hearer.toHearC C18, ⟨a23, i23, k23⟩, b23⟩
 have C24 : Callee l.prog w K mg base 4 "caught_up" ["teller", "hearer"] (spCaughtN C_Teller C_Hearer) := ⟨_, _, ok_caught_up F24 T ⟨R_Teller, R_Hearer⟩ C8 C7 C17 C19 C22 C23 C20, W.mg_of X G a24, k24, b24⟩
 have C25 : CalleeI l.prog w K mg base 3 C_Fan ["self", "keep"] (spFInit C_Fan C_Teller C_Road C_Hearer) := ⟨_, _, ok_Fan_init F25 TC C4, ⟨mk_Fan, a25, i25, kc_Fan⟩, b25⟩
 have C26 : CalleeMX l.prog w K mg base 3 C_Fan "lay" ["self", "name", "size", "way"] (spFLayX C_Fan C_Teller C_Road C_Hearer XK) := ⟨_, _, okx_Fan_lay F26 TC xc_Taken C9 C16, ⟨a26, i26, k26⟩, b26⟩
 have C27 : CalleeMX l.prog w K mg base 1 C_Fan "refuse_unknown" ["self", "name"] (yVJ C_Fan C_Teller C_Road C_Hearer XR) := ⟨_, _, yJY F27 R_Fan xc_NoRoad, ⟨a27, i27, k27⟩, b27⟩
 have C28 : CalleeMX l.prog w K mg base 2 C_Fan "road_of" ["self", "name"] (yVZ C_Fan C_Teller C_Road C_Hearer XR) := ⟨_, _, okx_Fan_road_of F28 R_Fan C27, ⟨a28, i28, k28⟩, b28⟩
 have C29 : CalleeMX l.prog w K mg base 2 C_Fan "hearer_of" ["self", "name"] (UG C_Fan C_Teller C_Road C_Hearer XR) := ⟨_, _, okx_Fan_hearer_of F29 R_Fan C27, ⟨a29, i29, k29⟩, b29⟩
 have C30 : CalleeM l.prog w K mg base 1 C_Fan "names" ["self"] (QQY C_Fan C_Teller C_Road C_Hearer) := ⟨_, _, ok_Fan_names F30 T R_Fan, ⟨a30, i30, k30⟩, b30⟩
 have C31 : CalleeM l.prog w K mg base 5 C_Fan "tell" ["self", "topic", "text"] (QQQ C_Fan C_Teller C_Road C_Hearer) := ⟨_, _, ok_Fan_tell F31 TC C5 C12, ⟨a31, i31, k31⟩, b31⟩
 have C32 : CalleeMX l.prog w K mg base 4 C_Fan "carry" ["self", "name", "many"] (spFCarryX C_Fan C_Teller C_Road C_Hearer XR) := ⟨_, _, okx_Fan_carry F32 TC C29 C28 C20 C13, ⟨a32, i32, k32⟩, b32⟩
 have C33 : CalleeMX l.prog w K mg base 5 C_Fan "catch_up" ["self", "name"] (vUY C_Fan C_Teller C_Road C_Hearer XR) := ⟨_, _, okx_Fan_catch_up F33 TC C29 C28 C15 C24, ⟨a33, i33, k33⟩, b33⟩
 have C34 : CalleeMX l.prog w K mg base 3 C_Fan "heard" ["self", "name"] (qUJ C_Fan C_Teller C_Road C_Hearer XR) := ⟨_, _, okx_Fan_heard F34 TC C29 C21, ⟨a34, i34, k34⟩, b34⟩
 have C35 : CalleeMX l.prog w K mg base 3 C_Fan "lost" ["self", "name"] (QQZ C_Fan C_Teller C_Road C_Hearer XR) := ⟨_, _, okx_Fan_lost F35 TC C29 C22, ⟨a35, i35, k35⟩, b35⟩
 have C36 : CalleeMX l.prog w K mg base 3 C_Fan "waiting" ["self", "name"] (yVY C_Fan C_Teller C_Road C_Hearer XR) := ⟨_, _, okx_Fan_waiting F36 TC C28 C14, ⟨a36, i36, k36⟩, b36⟩
 have C37 : CalleeMX l.prog w K mg base 3 C_Fan "lag" ["self", "name"] (QQJ C_Fan C_Teller C_Road C_Hearer XR) := ⟨_, _, okx_Fan_lag F37 TC C29 C6 C17, ⟨a37, i37, k37⟩, b37⟩
 have C38 : CalleeMX l.prog w K mg base 2 C_Fan "close" ["self", "name"] (spFCloseX C_Fan C_Teller C_Road C_Hearer XR) := ⟨_, _, okx_Fan_close F38 R_Fan C27, ⟨a38, i38, k38⟩, b38⟩
 have C39 : CalleeM l.prog w K mg base 4 C_Fan "slowest" ["self"] (spFSlow C_Fan C_Teller C_Road C_Hearer) := ⟨_, _, ok_Fan_slowest F39 T TC C30 C37, ⟨a39, i39, k39⟩, b39⟩
 have C40 : Callee l.prog w K mg base 1 "_law_cell" ["_law_script", "_law_k"] (spCell K) := ⟨_, _, ok_l_cell F40 T, W.mg_of X G a40, k40, b40⟩
 have C41 : Callee l.prog w K mg base 2 "_law_drawn" ["_law_script", "_law_k", "_law_many"] (spDrawn K) := ⟨_, _, ok_l_drawn F41 T C40, W.mg_of X G a41, k41, b41⟩
 have C42 : Callee l.prog w K mg base 1 "_law_hearer" [] (spLNew) := ⟨_, _, ok_l_hearer F42 , W.mg_of X G a42, k42, b42⟩
 have C43 : Callee l.prog w K mg base 1 "_law_expects" ["_law_mine"] (yVQ) := ⟨_, _, ok_l_expects F43 T, W.mg_of X G a43, k43, b43⟩
 have C44 : Callee l.prog w K mg base 2 "_law_goes_on" ["_law_mine"] (spLGo) := ⟨_, _, ok_l_goes_on F44 T C43, W.mg_of X G a44, k44, b44⟩
 have C45 : Callee l.prog w K mg base 3 "_law_takes" ["_law_mine", "_law_message"] (zVJ) := ⟨_, _, ok_l_takes F45 T C43 C44, W.mg_of X G a45, k45, b45⟩
 have C46 : Callee l.prog w K mg base 3 "_law_gives_up" ["_law_mine", "_law_number"] (spLGiveV) := ⟨_, _, ok_l_gives_up F46 C43 C44, W.mg_of X G a46, k46, b46⟩
 have C47 : CalleeH l.prog w K mg base 1 "_law_refused" ["_law_e"] (zZQ XR XK) := ⟨_, _, ok_l_refused F47 T TX, W.mg_of X G a47, k47, b47⟩
 have C48 : Callee l.prog w K mg base 6 "_law_told" ["_law_fan", "_law_way", "_law_name", "_law_many", "_law_kind"] (spToldF C_Fan C_Teller C_Road C_Hearer) := ⟨_, _, ok_l_told F48 TC TX C47 C26 C38 C31 C32 C33 C34 C35 C36 C37, W.mg_of X G a48, k48, b48⟩
 have C49 : Callee l.prog w K mg base 1 "_law_puts" ["_law_road", "_law_message"] (spOPut) := ⟨_, _, ok_l_puts F49 T, W.mg_of X G a49, k49, b49⟩
 have C50 : Callee l.prog w K mg base 4 "_law_catches" ["_law_mine", "_law_told_here", "_law_keep"] (spOCatch) := ⟨_, _, ok_l_catches F50 T C43 C45 C46, W.mg_of X G a50, k50, b50⟩
 have C51 : Callee l.prog w K mg base 5 "_law_does" ["_law_road", "_law_way", "_law_many", "_law_told_here", "_law_keep"] (spODoes) := ⟨_, _, ok_l_does F51 T C43 C45 C50, W.mg_of X G a51, k51, b51⟩
 have C52 : Callee l.prog w K mg base 5 "_law_stands" ["_law_fan", "_law_roads", "_law_told_here"] (spStands C_Fan C_Teller C_Road C_Hearer) := ⟨_, _, ok_l_stands F52 T TC C43 C34 C35 C36 C37 C39, W.mg_of X G a52, k52, b52⟩
 have C53 : Callee l.prog w K mg base 6 "_law_known_one" [] (spOne) := ⟨_, _, ok_l_known_one F53 TC C25 C26 C31 C33 C34 C36, W.mg_of X G a53, k53, b53⟩
 have C54 : Callee l.prog w K mg base 7 "_law_of_drawn" ["_law_script"] (spLaw K) := ⟨_, _, ok_l_of_drawn F54 T TC C41 C42 C49 C51 C48 C52 C25 C30, W.mg_of X G a54, k54, b54⟩
 exact ok_law F55 C53 C54
theorem walk {l : W.OpenLaw} {q : Program} {loose : List Str} {XP : (Str → Option Value) → Heap → Prop} {YP : World → Heap → Prop} {d : DefRec} {K : Params → W.Frag} (hn : l.most = some 63) (hdf : d.params.defaults = [])
   (hY : ∀ (w : World) (h : Heap), YP w h → (K w.params).In h)
   (F : ∀ (w : World) (mg : Str → Option Value) (fa : Addr) (h : Heap), (K w.params).In h → h.Ns mainGlobals mg → mg d.name = some (.ref fa) →
     ∃ fd : FuncData, (∀ (s : Shared) (u : Value), BindsTo s fd ⟨[u], []⟩ [("_law_script", u)]) ∧ ∀ base : Heap, (K w.params).In base → base.Ns mainGlobals mg → FnOk l.prog w (K w.params) mg base CX0 8 fa fd ["_law_script"] (spLaw (K w.params))) :
   W.WalkO q loose XP YP l.row.toRowW d [] (fun f vs => PySem.call f vs) :=
 L2.walk_of (n := 63) (k := 8) (x := "_law_script") (CX := fun _ => CX0) (sp := fun w => spLaw (K w.params)) hn (by decide) hdf ⟨rfl, by decide, by decide⟩ hY F (fun _ _ a ns hl _ hS => ⟨a, ns, rfl, hS, hl, fun _ => rfl⟩) fun _ _ _ _ _ z => z
end K40
def PySem.W.Fast.tw17248580186819534007 : Unit := ()
def PySem.W.Fast.tw17622305590971898384 : Unit := ()
def PySem.W.Fast.tw11366563095929543107 : Unit := ()
def PySem.W.Fast.tw11505368994314204500 : Unit := ()
def PySem.W.Fast.tw10525541551127387309 : Unit := ()
def PySem.W.Fast.tw13861373152223650160 : Unit := ()
def PySem.W.Fast.tw426186739858371400 : Unit := ()
def PySem.W.Fast.tw5499260505099600703 : Unit := ()
def PySem.W.Fast.tw15946666119955054069 : Unit := ()
def PySem.W.Fast.tw260478555021477547 : Unit := ()
def PySem.W.Fast.tw4398301551499522570 : Unit := ()
def PySem.W.Fast.tw6022752979843472264 : Unit := ()
def PySem.W.Fast.tw15988680987433425033 : Unit := ()
def PySem.W.Fast.tw3860513018252373747 : Unit := ()
def PySem.W.Fast.tw6887138176223954020 : Unit := ()
def PySem.W.Fast.tw5936484605271819101 : Unit := ()
def PySem.W.Fast.tw15122129270478115170 : Unit := ()
open PySem PySem.W PyProof.Rows
set_option maxRecDepth 100000 in
set_option maxHeartbeats 0 in
theorem PySem.Challenge.cw_tellroads_k40_fans_holds : PySem.Challenge.rw_tellroads_k40_fans.Holds := by
 w_on; o_law; k_head; (case hw => w_witness2)
 k_fill
 refine K40.walk (l := PySem.Challenge.rw_tellroads_k40_fans) rfl rfl (fun w h Y => W.kIn_of Y) ?F
 case F =>
   intro w mg fa h KX G hmg
   refine' K40.all_mk KX G hmg ?aX_TellError ?aX_NoNumber ?aX_NoRoad ?aX_Taken ?aX_Other ?xe_NoRoad ?xe_Taken ?xga_zR ?xcl_zR ?xno_zR ?xob_zR ?xbe_zR ?xhd_zR ?xga_zK ?xcl_zK ?xno_zK ?xob_zK ?xbe_zK ?xhd_zK ?x_rN ?x_rR ?x_rK ?x_rO ?x_rV ?x_rm ?x_kN ?x_kR ?x_kK ?x_kO ?x_kV ?x_km ?aC_Fan ?pg_Fan ?hd_Fan ?po_Fan ?sa_Fan ?mk_Fan ?kc_Fan ?n_Fan_teller ?n_Fan_roads ?n_Fan_hearers ?aC_Teller ?pg_Teller ?hd_Teller ?po_Teller ?sa_Teller ?mk_Teller ?kc_Teller ?n_Teller_keep ?n_Teller_turn ?n_Teller_total ?n_Teller_stored ?n_Teller_newest ?aC_Road ?pg_Road ?hd_Road ?po_Road ?sa_Road ?mk_Road ?kc_Road ?n_Road_size ?n_Road_way ?n_Road_row ?n_Road_dropped ?n_Road_broken ?aC_Hearer ?pg_Hearer ?hd_Hearer ?po_Hearer ?sa_Hearer ?mk_Hearer ?kc_Hearer ?n_Hearer_next_number ?n_Hearer_past ?n_Hearer_held ?n_Hearer_known ?n_Hearer_given_up ?a0 ?l0 ?c0 ?k0 ?a1 ?l1 ?c1 ?k1 ?a2 ?l2 ?c2 ?k2 ?a3 ?l3 ?c3 ?k3 ?a4 ?i4 ?l4 ?c4 ?k4 ?a5 ?i5 ?l5 ?c5 ?k5 ?a6 ?i6 ?l6 ?c6 ?k6 ?a7 ?i7 ?l7 ?c7 ?k7 ?a8 ?i8 ?l8 ?c8 ?k8 ?a9 ?i9 ?l9 ?c9 ?k9 ?a10 ?i10 ?l10 ?c10 ?k10 ?a11 ?i11 ?l11 ?c11 ?k11 ?a12 ?i12 ?l12 ?c12 ?k12 ?a13 ?i13 ?l13 ?c13 ?k13 ?a14 ?i14 ?l14 ?c14 ?k14 ?a15 ?i15 ?l15 ?c15 ?k15 ?a16 ?i16 ?l16 ?c16 ?k16 ?a17 ?i17 ?l17 ?c17 ?k17 ?a18 ?i18 ?l18 ?c18 ?k18 ?a19 ?i19 ?l19 ?c19 ?k19 ?a20 ?i20 ?l20 ?c20 ?k20 ?a21 ?i21 ?l21 ?c21 ?k21 ?a22 ?i22 ?l22 ?c22 ?k22 ?a23 ?i23 ?l23 ?c23 ?k23 ?a24 ?l24 ?c24 ?k24 ?a25 ?i25 ?l25 ?c25 ?k25 ?a26 ?i26 ?l26 ?c26 ?k26 ?a27 ?i27 ?l27 ?c27 ?k27 ?a28 ?i28 ?l28 ?c28 ?k28 ?a29 ?i29 ?l29 ?c29 ?k29 ?a30 ?i30 ?l30 ?c30 ?k30 ?a31 ?i31 ?l31 ?c31 ?k31 ?a32 ?i32 ?l32 ?c32 ?k32 ?a33 ?i33 ?l33 ?c33 ?k33 ?a34 ?i34 ?l34 ?c34 ?k34 ?a35 ?i35 ?l35 ?c35 ?k35 ?a36 ?i36 ?l36 ?c36 ?k36 ?a37 ?i37 ?l37 ?c37 ?k37 ?a38 ?i38 ?l38 ?c38 ?k38 ?a39 ?i39 ?l39 ?c39 ?k39 ?a40 ?l40 ?c40 ?k40 ?a41 ?l41 ?c41 ?k41 ?a42 ?l42 ?c42 ?k42 ?a43 ?l43 ?c43 ?k43 ?a44 ?l44 ?c44 ?k44 ?a45 ?l45 ?c45 ?k45 ?a46 ?l46 ?c46 ?k46 ?a47 ?l47 ?c47 ?k47 ?a48 ?l48 ?c48 ?k48 ?a49 ?l49 ?c49 ?k49 ?a50 ?l50 ?c50 ?k50 ?a51 ?l51 ?c51 ?k51 ?a52 ?l52 ?c52 ?k52 ?a53 ?l53 ?c53 ?k53 ?a54 ?l54 ?c54 ?k54 ?a55 ?l55 ?c55 ?k55 ?z0 ?z1 ?z2 ?z3 ?z4 ?z5 ?z6 ?z7 ?z8
   (case aX_TellError => k_is)
   (case aX_NoNumber => k_is)
   (case aX_NoRoad => k_is)
   (case aX_Taken => k_is)
   (case aX_Other => k_is)
   (case xe_NoRoad => k_exc)
   (case xe_Taken => k_exc)
   (case xga_zR => k_is)
   (case xcl_zR => k_is)
   (case xno_zR => k_is)
   (case xob_zR => k_is)
   (case xbe_zR => k_is)
   (case xhd_zR => k_is)
   (case xga_zK => k_is)
   (case xcl_zK => k_is)
   (case xno_zK => k_is)
   (case xob_zK => k_is)
   (case xbe_zK => k_is)
   (case xhd_zK => k_is)
   (case x_rN => kit_is)
   (case x_rR => kit_is)
   (case x_rK => kit_is)
   (case x_rO => kit_is)
   (case x_rV => kit_is)
   (case x_rm => kts_exm)
   (case x_kN => kit_is)
   (case x_kR => kit_is)
   (case x_kK => kit_is)
   (case x_kO => kit_is)
   (case x_kV => kit_is)
   (case x_km => kts_exm)
   (case aC_Fan => k_is)
   (case pg_Fan => k_is)
   (case hd_Fan => k_is)
   (case po_Fan => k_is)
   (case sa_Fan => k_is)
   (case mk_Fan => k_is)
   (case kc_Fan => k_is)
   (case n_Fan_teller => k_is)
   (case n_Fan_roads => k_is)
   (case n_Fan_hearers => k_is)
   (case aC_Teller => k_is)
   (case pg_Teller => k_is)
   (case hd_Teller => k_is)
   (case po_Teller => k_is)
   (case sa_Teller => k_is)
   (case mk_Teller => k_is)
   (case kc_Teller => k_is)
   (case n_Teller_keep => k_is)
   (case n_Teller_turn => k_is)
   (case n_Teller_total => k_is)
   (case n_Teller_stored => k_is)
   (case n_Teller_newest => k_is)
   (case aC_Road => k_is)
   (case pg_Road => k_is)
   (case hd_Road => k_is)
   (case po_Road => k_is)
   (case sa_Road => k_is)
   (case mk_Road => k_is)
   (case kc_Road => k_is)
   (case n_Road_size => k_is)
   (case n_Road_way => k_is)
   (case n_Road_row => k_is)
   (case n_Road_dropped => k_is)
   (case n_Road_broken => k_is)
   (case aC_Hearer => k_is)
   (case pg_Hearer => k_is)
   (case hd_Hearer => k_is)
   (case po_Hearer => k_is)
   (case sa_Hearer => k_is)
   (case mk_Hearer => k_is)
   (case kc_Hearer => k_is)
   (case n_Hearer_next_number => k_is)
   (case n_Hearer_past => k_is)
   (case n_Hearer_held => k_is)
   (case n_Hearer_known => k_is)
   (case n_Hearer_given_up => k_is)
   (case a0 => k_is)
   (case l0 => k_is)
   (case c0 => k_is)
   (case k0 => k_is)
   (case a1 => k_is)
   (case l1 => k_is)
   (case c1 => k_is)
   (case k1 => k_is)
   (case a2 => k_is)
   (case l2 => k_is)
   (case c2 => k_is)
   (case k2 => k_is)
   (case a3 => k_is)
   (case l3 => k_is)
   (case c3 => k_is)
   (case k3 => k_is)
   (case a4 => k_is)
   (case i4 => k_is)
   (case l4 => k_is)
   (case c4 => k_is)
   (case k4 => k_is)
   (case a5 => k_is)
   (case i5 => k_is)
   (case l5 => k_is)
   (case c5 => k_is)
   (case k5 => k_is)
   (case a6 => k_is)
   (case i6 => k_is)
   (case l6 => k_is)
   (case c6 => k_is)
   (case k6 => k_is)
   (case a7 => k_is)
   (case i7 => k_is)
   (case l7 => k_is)
   (case c7 => k_is)
   (case k7 => k_is)
   (case a8 => k_is)
   (case i8 => k_is)
   (case l8 => k_is)
   (case c8 => k_is)
   (case k8 => k_is)
   (case a9 => k_is)
   (case i9 => k_is)
   (case l9 => k_is)
   (case c9 => k_is)
   (case k9 => k_is)
   (case a10 => k_is)
   (case i10 => k_is)
   (case l10 => k_is)
   (case c10 => k_is)
   (case k10 => k_is)
   (case a11 => k_is)
   (case i11 => k_is)
   (case l11 => k_is)
   (case c11 => k_is)
   (case k11 => k_is)
   (case a12 => k_is)
   (case i12 => k_is)
   (case l12 => k_is)
   (case c12 => k_is)
   (case k12 => k_is)
   (case a13 => k_is)
   (case i13 => k_is)
   (case l13 => k_is)
   (case c13 => k_is)
   (case k13 => k_is)
   (case a14 => k_is)
   (case i14 => k_is)
   (case l14 => k_is)
   (case c14 => k_is)
   (case k14 => k_is)
   (case a15 => k_is)
   (case i15 => k_is)
   (case l15 => k_is)
   (case c15 => k_is)
   (case k15 => k_is)
   (case a16 => k_is)
   (case i16 => k_is)
   (case l16 => k_is)
   (case c16 => k_is)
   (case k16 => k_is)
   (case a17 => k_is)
   (case i17 => k_is)
   (case l17 => k_is)
   (case c17 => k_is)
   (case k17 => k_is)
   (case a18 => k_is)
   (case i18 => k_is)
   (case l18 => k_is)
   (case c18 => k_is)
   (case k18 => k_is)
   (case a19 => k_is)
   (case i19 => k_is)
   (case l19 => k_is)
   (case c19 => k_is)
   (case k19 => k_is)
   (case a20 => k_is)
   (case i20 => k_is)
   (case l20 => k_is)
   (case c20 => k_is)
   (case k20 => k_is)
   (case a21 => k_is)
   (case i21 => k_is)
   (case l21 => k_is)
   (case c21 => k_is)
   (case k21 => k_is)
   (case a22 => k_is)
   (case i22 => k_is)
   (case l22 => k_is)
   (case c22 => k_is)
   (case k22 => k_is)
   (case a23 => k_is)
   (case i23 => k_is)
   (case l23 => k_is)
   (case c23 => k_is)
   (case k23 => k_is)
   (case a24 => k_is)
   (case l24 => k_is)
   (case c24 => k_is)
   (case k24 => k_is)
   (case a25 => k_is)
   (case i25 => k_is)
   (case l25 => k_is)
   (case c25 => k_is)
   (case k25 => k_is)
   (case a26 => k_is)
   (case i26 => k_is)
   (case l26 => k_is)
   (case c26 => k_is)
   (case k26 => k_is)
   (case a27 => k_is)
   (case i27 => k_is)
   (case l27 => k_is)
   (case c27 => k_is)
   (case k27 => k_is)
   (case a28 => k_is)
   (case i28 => k_is)
   (case l28 => k_is)
   (case c28 => k_is)
   (case k28 => k_is)
   (case a29 => k_is)
   (case i29 => k_is)
   (case l29 => k_is)
   (case c29 => k_is)
   (case k29 => k_is)
   (case a30 => k_is)
   (case i30 => k_is)
   (case l30 => k_is)
   (case c30 => k_is)
   (case k30 => k_is)
   (case a31 => k_is)
   (case i31 => k_is)
   (case l31 => k_is)
   (case c31 => k_is)
   (case k31 => k_is)
   (case a32 => k_is)
   (case i32 => k_is)
   (case l32 => k_is)
   (case c32 => k_is)
   (case k32 => k_is)
   (case a33 => k_is)
   (case i33 => k_is)
   (case l33 => k_is)
   (case c33 => k_is)
   (case k33 => k_is)
   (case a34 => k_is)
   (case i34 => k_is)
   (case l34 => k_is)
   (case c34 => k_is)
   (case k34 => k_is)
   (case a35 => k_is)
   (case i35 => k_is)
   (case l35 => k_is)
   (case c35 => k_is)
   (case k35 => k_is)
   (case a36 => k_is)
   (case i36 => k_is)
   (case l36 => k_is)
   (case c36 => k_is)
   (case k36 => k_is)
   (case a37 => k_is)
   (case i37 => k_is)
   (case l37 => k_is)
   (case c37 => k_is)
   (case k37 => k_is)
   (case a38 => k_is)
   (case i38 => k_is)
   (case l38 => k_is)
   (case c38 => k_is)
   (case k38 => k_is)
   (case a39 => k_is)
   (case i39 => k_is)
   (case l39 => k_is)
   (case c39 => k_is)
   (case k39 => k_is)
   (case a40 => k_is)
   (case l40 => k_is)
   (case c40 => k_is)
   (case k40 => k_is)
   (case a41 => k_is)
   (case l41 => k_is)
   (case c41 => k_is)
   (case k41 => k_is)
   (case a42 => k_is)
   (case l42 => k_is)
   (case c42 => k_is)
   (case k42 => k_is)
   (case a43 => k_is)
   (case l43 => k_is)
   (case c43 => k_is)
   (case k43 => k_is)
   (case a44 => k_is)
   (case l44 => k_is)
   (case c44 => k_is)
   (case k44 => k_is)
   (case a45 => k_is)
   (case l45 => k_is)
   (case c45 => k_is)
   (case k45 => k_is)
   (case a46 => k_is)
   (case l46 => k_is)
   (case c46 => k_is)
   (case k46 => k_is)
   (case a47 => k_is)
   (case l47 => k_is)
   (case c47 => k_is)
   (case k47 => k_is)
   (case a48 => k_is)
   (case l48 => k_is)
   (case c48 => k_is)
   (case k48 => k_is)
   (case a49 => k_is)
   (case l49 => k_is)
   (case c49 => k_is)
   (case k49 => k_is)
   (case a50 => k_is)
   (case l50 => k_is)
   (case c50 => k_is)
   (case k50 => k_is)
   (case a51 => k_is)
   (case l51 => k_is)
   (case c51 => k_is)
   (case k51 => k_is)
   (case a52 => k_is)
   (case l52 => k_is)
   (case c52 => k_is)
   (case k52 => k_is)
   (case a53 => k_is)
   (case l53 => k_is)
   (case c53 => k_is)
   (case k53 => k_is)
   (case a54 => k_is)
   (case l54 => k_is)
   (case c54 => k_is)
   (case k54 => k_is)
   (case a55 => k_is)
   (case l55 => k_is)
   (case c55 => k_is)
   (case k55 => k_is)
   (case z0 => k_is)
   (case z1 => k_is)
   (case z2 => k_is)
   (case z3 => k_is)
   (case z4 => k_is)
   (case z5 => k_is)
   (case z6 => k_is)
   (case z7 => k_is)
   (case z8 => k_is)
