
import PyProof.Rows.All
import Wide.All
import OpenK.AllK
import Wide.FinOn
import Lean
import PyProof.EqAt
import PyProof.EqKinds
import PyProof.TupleCall
import PySem.Challenge.RW_tellroads_k41_whole_fans
set_option Elab.async false
set_option linter.all false
set_option maxRecDepth 100000
namespace L2
open PySem PySem.Spec PyProof.Rows
abbrev Key := Sum Int Str
def keyIs : Key → Value → Bool
 | .inl k, v => Value.isInt k v
 | .inr x, v => Value.isStrOf x v
def keyH (w : World) : Key → Int
 | .inl k => hashInt k
 | .inr x => hashStr w x
theorem keyIs_shape : ∀ {k : Key} {v : Value}, keyIs k v = true → (∃ i t, k = Sum.inl i ∧ v = Value.int i t) ∨ (∃ x t, k = Sum.inr x ∧ v = Value.str x t)
 | .inl i, v, h => by
   obtain ⟨t, e⟩ := Value.isInt_shape (k := i) (v := v) h
   exact .inl ⟨i, t, rfl, e⟩
 | .inr x, v, h => by
   obtain ⟨t, e⟩ := Value.isStrOf_shape (x := x) (v := v) h
   exact .inr ⟨x, t, rfl, e⟩
theorem keyIs_int (i : Int) (t : Tok) : keyIs (.inl i) (.int i t) = true := by simp [keyIs, Value.isInt]
theorem keyIs_str (x : Str) (t : Tok) : keyIs (.inr x) (.str x t) = true := by simp [keyIs, Value.isStrOf]
theorem key_ll (a b : Int) : decide ((Sum.inl a : Key) = Sum.inl b) = (a == b) := by
 by_cases e : a = b
 · subst e; simp
 · have h : ¬ (Sum.inl a : Key) = Sum.inl b := fun q => e (Sum.inl.inj q)
   rw [decide_eq_false h]
   exact (beq_eq_false_iff_ne.mpr e).symm
theorem key_rr (a b : Str) : decide ((Sum.inr a : Key) = Sum.inr b) = decide (a = b) := by
 by_cases e : a = b
 · subst e; simp
 · have h : ¬ (Sum.inr a : Key) = Sum.inr b := fun q => e (Sum.inr.inj q)
   rw [decide_eq_false h, decide_eq_false e]
theorem key_lr (a : Int) (b : Str) : decide ((Sum.inl a : Key) = Sum.inr b) = false := decide_eq_false (fun q => nomatch q)
theorem key_rl (a : Str) (b : Int) : decide ((Sum.inr a : Key) = Sum.inl b) = false := decide_eq_false (fun q => nomatch q)
def mixKind (prog : Program) (w : World) : PySem.KeyKind prog w Key where
 is := keyIs
 hash := keyH w
 inj := fun v a b ha hb => by
   rcases keyIs_shape ha with ⟨i, t, rfl, rfl⟩ | ⟨x, t, rfl, rfl⟩
   · rcases keyIs_shape hb with ⟨j, u, rfl, e⟩ | ⟨y, u, rfl, e⟩
     · injection e with e1 _; rw [e1]
     · exact nomatch e
   · rcases keyIs_shape hb with ⟨j, u, rfl, e⟩ | ⟨y, u, rfl, e⟩
     · exact nomatch e
     · injection e with e1 _; rw [e1]
 byValue := fun k v h => by
   rcases keyIs_shape h with ⟨i, t, rfl, rfl⟩ | ⟨x, t, rfl, rfl⟩ <;> rfl
 pyHash := fun hv h => by
   rcases keyIs_shape hv with ⟨i, t, rfl, rfl⟩ | ⟨x, t, rfl, rfl⟩
   · exact wpAny_pyHash_int h
   · exact wpAny_pyHash_str h
 eqBool := fun hu hv h => by
   rcases keyIs_shape hu with ⟨i, t, rfl, rfl⟩ | ⟨x, t, rfl, rfl⟩
   · rcases keyIs_shape hv with ⟨j, u, rfl, rfl⟩ | ⟨y, u, rfl, rfl⟩
     · rw [key_ll] at h; exact wpAny_eqBool_int h
     · rw [key_lr] at h; exact SeqAt.EqAt.int_str i t y u _ _ _ _ h
   · rcases keyIs_shape hv with ⟨j, u, rfl, rfl⟩ | ⟨y, u, rfl, rfl⟩
     · rw [key_rl] at h; exact SeqAt.EqAt.str_int x t j u _ _ _ _ h
     · rw [key_rr] at h; exact wpAny_eqBool_str h
 «strs» := fun k x t v h => by
   rcases keyIs_shape h with ⟨i, u, rfl, e⟩ | ⟨y, u, rfl, e⟩
   · exact nomatch e
   · injection e with e1 _
     subst e1
     cases v <;> rfl
theorem mixKind_int (prog : Program) (w : World) (i : Int) (t : Tok) : (mixKind prog w).is (.inl i) (.int i t) = true := keyIs_int i t
theorem mixKind_str (prog : Program) (w : World) (x : Str) (t : Tok) : (mixKind prog w).is (.inr x) (.str x t) = true := keyIs_str x t
end L2
namespace L2
open PySem PySem.Spec PyProof.Rows
inductive V where
 | non | bl (b : Bool) | int (i : Int) | str (x : Str) | byt (b : Array UInt8) | flt (b : UInt64) | ref (a : Addr) | ty (n : String)
 deriving DecidableEq
def RelV : V → Value → Prop
 | .non, u => u = Value.none
 | .bl b, u => u = Value.bool b
 | .int i, u => ∃ t, u = Value.int i t
 | .str x, u => ∃ t, u = Value.str x t
 | .byt b, u => ∃ t, u = Value.bytes b t
 | .flt b, u => ∃ t, u = Value.float b t
 | .ref a, u => u = Value.ref a
 | .ty n, u => u = Value.type n
abbrev Vals : List V → List Value → Prop := Paired RelV
theorem Vals.length {xs : List V} {us : List Value} (r : Vals xs us) : xs.length = us.length := Paired.length r
theorem Vals.get : ∀ {xs : List V} {us : List Value} {i : Nat} {x : V}, Vals xs us → xs[i]? = some x → ∃ u, us[i]? = some u ∧ RelV x u
 | _, _, _, _, .nil, e => by simp at e
 | _, _, 0, _, .cons r _, e => by simp at e; subst e; exact ⟨_, rfl, r⟩
 | _, _, i + 1, x, .cons _ t, e => by
   obtain ⟨u, h1, h2⟩ := Vals.get (i := i) (x := x) t (by simpa using e)
   exact ⟨u, by simpa using h1, h2⟩
theorem Vals.set {x : V} {u : Value} (r : RelV x u) : ∀ {xs : List V} {us : List Value} (i : Nat), Vals xs us → Vals (xs.set i x) (us.set i u)
 | _, _, _, .nil => .nil
 | _, _, 0, .cons _ t => .cons r t
 | _, _, i + 1, .cons q t => .cons q (Vals.set r i t)
theorem Vals.append : ∀ {xs ys : List V} {us ws : List Value}, Vals xs us → Vals ys ws → Vals (xs ++ ys) (us ++ ws)
 | _, _, _, _, .nil, s => s
 | _, _, _, _, .cons r t, s => .cons r (Vals.append t s)
theorem Vals.take : ∀ {xs : List V} {us : List Value} (n : Nat), Vals xs us → Vals (xs.take n) (us.take n)
 | _, _, 0, _ => .nil
 | _, _, _ + 1, .nil => .nil
 | _, _, n + 1, .cons r t => .cons r (Vals.take n t)
theorem Vals.drop : ∀ {xs : List V} {us : List Value} (n : Nat), Vals xs us → Vals (xs.drop n) (us.drop n)
 | _, _, 0, r => r
 | _, _, _ + 1, .nil => .nil
 | _, _, n + 1, .cons _ t => Vals.drop n t
theorem Vals.none_of : ∀ {xs : List V} {us : List Value} {i : Nat}, Vals xs us → xs[i]? = none → us[i]? = none := fun {xs us i} r e => by
 have h1 := r.length
 have h2 : xs.length ≤ i := List.getElem?_eq_none_iff.mp e
 exact List.getElem?_eq_none_iff.mpr (by omega)
def RelO : Option V → Option Value → Prop
 | some v, some u => RelV v u
 | none, none => True
 | _, _ => False
def KV {κ : Type} : List (κ × V) → List (κ × Value) → Prop := Paired fun (p : κ × V) (q : κ × Value) => p.1 = q.1 ∧ RelV p.2 q.2
def kV : Key → V
 | .inl i => .int i
 | .inr x => .str x
inductive HO where
 /-- a list -/
 | lst (xs : List V)
 /-- a tuple (never changes) -/
 | tup (xs : List V)
 /-- a dict whose keys are ints and texts; one whose keys are tuples of ints and texts (the empty one is both) -/
 | dK (kvs : List (Key × V)) | dT (kvs : List (List Key × V))
 /-- a set of ints: its members, its size -/
 | set (S : Int → Bool) (n : Nat)
 /-- an instance of the class at C, its dict at dx, its attributes -/
 | ins (C dx : Addr) (fs : List (Str × V))
 /-- the dict of the instance at x -/
 | own (x : Addr)
 /-- the dict of an exception -/
 | xd (fs : List (Str × V))
 /-- a bound method, f of x -/
 | met (f x : Addr)
 /-- a range object lo, lo + 1, .. below hi -/
 | rng (lo hi : Int)
 /-- a thing that is known to the object (the script; a dict while a loop walks it): read, never written while it is so -/
 | frz (o : Obj) (u : HO)
 /-- a code object's table -/
 | tbl (ps : Array Value)
 /-- any other thing, by what is true of its one object (a def of one's own: SetO a S n := HO.ext fun h => ..) -/
 | ext (φ : Heap → Prop)
abbrev Hp := Addr → Option HO
def upd (H : Hp) (a : Addr) (o : HO) : Hp := fun b => if b = a then some o else H b
theorem upd_same {H : Hp} {a : Addr} {o : HO} : upd H a o a = some o := by unfold upd; rw [if_pos rfl]
theorem upd_ne {H : Hp} {a b : Addr} {o : HO} (h : b ≠ a) : upd H a o b = H b := by unfold upd; rw [if_neg h]
theorem upd_upd {H : Hp} {a : Addr} {o u : HO} : upd (upd H a o) a u = upd H a u := by
 funext b; unfold upd; split <;> rfl
theorem ne_of {H : Hp} {a b : Addr} {o u : HO} (h : H a = some o) (h' : H b = some u) (d : o ≠ u) : a ≠ b := by
 intro e; subst e; rw [h] at h'; exact d (Option.some.inj h')
theorem ne_of_none {H : Hp} {a b : Addr} {o : HO} (h : H a = some o) (h' : H b = none) : a ≠ b := by
 intro e; subst e; rw [h] at h'; cases h'
section
variable (P : Program) (w : World)
def ObjOk (H : Hp) (h : Heap) (a : Addr) : HO → Prop
 | .lst xs => xs.length ≤ sizeLine ∧ ∃ (its : List Value) (n : Nat), Vals xs its ∧ h.get? a = some { cls := .type "list", data := .seq its.toArray n }
 | .tup xs => xs.length ≤ sizeLine ∧ ∃ its : List Value, Vals xs its ∧ IsTup h a its.toArray
 | .dK kvs => kvs.length ≤ sizeLine ∧ (a == sysModules) = false ∧ ∃ vs, KV kvs vs ∧ h.DictOf (mixKind P w) a vs
 | .dT kvs => kvs.length ≤ sizeLine ∧ (a == sysModules) = false ∧ ∃ xs : List (List Key × Addr × Value),
     Paired (fun (p : List Key × V) (q : List Key × Addr × Value) => p.1 = q.1 ∧ H q.2.1 = some (.tup (p.1.map kV)) ∧ RelV p.2 q.2.2) kvs xs ∧
     ∃ o es ep, h.get? a = some o ∧ o.ExactDict ∧ o.data = .dict es ep ∧ es.toList = xs.map (entryOfKey (tupleKind (mixKind P w))) ∧ (xs.map (·.1)).Nodup
 | .set S n => h.SetOf (intKind P w) a S n
 | .ins C dx fs => H dx = some (.own a) ∧ fs.length ≤ 1000 ∧ dx ≠ a ∧ h.get? a = some (W.instObj C dx) ∧
     ∃ mA, h.Ns1 dx mA ∧ (∀ f, RelO (fs.lookup f) (mA f)) ∧ PySem.Within mA (fs.map (·.1))
 | .own _ => ∃ o, h.get? a = some o
 | .xd fs => ∃ mA, h.Ns1 a mA ∧ ∀ f, RelO (fs.lookup f) (mA f)
 | .rng lo hi => ∃ t u v, h.get? a = some { cls := .type "range", data := .fields #[.int lo t, .int hi u, .int 1 v] }
 | .frz o u => h.get? a = some o ∧ ObjOk H h a u
 | .tbl ps => h.get? a = some { cls := .none, data := .fields ps }
 | .met f x => h.get? a = some (W.methodObj (.ref f) (.ref x))
 | .ext φ => φ h ∧ (∃ o, h.get? a = some o) ∧ ∀ h1 h2 : Heap, φ h1 → (∀ o, h1.get? a = some o → h2.get? a = some o) → φ h2
def HOk (H : Hp) (h : Heap) : Prop := ∀ a o, H a = some o → ObjOk P w H h a o
end
section
variable {P : Program} {w : World} {H H' : Hp} {h h' : Heap} {a : Addr} {o : HO}
theorem ObjOk.lt (x : ObjOk P w H h a o) : a < h.objs.size := by
 cases o with
 | lst xs => obtain ⟨_, _, _, _, e⟩ := x; exact Heap.lt_size e
 | tup xs => obtain ⟨_, _, _, p⟩ := x; exact p.lt
 | dK kvs => obtain ⟨_, _, _, _, o, _, _, e, _⟩ := x; exact Heap.lt_size e
 | dT kvs => obtain ⟨_, _, _, _, o, _, _, e, _⟩ := x; exact Heap.lt_size e
 | set S n => obtain ⟨o, _, _, _, e, _⟩ := x; exact Heap.lt_size e
 | ins C dx fs => obtain ⟨_, _, _, e, _⟩ := x; exact Heap.lt_size e
 | own y => obtain ⟨_, e⟩ := x; exact Heap.lt_size e
 | xd fs => obtain ⟨_, ⟨_, _, _, e, _⟩, _⟩ := x; exact Heap.lt_size e
 | rng lo hi => obtain ⟨_, _, _, e⟩ := x; exact Heap.lt_size e
 | frz ob u => obtain ⟨e, _⟩ := x; exact Heap.lt_size e
 | tbl ps => exact Heap.lt_size (show h.get? a = some _ from x)
 | met f y => exact Heap.lt_size (show h.get? a = some _ from x)
 | ext φ => obtain ⟨_, ⟨_, e⟩, _⟩ := x; exact Heap.lt_size e
theorem Paired.mapP {α β : Type} {F G : α → β → Prop} : ∀ {l₁ : List α} {l₂ : List β}, Paired F l₁ l₂ → (∀ a b, F a b → G a b) → Paired G l₁ l₂
 | _, _, .nil, _ => .nil
 | _, _, .cons r t, f => .cons (f _ _ r) (Paired.mapP t f)
theorem ObjOk.stay (x : ObjOk P w H h a o) (k : ∀ b u, (b = a ∨ H b = some (.own a)) → h.get? b = some u → h'.get? b = some u)
   (ho : ∀ b, H b = some (.own a) → H' b = some (.own a)) (ht : ∀ b xs, H b = some (.tup xs) → H' b = some (.tup xs)) : ObjOk P w H' h' a o := by
 induction o with
 | lst xs => obtain ⟨z, its, n, r, e⟩ := x; exact ⟨z, its, n, r, k _ _ (.inl rfl) e⟩
 | tup xs => obtain ⟨z, its, r, ob, e, c⟩ := x; exact ⟨z, its, r, ob, k _ _ (.inl rfl) e, c⟩
 | dK kvs => obtain ⟨z, y, vs, r, ob, es, ep, e, c⟩ := x; exact ⟨z, y, vs, r, ob, es, ep, k _ _ (.inl rfl) e, c⟩
 | dT kvs =>
   obtain ⟨z, y, xs, r, ob, es, ep, e, c⟩ := x
   exact ⟨z, y, xs, Paired.mapP r fun p q z => ⟨z.1, ht _ _ z.2.1, z.2.2⟩, ob, es, ep, k _ _ (.inl rfl) e, c⟩
 | set S n => obtain ⟨ob, es, ep, t, e, c⟩ := x; exact ⟨ob, es, ep, t, k _ _ (.inl rfl) e, c⟩
 | ins C dx fs =>
   obtain ⟨d, z, ne, e, mA, ⟨od, es, ep, e2, c⟩, r⟩ := x
   exact ⟨ho _ d, z, ne, k _ _ (.inl rfl) e, mA, ⟨od, es, ep, k _ _ (.inr d) e2, c⟩, r⟩
 | own y => obtain ⟨ob, e⟩ := x; exact ⟨ob, k _ _ (.inl rfl) e⟩
 | xd fs => obtain ⟨mA, ⟨od, es, ep, e, c⟩, r⟩ := x; exact ⟨mA, ⟨od, es, ep, k _ _ (.inl rfl) e, c⟩, r⟩
 | rng lo hi => obtain ⟨t, u, v, e⟩ := x; exact ⟨t, u, v, k _ _ (.inl rfl) e⟩
 | frz ob u ih => obtain ⟨e, q⟩ := x; exact ⟨k _ _ (.inl rfl) e, ih q⟩
 | tbl ps =>
   have e : h.get? a = some { cls := .none, data := .fields ps } := x
   show h'.get? a = some { cls := .none, data := .fields ps }
   exact k a _ (.inl rfl) e
 | met f y =>
   have e : h.get? a = some (W.methodObj (.ref f) (.ref y)) := x
   show h'.get? a = some (W.methodObj (.ref f) (.ref y))
   exact k a _ (.inl rfl) e
 | ext φ => obtain ⟨p, ⟨o, e⟩, st⟩ := x; exact ⟨st _ _ p fun o q => k _ _ (.inl rfl) q, ⟨o, k _ _ (.inl rfl) e⟩, st⟩
theorem HOk.lt (x : HOk P w H h) (e : H a = some o) : a < h.objs.size := (x a o e).lt
theorem HOk.fresh (x : HOk P w H h) (e : h.objs.size ≤ a) : H a = none := by
 cases q : H a with
 | none => rfl
 | some u => exact absurd (Nat.lt_of_lt_of_le (x.lt q) e) (Nat.lt_irrefl _)
theorem HOk.kept (x : HOk P w H h) (k : ∀ b u, h.get? b = some u → h'.get? b = some u) : HOk P w H h' := fun a o e =>
 (x a o e).stay (fun b u _ q => k b u q) (fun _ q => q) fun _ _ q => q
theorem HOk.laid (x : HOk P w H h) (k : ∀ b u, h.get? b = some u → h'.get? b = some u) (hp : h.objs.size ≤ a) (new : ObjOk P w (upd H a o) h' a o) : HOk P w (upd H a o) h' := fun b u e => by
 have hn := x.fresh hp
 by_cases hb : b = a
 · subst hb; rw [upd_same] at e; cases e; exact new
 · rw [upd_ne hb] at e
   exact (x b u e).stay (fun c v _ q => k c v q) (fun c q => by rw [upd_ne (ne_of_none q hn)]; exact q) fun c xs q => by rw [upd_ne (ne_of_none q hn)]; exact q
end
def Rd (H : Hp) (a : Addr) (u : HO) : Prop := H a = some u ∨ ∃ o, H a = some (.frz o u)
theorem Rd.of {H : Hp} {a : Addr} {u : HO} (h : H a = some u) : Rd H a u := .inl h
theorem Rd.ok {P : Program} {w : World} {H : Hp} {h : Heap} {a : Addr} {u : HO} (r : Rd H a u) (x : HOk P w H h) : ObjOk P w H h a u := by
 rcases r with r | ⟨o, r⟩
 · exact x a u r
 · obtain ⟨_, q⟩ := x a _ r
   exact q
def Mut : Option HO → Prop
 | some (.lst _) => True
 | some (.dK _) => True
 | some (.dT _) => True
 | some (.set _ _) => True
 | some (.ins _ _ _) => True
 | some (.ext _) => True
 | _ => False
section
variable {P : Program} {w : World} {H : Hp} {h h' : Heap} {x e : Addr} {o' : HO}
theorem HOk.write (ok : HOk P w H h) (mu : Mut (H x)) (he : e = x ∨ H e = some (.own x)) (k : ∀ b u, b ≠ e → h.get? b = some u → h'.get? b = some u) (heo : ∃ u, h'.get? e = some u)
   (new : ObjOk P w (upd H x o') h' x o') : HOk P w (upd H x o') h' := fun b u q => by
 have nown : ∀ c y, H c = some (.own y) → c ≠ x := fun c y r z => by subst z; rw [r] at mu; exact mu
 have ntup : ∀ c xs, H c = some (.tup xs) → c ≠ x := fun c xs r z => by subst z; rw [r] at mu; exact mu
 by_cases hb : b = x
 · subst hb; rw [upd_same] at q; cases q; exact new
 · rw [upd_ne hb] at q
   by_cases hbe : b = e
   · have q' : H b = some (.own x) := by
       rcases he with z | z
       · exact absurd (hbe.trans z) hb
       · rw [hbe]; exact z
     rw [q] at q'; cases q'
     obtain ⟨v, hv⟩ := heo
     exact ⟨v, by rw [hbe]; exact hv⟩
   · refine (ok b u q).stay (fun c v hc r => k c v ?_ r) (fun c r => by rw [upd_ne (nown c b r)]; exact r) fun c xs r => by rw [upd_ne (ntup c xs r)]; exact r
     rcases hc with rfl | hc
     · exact hbe
     · rintro rfl
       rcases he with z | z
       · exact nown c b hc z
       · rw [hc] at z; cases z; exact hb rfl
end
structure Un (fs ex : List Addr) (H H' : Hp) (h h' : Heap) : Prop where
 keep : ∀ b o, h.get? b = some o → H b = none → b ∉ fs → b ∉ ex → h'.get? b = some o
 slot : ∀ b o, h.get? b = some o → H b = none → b ∈ fs → b ∉ ex → ∃ sl, h'.get? b = some { o with slots := sl }
 free : ∀ b o, h.get? b = some o → H b = none → b ∉ ex → H' b = none
 there : ∀ b o, h.get? b = some o → b ∉ ex → ∃ o', h'.get? b = some o'
 tups : ∀ b xs, H b = some (.tup xs) → H' b = some (.tup xs)
 frzs : ∀ b o u, H b = some (.frz o u) → H' b = some (.frz o u)
 tbls : ∀ b ps, H b = some (.tbl ps) → ∃ more, H' b = some (.tbl (ps ++ more))
section
variable {fs fs' ex ex' : List Addr} {H H1 H2 : Hp} {h h1 h2 h' : Heap} {a x e : Addr} {o : HO}
theorem Un.any (u : Un fs ex H H1 h h1) {b : Addr} {ob : Obj} (q : h.get? b = some ob) (n : H b = none) (hx : b ∉ ex) : ∃ sl, h1.get? b = some { ob with slots := sl } := by
 by_cases hb : b ∈ fs
 · exact u.slot b ob q n hb hx
 · exact ⟨ob.slots, u.keep b ob q n hb hx⟩
theorem Un.trans (a : Un fs ex H H1 h h1) (b : Un fs ex H1 H2 h1 h2) : Un fs ex H H2 h h2 where
 keep := fun c ob q n hc hx => b.keep c ob (a.keep c ob q n hc hx) (a.free c ob q n hx) hc hx
 slot := fun c ob q n hc hx => by
   obtain ⟨sl, e1⟩ := a.slot c ob q n hc hx
   obtain ⟨sl', e2⟩ := b.slot c _ e1 (a.free c ob q n hx) hc hx
   exact ⟨sl', e2⟩
 free := fun c ob q n hx => by
   obtain ⟨o', e1⟩ := a.there c ob q hx
   exact b.free c o' e1 (a.free c ob q n hx) hx
 there := fun c ob q hx => by
   obtain ⟨o', e1⟩ := a.there c ob q hx
   exact b.there c o' e1 hx
 tups := fun c xs q => b.tups c xs (a.tups c xs q)
 frzs := fun c ob xs q => b.frzs c ob xs (a.frzs c ob xs q)
 tbls := fun c ps q => by
   obtain ⟨m1, e1⟩ := a.tbls c ps q
   obtain ⟨m2, e2⟩ := b.tbls c _ e1
   exact ⟨m1 ++ m2, by rw [e2, Array.append_assoc]⟩
theorem Un.kept (k : ∀ b u, h.get? b = some u → h'.get? b = some u) : Un fs ex H H h h' :=
 ⟨fun b ob q _ _ _ => k b ob q, fun b ob q _ _ _ => ⟨ob.slots, k b ob q⟩, fun _ _ _ n _ => n, fun b ob q _ => ⟨ob, k b ob q⟩, fun _ _ q => q, fun _ _ _ q => q, fun _ ps q => ⟨#[], by rw [q]; simp⟩⟩
theorem Un.refl : Un fs ex H H h h := Un.kept fun _ _ q => q
theorem Un.laid (k : ∀ b u, h.get? b = some u → h'.get? b = some u) (hp : h.objs.size ≤ a) (hn : H a = none) : Un fs ex H (upd H a o) h h' where
 keep := fun b u q _ _ _ => k b u q
 slot := fun b u q _ _ _ => ⟨u.slots, k b u q⟩
 free := fun b u q n _ => by rw [upd_ne (Nat.ne_of_lt (Nat.lt_of_lt_of_le (Heap.lt_size q) hp))]; exact n
 there := fun b u q _ => ⟨u, k b u q⟩
 tups := fun b xs q => by rw [upd_ne (ne_of_none q hn)]; exact q
 frzs := fun b u xs q => by rw [upd_ne (ne_of_none q hn)]; exact q
 tbls := fun b ps q => ⟨#[], by rw [upd_ne (ne_of_none q hn), q]; simp⟩
theorem Un.write (mu : Mut (H x)) (he : e = x ∨ H e = some (.own x)) (k : ∀ b u, b ≠ e → h.get? b = some u → h'.get? b = some u) (heo : ∃ u, h'.get? e = some u) : Un fs ex H (upd H x o) h h' := by
 have hx : ∀ b, H b = none → b ≠ x := fun b n z => by subst z; rw [n] at mu; exact mu
 have hb : ∀ b, H b = none → b ≠ e := fun b n z => by
   subst z
   rcases he with r | r
   · exact hx b n r
   · rw [n] at r; cases r
 have hm : ∀ b u, H b = some u → ¬ Mut (some u) → b ≠ x := fun b u q nm z => by subst z; rw [q] at mu; exact nm mu
 refine ⟨fun b u q n _ _ => k b u (hb b n) q, fun b u q n _ _ => ⟨u.slots, k b u (hb b n) q⟩, fun b u q n _ => by rw [upd_ne (hx b n)]; exact n, fun b u q _ => ?_,
   fun b xs q => by rw [upd_ne (hm b _ q fun z => z)]; exact q, fun b u xs q => by rw [upd_ne (hm b _ q fun z => z)]; exact q, fun b ps q => ⟨#[], by rw [upd_ne (hm b _ q fun z => z), q]; simp⟩⟩
 by_cases hbe : b = e
 · subst hbe; exact heo
 · exact ⟨u, k b u hbe q⟩
theorem Un.mono (u : Un fs ex H H1 h h1) (hs : ∀ b ∈ fs, b ∈ fs') (hx : ∀ b ∈ ex, b ∈ ex') : Un fs' ex' H H1 h h1 :=
 ⟨fun b ob q n hb he => u.keep b ob q n (fun z => hb (hs b z)) fun z => he (hx b z), fun _ _ q n _ he => u.any q n fun z => he (hx _ z), fun b ob q n he => u.free b ob q n fun z => he (hx b z), fun b ob q he => u.there b ob q fun z => he (hx b z), u.tups, u.frzs, u.tbls⟩
end
def trk (h : Heap) (H : Hp) : List Addr := (List.range h.objs.size).filter fun a => (H a).isSome
def hidT (h : Heap) (H : Hp) : Heap := W.hideAll h (trk h H)
theorem hidT_size (h : Heap) (H : Hp) : (hidT h H).objs.size = h.objs.size := W.hideAll_size _ _
theorem hidT_get {h : Heap} {H : Hp} {b : Addr} {o : Obj} (e : h.get? b = some o) (n : H b = none) : (hidT h H).get? b = some o :=
 W.hideAll_get _ e fun hm => by
   have q : (H b).isSome = true := (List.mem_filter.mp hm).2
   rw [n] at q; simp at q
theorem of_hidT {h : Heap} {H : Hp} {b : Addr} {o : Obj} (e : (hidT h H).get? b = some o) : h.get? b = some o ∧ H b = none := by
 have e' : h.get? b = some o := W.of_hideAll (trk h H) e
 refine ⟨e', ?_⟩
 cases q : H b with
 | none => rfl
 | some x =>
   have hm : b ∈ trk h H := List.mem_filter.mpr ⟨List.mem_range.mpr (Heap.lt_size e'), by simp [q]⟩
   have z : (hidT h H).get? b = none := W.hideAll_none (trk h H) hm
   rw [z] at e; cases e
def allNews (g h : Heap) (L : Addr) : List (Addr × Obj) := (List.range h.objs.size).filterMap fun a => if a = L ∨ (g.get? a).isSome = true then none else (h.get? a).map fun o => (a, o)
def rest (g h : Heap) (L d : Addr) : List (Addr × Obj) := (allNews g h L).filter fun p => decide (p.1 ≠ d)
end L2
namespace L2
open PySem PySem.Spec PyProof.Rows
structure Mod (K : W.Frag) (mg : Str → Option Value) (base : Heap) : Prop where
 kin : K.In base
 glob : base.Ns mainGlobals mg
 blt : ∃ mb, base.Ns builtinsNs mb ∧ ∀ x : Str, x ≠ "__name__" → mb x = bootBuiltins x
 nolimit : base.NoLimit
structure Cx where
 prog : Program
 w : World
 K : W.Frag
 mg : Str → Option Value
 base : Heap
 A : Around
 N : List Str
 s₀ : Shared
 H₀ : Hp
 env : Env
 outer : List Env
 stack : List Env
 ex : List Addr
 fn : Str → Bool
 calm : Bool
 pn : List (Addr × Obj)
 xe : Value → Shared → Prop
def frs (l : List Env) : List Addr := l.filterMap (·.frame)
abbrev Cx.fs (X : Cx) : List Addr := frs X.outer
def Vis (sc : Scope) (x : Str) : Prop := sc.names.lookup x = some .local ∨ sc.names.lookup x = some .cell ∨ sc.names.lookup x = some .free
def Loc (sc : Scope) (x : Str) : Prop := sc.names.lookup x = some .local ∨ sc.names.lookup x = some .cell
def Look (env : Env) (h : Heap) (m : Str → Option Value) (x : Str) (u : Value) : Prop :=
 (env.kindOf x = some .local ∧ m x = some u) ∨ ((env.kindOf x = some .cell ∨ env.kindOf x = some .free) ∧ ∃ c, env.cells.lookup x = some c ∧ h.IsCell c (some u))
structure Cx.Ok (X : Cx) : Prop where
 mod : Mod X.K X.mg X.base
 kind : X.env.scope.kind = .function
 glob : X.env.globals = mainGlobals
 blt : X.env.builtins = builtinsNs
 above : X.s₀.heap.objs.size ≤ X.env.locals
 inj : ∀ x y c, X.env.cells.lookup x = some c → X.env.cells.lookup y = some c → x = y
 has : ∀ x, (X.env.kindOf x = some .cell ∨ X.env.kindOf x = some .free) → ∃ c, X.env.cells.lookup x = some c
 cab : ∀ x c, X.fn x = true → X.env.cells.lookup x = some c → X.s₀.heap.objs.size ≤ c
 hd : X.calm = true → X.A.handled = none
 frames : X.A.frames = some X.stack
 stk : X.stack = X.outer ∨ (X.stack = X.env :: X.outer ∧ X.env.frame = some X.env.locals)
 exf : ∀ b ∈ X.ex, b ≠ X.env.locals ∧ ∀ x c, X.env.cells.lookup x = some c → c ≠ b
 bs : ∀ b o, X.base.get? b = some o → X.s₀.heap.get? b = some o ∧ X.H₀ b = none
 bsz : X.base.objs.size ≤ X.s₀.heap.objs.size
 noex : ∀ b o, X.base.get? b = some o → b ∉ X.ex
 exfs : ∀ b ∈ X.ex, b ∉ X.fs
 funs : X.s₀.heap.FunFrames X.base X.outer
 frf : ∀ b ∈ X.fs, X.H₀ b = none
structure Inv (X : Cx) (pins : List (Addr × Obj)) (σ : List (Option V)) (H : Hp) (s : Shared) : Prop where
 ok : X.Ok
 os : s.os = X.s₀.os
 bare : AllBare s.gens
 base : Un X.fs X.ex X.H₀ H X.s₀.heap s.heap
 loc : ∃ m, s.heap.Ns X.env.locals m ∧ ∀ (i : Nat) (x : Str) (v : V), X.N[i]? = some x → σ[i]? = some (some v) → Vis X.env.scope x → ∃ u, RelV v u ∧ Look X.env s.heap m x u
 cell : ∀ x c, X.env.cells.lookup x = some c → ∃ v, s.heap.IsCell c v
 free : H X.env.locals = none
 freeC : ∀ x c, X.env.cells.lookup x = some c → H c = none
 pin : ∀ p ∈ X.pn ++ pins, s.heap.get? p.1 = some p.2 ∧ H p.1 = none ∧ p.1 ≠ X.env.locals ∧ p.1 ∉ X.fs ∧ ∀ v, p.2.data ≠ .cell v
 hok : HOk X.prog X.w H s.heap
 len : σ.length = X.N.length
section
variable {X : Cx} {pins : List (Addr × Obj)} {σ : List (Option V)} {H H' : Hp} {s : Shared} {h' : Heap}
theorem Cx.Ok.nofr (ok : X.Ok) {b : Addr} {o : Obj} (e : X.base.get? b = some o) : b ∉ X.fs := fun hb => by
 have := (ok.funs.mem hb).1
 rw [e] at this; cases this
theorem Inv.bs (I : Inv X pins σ H s) : ∀ b o, X.base.get? b = some o → s.heap.get? b = some o ∧ H b = none := fun b o e =>
 ⟨I.base.keep b o (I.ok.bs b o e).1 (I.ok.bs b o e).2 (I.ok.nofr e) (I.ok.noex b o e), I.base.free b o (I.ok.bs b o e).1 (I.ok.bs b o e).2 (I.ok.noex b o e)⟩
theorem Inv.bk (I : Inv X pins σ H s) : ∀ b o, X.base.get? b = some o → s.heap.get? b = some o := fun b o e => (I.bs b o e).1
theorem Inv.mod (I : Inv X pins σ H s) : Mod X.K X.mg X.base := I.ok.mod
theorem Inv.kIn (I : Inv X pins σ H s) : X.K.In s.heap := I.ok.mod.kin.keeps I.bk
theorem Inv.nolimit (I : Inv X pins σ H s) : s.heap.NoLimit := I.ok.mod.nolimit.keeps I.bk
theorem Inv.fr (I : Inv X pins σ H s) : ∃ m, Fr X.base X.env.locals s.heap m :=
 let ⟨m, hn, _⟩ := I.loc
 ⟨m, hn, I.bk, Nat.le_trans I.ok.bsz I.ok.above⟩
theorem Inv.lt (I : Inv X pins σ H s) : X.env.locals < s.heap.objs.size := let ⟨_, hn, _⟩ := I.loc; hn.lt
theorem Inv.sz (I : Inv X pins σ H s) : X.s₀.heap.objs.size ≤ s.heap.objs.size := Nat.le_trans I.ok.above (Nat.le_of_lt I.lt)
theorem Inv.nofs (I : Inv X pins σ H s) {a : Addr} (h : s.heap.objs.size ≤ a) : a ∉ X.fs := fun hb => by
 obtain ⟨_, o, ho, _⟩ := I.ok.funs.mem hb
 exact absurd (Nat.lt_of_lt_of_le (Heap.lt_size ho) (Nat.le_trans I.sz h)) (Nat.lt_irrefl _)
theorem Inv.cne (I : Inv X pins σ H s) : ∀ x c, X.env.cells.lookup x = some c → c ≠ X.env.locals := fun x c e z => by
 obtain ⟨v, o, ho, hd⟩ := I.cell x c e
 obtain ⟨m, ⟨o', es, ep, ho', hd', _⟩, _⟩ := I.loc
 rw [z, ho'] at ho; cases ho; rw [hd'] at hd; cases hd
theorem Inv.funs (I : Inv X pins σ H s) : s.heap.FunFrames X.base X.outer := by
 have all : ∀ (l : List Env), (∀ b ∈ frs l, b ∈ X.fs) → X.s₀.heap.FunFrames X.base l → s.heap.FunFrames X.base l := by
   intro l
   induction l with
   | nil => intro _ _; trivial
   | cons env r ih =>
     intro hs hl
     obtain ⟨hk, ⟨L, o, hf, hn, ho, hd⟩, hr⟩ := hl
     have hL : L ∈ X.fs := hs L (by unfold frs; rw [List.filterMap_cons, hf]; exact List.mem_cons_self)
     obtain ⟨sl, e⟩ := I.base.slot L o ho (I.ok.frf L hL) hL fun z => I.ok.exfs L z hL
     exact ⟨hk, ⟨L, _, hf, hn, e, hd⟩, ih (fun b hb => hs b (by unfold frs; rw [List.filterMap_cons, hf]; exact List.mem_cons_of_mem _ hb)) hr⟩
 exact all X.outer (fun _ hb => hb) I.ok.funs
theorem Inv.stack (I : Inv X pins σ H s) : s.heap.FunFrames X.base X.stack := by
 rcases I.ok.stk with e | ⟨e, hf⟩
 · rw [e]; exact I.funs
 · rw [e]
   obtain ⟨m, hn, _⟩ := I.loc
   refine .cons (by rw [I.ok.kind]; decide) hf hn ?_ I.funs
   exact Heap.get?_none_of_le (Nat.le_trans I.ok.bsz I.ok.above)
theorem Inv.stkSub (I : Inv X pins σ H s) : ∀ b ∈ frs X.stack, b ∈ X.env.locals :: X.fs := fun b hb => by
 rcases I.ok.stk with e | ⟨e, hf⟩
 · rw [e] at hb; exact List.mem_cons_of_mem _ hb
 · rw [e] at hb
   unfold frs at hb
   rw [List.filterMap_cons, hf] at hb
   exact hb
theorem Inv.stkFree (I : Inv X pins σ H s) : ∀ b ∈ frs X.stack, H b = none := fun b hb => by
 rcases List.mem_cons.mp (I.stkSub b hb) with e | hb
 · rw [e]; exact I.free
 · obtain ⟨_, o, ho, _⟩ := I.ok.funs.mem hb
   exact I.base.free b o ho (I.ok.frf b hb) fun z => I.ok.exfs b z hb
theorem Inv.step {g' : Array GenState} {t' : Nat} {d' : Drawn} {ch : List Addr} (I : Inv X pins σ H s)
   (hch : ∀ b ∈ ch, (b ∈ X.ex ∨ X.s₀.heap.objs.size ≤ b) ∧ b ≠ X.env.locals ∧ (∀ x c, X.env.cells.lookup x = some c → c ≠ b) ∧ ∀ p ∈ X.pn ++ pins, p.1 ≠ b)
   (keep : ∀ b o, b ≠ X.env.locals → b ∉ X.fs → b ∉ ch → s.heap.get? b = some o → H b = none → h'.get? b = some o)
   (slot : ∀ b o, b ≠ X.env.locals → b ∈ X.fs → b ∉ ch → s.heap.get? b = some o → H b = none → ∃ sl, h'.get? b = some { o with slots := sl }) (free : ∀ b o, b ∉ ch → s.heap.get? b = some o → H b = none → H' b = none)
   (there : ∀ b o, b ∉ ch → s.heap.get? b = some o → ∃ o', h'.get? b = some o')
   (tups : ∀ b xs, H b = some (.tup xs) → H' b = some (.tup xs)) (frzs : ∀ b o u, H b = some (.frz o u) → H' b = some (.frz o u)) (tbls : ∀ b ps, H b = some (.tbl ps) → ∃ more, H' b = some (.tbl (ps ++ more)))
   (ns : ∀ m, s.heap.Ns X.env.locals m → h'.Ns X.env.locals m) (hok : HOk X.prog X.w H' h') (hg : AllBare g') :
   Inv X pins σ H' { s with heap := h', gens := g', drawn := d', toks := t' } := by
 have neL : ∀ b o, X.s₀.heap.get? b = some o → b ≠ X.env.locals := fun b o e => Nat.ne_of_lt (Nat.lt_of_lt_of_le (Heap.lt_size e) I.ok.above)
 have neC : ∀ b o, X.s₀.heap.get? b = some o → b ∉ X.ex → b ∉ ch := fun b o e hx hb => by
   rcases (hch b hb).1 with z | z
   · exact hx z
   · exact absurd (Nat.lt_of_lt_of_le (Heap.lt_size e) z) (Nat.lt_irrefl _)
 have cellK : ∀ x c, X.env.cells.lookup x = some c → ∀ v, s.heap.IsCell c v → h'.IsCell c v := fun x c e v ⟨o, ho, hd⟩ => by
   have nch : c ∉ ch := fun z => (hch c z).2.2.1 x c e rfl
   by_cases hc : c ∈ X.fs
   · obtain ⟨sl, q⟩ := slot c o (I.cne x c e) hc nch ho (I.freeC x c e)
     exact ⟨_, q, hd⟩
   · exact ⟨o, keep c o (I.cne x c e) hc nch ho (I.freeC x c e), hd⟩
 refine ⟨I.ok, I.os, hg, ⟨fun b o e n hb hx => ?_, fun b o e n hb hx => ?_, fun b o e n hx => ?_, fun b o e hx => ?_, fun b xs e => tups b xs (I.base.tups b xs e), fun b o xs e => frzs b o xs (I.base.frzs b o xs e), fun b ps e => ?_⟩, ?_, fun x c e => ?_, ?_, fun x c e => ?_, fun p hp => ?_, hok, I.len⟩
 · exact keep b o (neL b o e) hb (neC b o e hx) (I.base.keep b o e n hb hx) (I.base.free b o e n hx)
 · obtain ⟨sl, e1⟩ := I.base.slot b o e n hb hx
   obtain ⟨sl', e2⟩ := slot b _ (neL b o e) hb (neC b o e hx) e1 (I.base.free b o e n hx)
   exact ⟨sl', e2⟩
 · obtain ⟨o', e1⟩ := I.base.there b o e hx
   exact free b o' (neC b o e hx) e1 (I.base.free b o e n hx)
 · obtain ⟨o', e1⟩ := I.base.there b o e hx
   exact there b o' (neC b o e hx) e1
 · obtain ⟨m1, e1⟩ := I.base.tbls b ps e
   obtain ⟨m2, e2⟩ := tbls b _ e1
   exact ⟨m1 ++ m2, by rw [e2, Array.append_assoc]⟩
 · obtain ⟨m, hn, hl⟩ := I.loc
   refine ⟨m, ns m hn, fun i x v e1 e2 e3 => ?_⟩
   obtain ⟨u, r, l⟩ := hl i x v e1 e2 e3
   refine ⟨u, r, ?_⟩
   rcases l with l | ⟨k, c, e, z⟩
   · exact .inl l
   · exact .inr ⟨k, c, e, cellK x c e _ z⟩
 · obtain ⟨v, z⟩ := I.cell x c e
   exact ⟨v, cellK x c e v z⟩
 · obtain ⟨m, ⟨o, _, _, ho, _⟩, _⟩ := I.loc
   exact free _ o (fun z => (hch _ z).2.1 rfl) ho I.free
 · obtain ⟨v, o, ho, hd⟩ := I.cell x c e
   exact free c o (fun z => (hch c z).2.2.1 x c e rfl) ho (I.freeC x c e)
 · obtain ⟨e, n, ne, nf, d⟩ := I.pin p hp
   have nch : p.1 ∉ ch := fun z => (hch p.1 z).2.2.2 p hp rfl
   exact ⟨keep p.1 p.2 ne nf nch e n, free p.1 p.2 nch e n, ne, nf, d⟩
theorem Inv.un {t' : Nat} (I : Inv X pins σ H s) (u : Un X.fs [] H H' s.heap h') (hok : HOk X.prog X.w H' h') : Inv X pins σ H' { s with heap := h', toks := t' } := by
 obtain ⟨m, ⟨o, es, ep, ho, r⟩, _⟩ := id I.loc
 obtain ⟨sl, hL⟩ := u.any ho I.free (by simp)
 exact I.step (g' := s.gens) (d' := s.drawn) (ch := []) (fun _ z => nomatch z) (fun b o _ hb _ e n => u.keep b o e n hb (by simp)) (fun b o _ hb _ e n => u.slot b o e n hb (by simp)) (fun b o _ e n => u.free b o e n (by simp)) (fun b o _ e => u.there b o e (by simp)) u.tups u.frzs u.tbls (fun m' hm => by
   obtain ⟨o', es', ep', ho', r'⟩ := hm
   rw [ho] at ho'; cases ho'
   exact ⟨_, es', ep', hL, r'⟩) hok I.bare
theorem Inv.call {g' : Array GenState} {t' : Nat} {d' : Drawn} {ch : List Addr} (I : Inv X pins σ H s) (u : Un (frs X.stack) ch H H' s.heap h') (hok : HOk X.prog X.w H' h') (hg : AllBare g')
   (hch : ∀ b ∈ ch, (b ∈ X.ex ∨ X.s₀.heap.objs.size ≤ b) ∧ b ≠ X.env.locals ∧ (∀ x c, X.env.cells.lookup x = some c → c ≠ b) ∧ ∀ p ∈ X.pn ++ pins, p.1 ≠ b) :
   Inv X pins σ H' { s with heap := h', gens := g', drawn := d', toks := t' } := by
 obtain ⟨m, ⟨o, es, ep, ho, r⟩, _⟩ := id I.loc
 obtain ⟨sl, hL⟩ := u.any ho I.free fun z => (hch _ z).2.1 rfl
 exact I.step (ch := ch) hch (fun b o hL hb hc e n => u.keep b o e n (fun z => (List.mem_cons.mp (I.stkSub b z)).elim hL hb) hc) (fun b o _ _ hc e n => u.any e n hc) (fun b o hc e n => u.free b o e n hc) (fun b o hc e => u.there b o e hc) u.tups u.frzs u.tbls (fun m' hm => by
   obtain ⟨o', es', ep', ho', r'⟩ := hm
   rw [ho] at ho'; cases ho'
   exact ⟨_, es', ep', hL, r'⟩) hok hg
theorem Inv.turned {t' : Nat} {it : Addr} (I : Inv X pins σ H s) (k : ∀ b o, b ≠ it → s.heap.get? b = some o → h'.get? b = some o) (hn : H it = none) (hL : it ≠ X.env.locals)
   (h1 : it ∈ X.ex ∨ X.s₀.heap.objs.size ≤ it) (h2 : ∀ x c, X.env.cells.lookup x = some c → c ≠ it) (h3 : ∀ p ∈ X.pn ++ pins, p.1 ≠ it) : Inv X pins σ H { s with heap := h', toks := t' } := by
 have nit : ∀ b u, H b = some u → b ≠ it := fun b u e z => by rw [z, hn] at e; cases e
 refine I.step (g' := s.gens) (d' := s.drawn) (ch := [it]) (fun b hb => ?_) (fun b o _ _ hc e _ => k b o (fun z => hc (by simp [z])) e) (fun b o _ _ hc e _ => ⟨o.slots, k b o (fun z => hc (by simp [z])) e⟩) (fun _ _ _ _ n => n)
   (fun b o hc e => ⟨o, k b o (fun z => hc (by simp [z])) e⟩) (fun _ _ e => e) (fun _ _ _ e => e) (fun b ps e => ⟨#[], by rw [e]; simp⟩) (fun m hm => ?_) (fun b u e => ?_) I.bare
 · have e : b = it := by simpa using hb
   subst e
   exact ⟨h1, hL, h2, h3⟩
 · obtain ⟨o, es, ep, ho, r⟩ := hm
   exact ⟨o, es, ep, k _ o (Ne.symm hL) ho, r⟩
 · refine (I.hok b u e).stay (fun c v hc q => k c v ?_ q) (fun _ q => q) fun _ _ q => q
   rcases hc with z | z
   · rw [z]; exact nit b u e
   · exact nit c _ z
theorem Inv.tok (I : Inv X pins σ H s) (t : Nat) : Inv X pins σ H { s with toks := t } := I.un (h' := s.heap) (t' := t) Un.refl I.hok
theorem Inv.kept {t' : Nat} (I : Inv X pins σ H s) (k : ∀ b u, s.heap.get? b = some u → h'.get? b = some u) : Inv X pins σ H { s with heap := h', toks := t' } := I.un (Un.kept k) (I.hok.kept k)
theorem Inv.laid {a : Addr} {o : HO} {t' : Nat} (I : Inv X pins σ H s) (k : ∀ b u, s.heap.get? b = some u → h'.get? b = some u) (hp : s.heap.objs.size ≤ a) (new : ObjOk X.prog X.w (upd H a o) h' a o) :
   Inv X pins σ (upd H a o) { s with heap := h', toks := t' } := I.un (Un.laid k hp (I.hok.fresh hp)) (I.hok.laid k hp new)
theorem Inv.write {x e : Addr} {o : HO} {t' : Nat} (I : Inv X pins σ H s) (mu : Mut (H x)) (he : e = x ∨ H e = some (.own x)) (k : ∀ b u, b ≠ e → s.heap.get? b = some u → h'.get? b = some u) (heo : ∃ u, h'.get? e = some u)
   (new : ObjOk X.prog X.w (upd H x o) h' x o) : Inv X pins σ (upd H x o) { s with heap := h', toks := t' } := I.un (Un.write mu he k heo) (I.hok.write mu he k heo new)
theorem Inv.weak {σ' : List (Option V)} (I : Inv X pins σ H s) (hl : σ'.length = σ.length) (w : ∀ (i : Nat) v, σ'[i]? = some (some v) → σ[i]? = some (some v)) : Inv X pins σ' H s :=
 ⟨I.ok, I.os, I.bare, I.base, let ⟨m, hn, hl'⟩ := I.loc; ⟨m, hn, fun i x v e1 e2 e3 => hl' i x v e1 (w i v e2) e3⟩, I.cell, I.free, I.freeC, I.pin, I.hok, hl.trans I.len⟩
theorem Inv.pins_of {pins' : List (Addr × Obj)} (I : Inv X pins σ H s) (h : ∀ p ∈ pins', s.heap.get? p.1 = some p.2 ∧ H p.1 = none ∧ p.1 ≠ X.env.locals ∧ p.1 ∉ X.fs ∧ ∀ v, p.2.data ≠ .cell v) : Inv X pins' σ H s :=
 ⟨I.ok, I.os, I.bare, I.base, I.loc, I.cell, I.free, I.freeC, fun p hp => (List.mem_append.mp hp).elim (fun z => I.pin p (List.mem_append_left _ z)) (h p), I.hok, I.len⟩
theorem nodup_ix {N : List Str} (hN : N.Nodup) {i j : Nat} {x : Str} (a : N[i]? = some x) (b : N[j]? = some x) : i = j := by
 obtain ⟨h1, e1⟩ := List.getElem?_eq_some_iff.mp a
 obtain ⟨h2, e2⟩ := List.getElem?_eq_some_iff.mp b
 exact (List.getElem_inj hN).mp (e1.trans e2.symm)
theorem store_ok2 {M : Model} {A : Around} {E : Value → Shared → Prop} {i : Nat} {x : Str} {v : V} {u : Value} {Q : Unit → Shared → Prop} (I : Inv X pins σ H s) (hN : X.N.Nodup) (hi : X.N[i]? = some x) (hx : Loc X.env.scope x) (r : RelV v u)
   (h : ∀ s', Inv X pins (σ.set i (some v)) H s' → (∃ a, Heap.SameBut a s.heap s'.heap ∧ (a = X.env.locals ∨ X.env.cells.lookup x = some a)) → Q () s') (hf : X.fn x = true ∨ X.env.scope.names.lookup x = some .local := by first | exact .inl rfl | exact .inr rfl | assumption) : wpAny M A (storeName X.env x u) Q E s := by
 obtain ⟨m, hn, hl⟩ := id I.loc
 have hcls : (X.env.scope.kind == .class || (X.env.scope.kind == .module && X.env.locals != X.env.globals)) = false := by rw [I.ok.kind]; rfl
 have hiσ : i < σ.length := by rw [I.len]; exact (List.getElem?_eq_some_iff.mp hi).1
 have cne := I.cne
 have tracked : ∀ {a : Addr} {h' : Heap}, (∃ o, s.heap.get? a = some o ∧ H a = none) → Heap.SameBut a s.heap h' → HOk X.prog X.w H h' := fun {a h'} ha hs b ob e => by
   obtain ⟨_, _, hfree⟩ := ha
   refine (I.hok b ob e).stay (fun c w' hc q => (hs.2 c ?_).trans q) (fun _ q => q) fun _ _ q => q
   rintro rfl
   rcases hc with rfl | hc
   · rw [hfree] at e; cases e
   · rw [hfree] at hc; cases hc
 rcases hx with hk | hk
 · refine wpAny_storeName_local hk hn (fun h' hn' hs => ?_) hcls
   obtain ⟨oL, _, _, hoL, _⟩ := id hn
   refine h _ ⟨I.ok, I.os, I.bare, ⟨fun b o e n hb hx => ?_, fun b o e n hb hx => ?_, I.base.free, fun b o e hx => ?_, I.base.tups, I.base.frzs, I.base.tbls⟩, ⟨_, hn', fun j y v' e1 e2 e3 => ?_⟩, fun y c e => ?_, I.free, I.freeC, fun p hp => ?_, tracked ⟨oL, hoL, I.free⟩ hs, by simpa using I.len⟩ ⟨_, hs, .inl rfl⟩
   · exact (hs.2 b (Nat.ne_of_lt (Nat.lt_of_lt_of_le (Heap.lt_size e) I.ok.above))).trans (I.base.keep b o e n hb hx)
   · obtain ⟨sl, e1⟩ := I.base.slot b o e n hb hx
     exact ⟨sl, (hs.2 b (Nat.ne_of_lt (Nat.lt_of_lt_of_le (Heap.lt_size e) I.ok.above))).trans e1⟩
   · obtain ⟨o', e1⟩ := I.base.there b o e hx
     exact ⟨o', (hs.2 b (Nat.ne_of_lt (Nat.lt_of_lt_of_le (Heap.lt_size e) I.ok.above))).trans e1⟩
   · by_cases hj : j = i
     · subst hj
       rw [hi] at e1; cases e1
       rw [List.getElem?_set_self hiσ] at e2
       cases e2
       exact ⟨u, r, .inl ⟨hk, by simp⟩⟩
     · rw [List.getElem?_set_ne (Ne.symm hj)] at e2
       obtain ⟨u', r', q⟩ := hl j y v' e1 e2 e3
       refine ⟨u', r', ?_⟩
       rcases q with ⟨k, e⟩ | ⟨k, c, e, z⟩
       · refine .inl ⟨k, ?_⟩
         have : y ≠ x := fun e => hj (nodup_ix hN e1 (e ▸ hi))
         simp [this, e]
       · exact .inr ⟨k, c, e, z.sameBut hs (cne y c e)⟩
   · obtain ⟨w', z⟩ := I.cell y c e
     exact ⟨w', z.sameBut hs (cne y c e)⟩
   · obtain ⟨e, n, ne, nf, d⟩ := I.pin p hp
     exact ⟨(hs.2 p.1 ne).trans e, n, ne, nf, d⟩
 · have hfn : X.fn x = true := by
     rcases hf with z | z
     · exact z
     · rw [z] at hk; cases hk
   obtain ⟨c, hc⟩ := I.ok.has x (.inl hk)
   obtain ⟨w', z⟩ := I.cell x c hc
   refine wpAny_storeName_cell I.ok.kind hk hc z (fun h' hc' hs => ?_)
   obtain ⟨oc, hoc, hocd⟩ := id z
   refine h { s with heap := h' } ⟨I.ok, I.os, I.bare, ⟨fun b o e n hb hx => ?_, fun b o e n hb hx => ?_, I.base.free, fun b o e hx => ?_, I.base.tups, I.base.frzs, I.base.tbls⟩, ⟨m, hn.sameBut hs (Ne.symm (cne x c hc)), fun j y v' e1 e2 e3 => ?_⟩, fun y c' e => ?_, I.free, I.freeC, fun p hp => ?_, tracked ⟨oc, hoc, I.freeC x c hc⟩ hs, by simpa using I.len⟩ ⟨c, hs, .inr hc⟩
   · exact (hs.2 b (Nat.ne_of_lt (Nat.lt_of_lt_of_le (Heap.lt_size e) (I.ok.cab x c hfn hc)))).trans (I.base.keep b o e n hb hx)
   · obtain ⟨sl, e1⟩ := I.base.slot b o e n hb hx
     exact ⟨sl, (hs.2 b (Nat.ne_of_lt (Nat.lt_of_lt_of_le (Heap.lt_size e) (I.ok.cab x c hfn hc)))).trans e1⟩
   · obtain ⟨o', e1⟩ := I.base.there b o e hx
     exact ⟨o', (hs.2 b (Nat.ne_of_lt (Nat.lt_of_lt_of_le (Heap.lt_size e) (I.ok.cab x c hfn hc)))).trans e1⟩
   · by_cases hj : j = i
     · subst hj
       rw [hi] at e1; cases e1
       rw [List.getElem?_set_self hiσ] at e2
       cases e2
       exact ⟨u, r, .inr ⟨.inl hk, c, hc, hc'⟩⟩
     · rw [List.getElem?_set_ne (Ne.symm hj)] at e2
       obtain ⟨u', r', q⟩ := hl j y v' e1 e2 e3
       refine ⟨u', r', ?_⟩
       rcases q with q | ⟨k, c', e, z'⟩
       · exact .inl q
       · refine .inr ⟨k, c', e, z'.sameBut hs ?_⟩
         rintro rfl
         exact hj (nodup_ix hN e1 (I.ok.inj _ _ _ e hc ▸ hi))
   · by_cases hcc : c' = c
     · subst hcc; exact ⟨_, hc'⟩
     · obtain ⟨w2, z2⟩ := I.cell y c' e
       exact ⟨w2, z2.sameBut hs hcc⟩
   · obtain ⟨e, n, ne, nf, d⟩ := I.pin p hp
     refine ⟨(hs.2 p.1 ?_).trans e, n, ne, nf, d⟩
     intro q
     rw [q, hoc] at e
     have q' : oc = p.2 := Option.some.inj e
     exact d w' (by rw [← q']; exact hocd)
theorem store_ok {M : Model} {A : Around} {E : Value → Shared → Prop} {i : Nat} {x : Str} {v : V} {u : Value} {Q : Unit → Shared → Prop} (I : Inv X pins σ H s) (hN : X.N.Nodup) (hi : X.N[i]? = some x) (hx : Loc X.env.scope x) (r : RelV v u)
   (h : ∀ s', Inv X pins (σ.set i (some v)) H s' → Q () s') (hf : X.fn x = true ∨ X.env.scope.names.lookup x = some .local := by first | exact .inl rfl | exact .inr rfl | assumption) : wpAny M A (storeName X.env x u) Q E s :=
 store_ok2 I hN hi hx r (fun s' I' _ => h s' I') hf
theorem Inv.call' {s' : Shared} {ch : List Addr} (I : Inv X pins σ H s) (ho : s'.os = s.os) (u : Un (frs X.stack) ch H H' s.heap s'.heap) (hok : HOk X.prog X.w H' s'.heap) (hg : AllBare s'.gens)
   (hch : ∀ b ∈ ch, (b ∈ X.ex ∨ X.s₀.heap.objs.size ≤ b) ∧ b ≠ X.env.locals ∧ (∀ x c, X.env.cells.lookup x = some c → c ≠ b) ∧ ∀ p ∈ X.pn ++ pins, p.1 ≠ b) : Inv X pins σ H' s' := by
 obtain ⟨h', g', d', t', o'⟩ := s'
 have e : o' = s.os := ho
 subst e
 exact I.call (g' := g') (t' := t') (d' := d') u hok hg hch
end
abbrev XK := Value → Option Addr → Hp → Prop
abbrev St := List (Option V)
abbrev VK := V → Hp → Prop
abbrev TE := St → Hp → VK → Prop
abbrev TT := St → Hp → (Bool → Hp → Prop) → Prop
abbrev TA := St → Hp → (List V → Hp → Prop) → Prop
structure Ends where
 nx : St → Hp → Prop
 rt : VK
 bk : St → Hp → Prop := fun _ _ => False
 ct : St → Hp → Prop := fun _ _ => False
abbrev TS := Ends → St → Hp → Prop
def EP (X : Cx) (pins : List (Addr × Obj)) (σ : St) (Q : VK) (u : Value) (s' : Shared) : Prop := ∃ v H', Inv X pins σ H' s' ∧ RelV v u ∧ Q v H'
def TP (X : Cx) (pins : List (Addr × Obj)) (σ : St) (Q : Bool → Hp → Prop) (b : Bool) (s' : Shared) : Prop := ∃ H', Inv X pins σ H' s' ∧ Q b H'
def AP (X : Cx) (pins : List (Addr × Obj)) (σ : St) (Q : List V → Hp → Prop) (us : List Value) (s' : Shared) : Prop := ∃ vs H', Inv X pins σ H' s' ∧ Vals vs us ∧ Q vs H'
def SP (X : Cx) (pins : List (Addr × Obj)) (D : Ends) (f : Flow) (s' : Shared) : Prop :=
 match f with
 | .next => ∃ σ' H', Inv X pins σ' H' s' ∧ D.nx σ' H'
 | .brk => ∃ σ' H', Inv X pins σ' H' s' ∧ D.bk σ' H'
 | .cont => ∃ σ' H', Inv X pins σ' H' s' ∧ D.ct σ' H'
 | .ret u => ∃ v σ' H', Inv X pins σ' H' s' ∧ RelV v u ∧ D.rt v H'
def PE (X : Cx) (e : Expr) (t : TE) : Prop :=
 ∀ (pins : List (Addr × Obj)) (s : Shared) (σ : St) (H : Hp) (Q : VK), Inv X pins σ H s → t σ H Q → wpAny (model X.prog X.w) X.A (eval e X.env) (EP X pins σ Q) X.xe s
def PT (X : Cx) (e : Expr) (t : TT) : Prop :=
 ∀ (pins : List (Addr × Obj)) (s : Shared) (σ : St) (H : Hp) (Q : Bool → Hp → Prop), Inv X pins σ H s → t σ H Q → wpAny (model X.prog X.w) X.A (isTrue e X.env (eval e X.env)) (TP X pins σ Q) X.xe s
def PW (X : Cx) (e : Expr) (t : TT) : Prop :=
 ∀ (whole : Sem Value) (pins : List (Addr × Obj)) (s : Shared) (σ : St) (H : Hp) (Q : Bool → Hp → Prop), Inv X pins σ H s → t σ H Q → wpAny (model X.prog X.w) X.A (isTrue e X.env whole) (TP X pins σ Q) X.xe s
theorem PW.pt {X : Cx} {e : Expr} {t : TT} (h : PW X e t) : PT X e t := h _
def PA (X : Cx) (es : List Expr) (t : TA) : Prop :=
 ∀ (pos : Pos) (pins : List (Addr × Obj)) (s : Shared) (σ : St) (H : Hp) (Q : List V → Hp → Prop), Inv X pins σ H s → t σ H Q → wpAny (model X.prog X.w) X.A (spliced (backTo pos (starEach es X.env))) (AP X pins σ Q) X.xe s
def PS (X : Cx) (st : Stmt) (t : TS) : Prop :=
 ∀ (pins : List (Addr × Obj)) (s : Shared) (σ : St) (H : Hp) (D : Ends), Inv X pins σ H s → t D σ H → wpAny (model X.prog X.w) X.A (exec st X.env) (SP X pins D) X.xe s
def PSs (X : Cx) (st : List Stmt) (t : TS) : Prop :=
 ∀ (pins : List (Addr × Obj)) (s : Shared) (σ : St) (H : Hp) (D : Ends), Inv X pins σ H s → t D σ H → wpAny (model X.prog X.w) X.A (execs st X.env) (SP X pins D) X.xe s
theorem thn {α : Type} {t : Sem α} {Q Q' : α → Shared → Prop} {M : Model} {A : Around} {E : Value → Shared → Prop} {s : Shared} (h : wpAny M A t Q E s) (hQ : ∀ a s, Q a s → Q' a s) : wpAny M A t Q' E s := wpAny_mono h hQ fun _ _ x => x
end L2
namespace L2
open PySem PySem.Spec PyProof.Rows
section
variable {X : Cx}
def tVar (i : Nat) : TE := fun σ H Q => ∃ v, σ[i]? = some (some v) ∧ Q v H
def tC (v : V) : TE := fun _ H Q => Q v H
theorem pe_var {i : Nat} {x : Str} {pos : Pos} (hN : X.N[i]? = some x) (hv : Vis X.env.scope x) (hd : (x == ("__debug__" : Str)) = false := by decide) (hcd : (x == ("__classdict__" : Str)) = false := by decide) : PE X (.Name x pos) (tVar i) := by
 intro pins s σ H Q I h
 obtain ⟨v, e, h⟩ := h
 obtain ⟨m, hn, hl⟩ := I.loc
 obtain ⟨u, r, l⟩ := hl i x v hN e hv
 have fin : EP X pins σ Q u s := ⟨v, H, I, r, h⟩
 rcases l with ⟨hk, hm⟩ | ⟨hk, c, hc, hcell⟩
 · exact wpAny_Name (wpAny_loadName_local I.ok.kind hk hn hm fin) hd
 · rcases hk with hk | hk
   · exact wpAny_Name (wpAny_loadName_cell I.ok.kind hk hc hcell fin) hd
   · exact wpAny_Name (wpAny_loadName_free I.ok.kind hk hc hcell fin hcd) hd
theorem pe_int {i j pos} : PE X (.Constant (.int i) j pos) (tC (.int i)) := fun _ _ _ H _ I h => wpAny_Constant_int ⟨.int i, H, I.tok _, ⟨_, rfl⟩, h⟩
theorem pe_bl {b j pos} : PE X (.Constant (.bool b) j pos) (tC (.bl b)) := fun _ _ _ H _ I h => Constant_bool ⟨.bl b, H, I, rfl, h⟩
theorem pe_non {j pos} : PE X (.Constant .none j pos) (tC .non) := fun _ _ _ H _ I h => Constant_none ⟨.non, H, I, rfl, h⟩
theorem pe_str {x j pos} : PE X (.Constant (.str x) j pos) (tC (.str x)) := fun _ _ _ H _ I h => Calls.Constant_str ⟨.str x, H, I.tok _, ⟨_, rfl⟩, h⟩
def Gl (X : Cx) (x : Str) : Prop := X.env.kindOf x = some .globalImplicit
theorem ld_glob {E : Value → Shared → Prop} {pins : List (Addr × Obj)} {s : Shared} {σ : St} {H : Hp} {x : Str} {u : Value} {pos : Pos} {Q : Value → Shared → Prop} (I : Inv X pins σ H s) (hg : Gl X x) (hm : X.mg x = some u) (h : Q u s)
   (hd : (x == ("__debug__" : Str)) = false := by decide) : wpAny (model X.prog X.w) X.A (eval (.Name x pos) X.env) Q E s :=
 Calls.Name_function_global I.ok.kind hg (Calls.loadGlobal_global (by rw [I.ok.glob]; exact I.mod.glob.keeps I.bk) hm h) hd
theorem ld_blt {E : Value → Shared → Prop} {pins : List (Addr × Obj)} {s : Shared} {σ : St} {H : Hp} {x : Str} {u : Value} {pos : Pos} {Q : Value → Shared → Prop} (I : Inv X pins σ H s) (hg : Gl X x) (hm : X.mg x = none) (hv : bootBuiltins x = some u) (h : Q u s)
   (hn : x ≠ "__name__" := by decide) (hd : (x == ("__debug__" : Str)) = false := by decide) : wpAny (model X.prog X.w) X.A (eval (.Name x pos) X.env) Q E s := by
 obtain ⟨mb, h1, h2⟩ := I.mod.blt
 exact Calls.Name_function_global I.ok.kind hg (Calls.loadGlobal_builtin (by rw [I.ok.glob]; exact I.mod.glob.keeps I.bk) hm (by rw [I.ok.blt]; exact h1.keeps I.bk) ((h2 x hn).trans hv) h) hd
variable {a b : Expr} {ta tb : TE} {pos : Pos}
def PC (X : Cx) (op : CmpOp) (a b : Expr) (t : TE) : Prop :=
 ∀ (pins : List (Addr × Obj)) (s : Shared) (σ : St) (H : Hp) (Q : VK), Inv X pins σ H s → t σ H Q →
   wpAny (model X.prog X.w) X.A (eval a X.env) (fun v s₁ => wpAny (model X.prog X.w) X.A (eval b X.env) (fun u s₂ => wpAny (model X.prog X.w) X.A (compareOp op v u) (EP X pins σ Q) X.xe s₂) X.xe s₁) X.xe s
theorem nobehind (b : Expr) {op : CmpOp} (h : op ≠ .In) (h2 : op ≠ .NotIn) : behindInMarks op b = false := by
 have e1 : (op == CmpOp.In) = false := by cases op <;> first | rfl | exact absurd rfl h
 have e2 : (op == CmpOp.NotIn) = false := by cases op <;> first | rfl | exact absurd rfl h2
 cases b <;> simp [behindInMarks, e1, e2]
def tB (t : TE) : TT := fun σ H Q => t σ H fun x H1 => ∃ c, x = .bl c ∧ Q c H1
theorem pt_cmp {op : CmpOp} {t : TE} (h : PC X op a b t) (h1 : behindInMarks op b = false := by first | exact nobehind _ (by decide) (by decide) | rfl) : PT X (.Compare a [op] [b] pos) (tB t) := by
 intro pins s σ H Q I hw
 refine wpAny_isTrue_Compare1 (thn (h pins s σ H _ I hw) fun v s1 h1 => thn h1 fun u s2 h2 => thn h2 fun c s3 ⟨x, H1, I1, r1, q1⟩ => ?_) h1
 obtain ⟨d, rfl, q⟩ := q1
 cases r1
 exact wpAny_truthy_bool ⟨H1, I1, q⟩
theorem pt_val {e : Expr} {t : TE} (h : PE X e t) (he : ∀ whole, isTrue e X.env whole = (do let v ← whole; standAt e.pos; holding [v] (truthy v)) := by intro _; rfl) : PT X e (tB t) := by
 intro pins s σ H Q I hw
 refine isTrue_plain (thn (h pins s σ H _ I hw) fun v s1 ⟨x, H1, I1, r1, q1⟩ => ?_) (he _)
 obtain ⟨d, rfl, q⟩ := q1
 cases r1
 exact wpAny_truthy_bool ⟨H1, I1, q⟩
variable {tA tB' : TT} {rest : List Expr}
def tAnd (t u : TT) : TT := fun σ H Q => t σ H fun c H1 => if c = true then u σ H1 Q else Q false H1
def tOr (t u : TT) : TT := fun σ H Q => t σ H fun c H1 => if c = true then Q true H1 else u σ H1 Q
theorem pw_and1 (ha : PT X a tA) : PW X (.BoolOp .And [a] pos) tA := by
 intro wh pins s σ H Q I h
 refine isTrue_and (thn (ha pins s σ H Q I h) fun c s1 e => ?_)
 cases c with
 | true => exact isTrue_and_nil e
 | false => exact e
theorem pw_or1 (ha : PT X a tA) : PW X (.BoolOp .Or [a] pos) tA := by
 intro wh pins s σ H Q I h
 refine isTrue_or (thn (ha pins s σ H Q I h) fun c s1 e => ?_)
 cases c with
 | false => exact isTrue_or_nil e
 | true => exact e
theorem pw_and (ha : PT X a tA) (hb : PW X (.BoolOp .And (b :: rest) pos) tB') : PW X (.BoolOp .And (a :: b :: rest) pos) (tAnd tA tB') := by
 intro wh pins s σ H Q I h
 refine isTrue_and (thn (ha pins s σ H _ I h) fun c s1 ⟨H1, I1, q1⟩ => ?_)
 cases c with
 | true => exact hb wh pins s1 σ H1 Q I1 q1
 | false => exact ⟨H1, I1, q1⟩
theorem pw_or (ha : PT X a tA) (hb : PW X (.BoolOp .Or (b :: rest) pos) tB') : PW X (.BoolOp .Or (a :: b :: rest) pos) (tOr tA tB') := by
 intro wh pins s σ H Q I h
 refine isTrue_or (thn (ha pins s σ H _ I h) fun c s1 ⟨H1, I1, q1⟩ => ?_)
 cases c with
 | true => exact ⟨H1, I1, q1⟩
 | false => exact hb wh pins s1 σ H1 Q I1 q1
end
end L2
namespace L2
open PySem PySem.Spec PyProof.Rows
def SqL (K : W.Frag) (H : Hp) (a : Addr) (xs : List V) : Prop :=
 Rd H a (.lst xs) ∨
   ∃ (o : Obj) (its : Array Value) (n : Nat), K.lookup a = some o ∧ o.cls = .type "list" ∧ o.dict = none ∧ o.data = .seq its n ∧ its.size ≤ sizeLine ∧ Vals xs its.toList
def SqT (K : W.Frag) (H : Hp) (a : Addr) (xs : List V) : Prop :=
 Rd H a (.tup xs) ∨
   ∃ (o : Obj) (its : Array Value) (n : Nat), K.lookup a = some o ∧ o.cls = .type "tuple" ∧ o.data = .seq its n ∧ its.size ≤ sizeLine ∧ Vals xs its.toList
def absV : Value → Option V
 | .none => some .non
 | .bool b => some (.bl b)
 | .int i _ => some (.int i)
 | .str x _ => some (.str x)
 | .bytes b _ => some (.byt b)
 | .float b _ => some (.flt b)
 | .ref a => some (.ref a)
 | .type n => some (.ty n)
 | _ => none
theorem RelV.abs {x : V} {u : Value} (r : RelV x u) : absV u = some x := by
 cases x with
 | non => cases r; rfl
 | bl _ => cases r; rfl
 | int _ => obtain ⟨t, rfl⟩ := r; rfl
 | str _ => obtain ⟨t, rfl⟩ := r; rfl
 | byt _ => obtain ⟨t, rfl⟩ := r; rfl
 | flt _ => obtain ⟨t, rfl⟩ := r; rfl
 | ref _ => cases r; rfl
 | ty _ => cases r; rfl
theorem RelV.inj {x y : V} {u : Value} (r : RelV x u) (q : RelV y u) : x = y := Option.some.inj (r.abs.symm.trans q.abs)
theorem Vals.inj : ∀ {xs ys : List V} {us : List Value}, Vals xs us → Vals ys us → xs = ys
 | _, _, _, .nil, .nil => rfl
 | _, _, _, .cons r t, .cons r' t' => by rw [r.inj r', Vals.inj t t']
section
variable {X : Cx} {pins : List (Addr × Obj)} {σ : St} {H : Hp} {s : Shared} {a : Addr} {xs ys : List V}
theorem SqL.of {K : W.Frag} (h : H a = some (.lst xs)) : SqL K H a xs := .inl (.inl h)
theorem SqT.of {K : W.Frag} (h : H a = some (.tup xs)) : SqT K H a xs := .inl (.inl h)
theorem Inv.list (I : Inv X pins σ H s) (h : SqL X.K H a xs) : ∃ its : List Value, Vals xs its ∧ PlainL s.heap a its.toArray ∧ xs.length ≤ sizeLine := by
 rcases h with h | ⟨o, its, n, hk, hc, hd, hs, hz, r⟩
 · obtain ⟨z, its, n, r, e⟩ := h.ok I.hok
   exact ⟨its, r, ⟨_, n, e, rfl, rfl, rfl⟩, z⟩
 · refine ⟨its.toList, r, ⟨o, n, I.kIn a o hk, hc, hd, by simpa using hs⟩, ?_⟩
   have e := r.length
   simp only [Array.length_toList] at e
   omega
theorem Inv.tuple (I : Inv X pins σ H s) (h : SqT X.K H a xs) : ∃ its : List Value, Vals xs its ∧ IsTup s.heap a its.toArray ∧ xs.length ≤ sizeLine := by
 rcases h with h | ⟨o, its, n, hk, hc, hs, hz, r⟩
 · obtain ⟨z, its, r, p⟩ := h.ok I.hok
   exact ⟨its, r, p, z⟩
 · refine ⟨its.toList, r, ⟨o, I.kIn a o hk, hc, n, by simpa using hs⟩, ?_⟩
   have e := r.length
   simp only [Array.length_toList] at e
   omega
theorem Inv.list_inj (I : Inv X pins σ H s) (h : SqL X.K H a xs) (h' : SqL X.K H a ys) : xs = ys := by
 obtain ⟨its, r, ⟨o, n, e, _, _, d⟩, _⟩ := I.list h
 obtain ⟨its', r', ⟨o', n', e', _, _, d'⟩, _⟩ := I.list h'
 rw [e] at e'; cases e'
 rw [d] at d'
 injection d' with d1 _
 have : its = its' := by simpa using congrArg Array.toList d1
 subst this
 exact r.inj r'
end
abbrev Cx.wish (X : Cx) (E : Value → Shared → Prop) : Cx := { X with xe := E }
abbrev Cx.nox (X : Cx) : Cx := X.wish fun _ _ => False
theorem Cx.Ok.wish {X : Cx} (ok : X.Ok) (E : Value → Shared → Prop) : (X.wish E).Ok :=
 ⟨ok.mod, ok.kind, ok.glob, ok.blt, ok.above, ok.inj, ok.has, ok.cab, ok.hd, ok.frames, ok.stk, ok.exf, ok.bs, ok.bsz, ok.noex, ok.exfs, ok.funs, ok.frf⟩
theorem Cx.Ok.unwish {X : Cx} {E : Value → Shared → Prop} (ok : (X.wish E).Ok) : X.Ok :=
 ⟨ok.mod, ok.kind, ok.glob, ok.blt, ok.above, ok.inj, ok.has, ok.cab, ok.hd, ok.frames, ok.stk, ok.exf, ok.bs, ok.bsz, ok.noex, ok.exfs, ok.funs, ok.frf⟩
section
variable {X : Cx} {pins : List (Addr × Obj)} {σ : St} {H : Hp} {s : Shared} {E : Value → Shared → Prop}
theorem Inv.wish (I : Inv X pins σ H s) (E : Value → Shared → Prop) : Inv (X.wish E) pins σ H s := ⟨I.ok.wish E, I.os, I.bare, I.base, I.loc, I.cell, I.free, I.freeC, I.pin, I.hok, I.len⟩
theorem Inv.unwish (I : Inv (X.wish E) pins σ H s) : Inv X pins σ H s := ⟨I.ok.unwish, I.os, I.bare, I.base, I.loc, I.cell, I.free, I.freeC, I.pin, I.hok, I.len⟩
theorem SP.unwish {D : Ends} {f : Flow} {s' : Shared} (h : SP (X.wish E) pins D f s') : SP X pins D f s' := by
 cases f with
 | next => obtain ⟨σ', H', I, q⟩ := h; exact ⟨σ', H', I.unwish, q⟩
 | brk => obtain ⟨σ', H', I, q⟩ := h; exact ⟨σ', H', I.unwish, q⟩
 | cont => obtain ⟨σ', H', I, q⟩ := h; exact ⟨σ', H', I.unwish, q⟩
 | ret u => obtain ⟨v, σ', H', I, r, q⟩ := h; exact ⟨v, σ', H', I.unwish, r, q⟩
theorem PE.nox {e : Expr} {t : TE} (h : PE X.nox e t) : PE X e t := fun pins s σ H Q I hw =>
 wpAny_mono (h pins s σ H Q (I.wish _) hw) (fun _ _ ⟨v, H', I', r, q⟩ => ⟨v, H', I'.unwish, r, q⟩) fun _ _ z => False.elim z
theorem PT.nox {e : Expr} {t : TT} (h : PT X.nox e t) : PT X e t := fun pins s σ H Q I hw =>
 wpAny_mono (h pins s σ H Q (I.wish _) hw) (fun _ _ ⟨H', I', q⟩ => ⟨H', I'.unwish, q⟩) fun _ _ z => False.elim z
theorem PSs.nox {st : List Stmt} {t : TS} (h : PSs X.nox st t) : PSs X st t := fun pins s σ H D I hw =>
 wpAny_mono (h pins s σ H D (I.wish _) hw) (fun _ _ q => q.unwish) fun _ _ z => False.elim z
end
section
variable {X : Cx} {st : Stmt} {rest : List Stmt} {t u : TS} {e : Expr} {te : TE} {pos : Pos}
def tNext : TS := fun D σ H => D.nx σ H
def tSeq (t u : TS) : TS := fun D σ H => t { D with nx := u D } σ H
theorem pss_nil : PSs X [] tNext := fun _ _ σ H _ I h => wpAny_execs_nil ⟨σ, H, I, h⟩
theorem pss_cons (h1 : PS X st t) (h2 : PSs X rest u) : PSs X (st :: rest) (tSeq t u) := by
 intro pins s σ H D I h
 refine wpAny_execs_cons (thn (h1 pins s σ H { D with nx := u D } I h) fun f s1 q => ?_)
 cases f with
 | next =>
   obtain ⟨σ', H', I', q⟩ := q
   exact h2 pins s1 σ' H' D I' q
 | ret v => exact q
 | brk => exact q
 | cont => exact q
theorem pss_one (h1 : PS X st t) : PSs X [st] t := by
 intro pins s σ H D I h
 refine wpAny_execs_cons (thn (h1 pins s σ H D I h) fun f s1 q => ?_)
 cases f with
 | next => exact wpAny_execs_nil q
 | ret v => exact q
 | brk => exact q
 | cont => exact q
theorem Inv.quiet {pins : List (Addr × Obj)} {σ : St} {H : Hp} {s : Shared} (I : Inv X pins σ H s) : interactive X.env = false := by simp [interactive, I.ok.kind]
def tDrop (te : TE) : TS := fun D σ H => te σ H fun _ H1 => D.nx σ H1
theorem ps_expr (he : PE X e te) (hs : swapsWith e none pos.line X.env = pure false := by rfl) : PS X (.Expr e pos) (tDrop te) := by
 intro pins s σ H D I h
 exact wpAny_Expr_any (thn (he pins s σ H _ I h) fun v s1 ⟨x, H1, I1, r1, q1⟩ => ⟨σ, H1, I1, q1⟩) I.quiet hs
def tRet (te : TE) : TS := fun D σ H => te σ H D.rt
theorem ps_ret (he : PE X e te) : PS X (.Return (some e) pos) (tRet te) := by
 intro pins s σ H D I h
 exact wpAny_Return_some (thn (he pins s σ H _ I h) fun v s1 ⟨x, H1, I1, r1, q1⟩ => ⟨x, σ, H1, I1, r1, q1⟩)
def tIfS (c : TT) (t u : TS) : TS := fun D σ H => c σ H fun b H1 => if b = true then t D σ H1 else u D σ H1
theorem ps_if {c : Expr} {a b : List Stmt} {tc : TT} (hc : PT X c tc) (ha : PSs X a t) (hb : PSs X b u) : PS X (.If c a b pos) (tIfS tc t u) := by
 intro pins s σ H D I h
 refine wpAny_If (thn (hc pins s σ H _ I h) fun d s1 ⟨H1, I1, q1⟩ => ?_)
 cases d with
 | true => exact ha pins s1 σ H1 D I1 q1
 | false => exact hb pins s1 σ H1 D I1 q1
def tNever : TS := fun _ _ _ => False
theorem ps_never : PS X st tNever := fun _ _ _ _ _ _ h => h.elim
end
abbrev TG := V → St → Hp → (St → Hp → Prop) → Prop
abbrev TGs := List V → St → Hp → (St → Hp → Prop) → Prop
def PG (X : Cx) (target : Expr) (t : TG) : Prop :=
 ∀ (pins : List (Addr × Obj)) (s : Shared) (σ : St) (H : Hp) (v : V) (u : Value) (Q : St → Hp → Prop), Inv X pins σ H s → RelV v u → t v σ H Q →
   wpAny (model X.prog X.w) X.A (assign target X.env u) (fun _ s' => ∃ σ' H', Inv X pins σ' H' s' ∧ Q σ' H') X.xe s
def PGs (X : Cx) (ts : List Expr) (t : TGs) : Prop :=
 ∀ (pins : List (Addr × Obj)) (s : Shared) (σ : St) (H : Hp) (vs : List V) (us : List Value) (Q : St → Hp → Prop), Inv X pins σ H s → Vals vs us → t vs σ H Q →
   wpAny (model X.prog X.w) X.A (assignInOrder ((assignEach ts X.env).map (·.2)) us) (fun _ s' => ∃ σ' H', Inv X pins σ' H' s' ∧ Q σ' H') X.xe s
section
variable {X : Cx} {pos : Pos}
def gName (i : Nat) : TG := fun v σ H Q => Q (σ.set i (some v)) H
theorem pg_name {i : Nat} {x : Str} (hN : X.N.Nodup) (hi : X.N[i]? = some x) (hx : Loc X.env.scope x) (hf : X.fn x = true ∨ X.env.scope.names.lookup x = some .local := by first | exact .inl rfl | exact .inr rfl | assumption) : PG X (.Name x pos) (gName i) := by
 intro pins s σ H v u Q I r h
 exact wpAny_assign_Name (store_ok I hN hi hx r (fun s' I' => ⟨_, H, I', h⟩) hf)
def gNil : TGs := fun vs σ H Q => vs = [] ∧ Q σ H
def gCons (t : TG) (u : TGs) : TGs := fun vs σ H Q => ∃ v r, vs = v :: r ∧ t v σ H fun σ' H' => u r σ' H' Q
theorem pgs_nil : PGs X [] gNil := by
 intro pins s σ H vs us Q I r h
 obtain ⟨e, h⟩ := h
 subst e
 cases r
 exact assignInOrder_nil ⟨σ, H, I, h⟩
theorem pgs_cons {e : Expr} {es : List Expr} {t : TG} {u : TGs} (h1 : PG X e t) (h2 : PGs X es u)
   (hs : (assignEach (e :: es) X.env).map (·.2) = assign e X.env :: (assignEach es X.env).map (·.2) := by rfl) : PGs X (e :: es) (gCons t u) := by
 intro pins s σ H vs us Q I r h
 obtain ⟨v, vr, e1, h⟩ := h
 subst e1
 cases r with
 | cons r rr =>
   rw [hs]
   refine assignInOrder_cons (thn (h1 pins s σ H _ _ _ I r h) fun _ s1 ⟨σ1, H1, I1, q1⟩ => ?_)
   exact h2 pins s1 σ1 H1 _ _ Q I1 rr q1
def gTup (K : W.Frag) (n : Nat) (t : TGs) : TG := fun v σ H Q => ∃ a xs, v = .ref a ∧ SqT K H a xs ∧ xs.length = n ∧ t xs σ H Q
theorem pg_tup {es : List Expr} {k : Nat} {t : TGs} {n : Nat} (hc : X.calm = true) (h : PGs X es t)
   (hn : (assignEach es X.env).length = n := by rfl) (hst : (assignEach es X.env).findIdx? (·.1) = none := by rfl) : PG X (.Tuple es k pos) (gTup X.K n t) := by
 intro pins s σ H v u Q I r hw
 obtain ⟨a, xs, e1, hq, hl, hw⟩ := hw
 subst e1
 cases r
 obtain ⟨its, rv, ht, hz⟩ := I.tuple hq
 refine assign_Tuple_tuple (I.ok.hd hc) ht (by simp [hn, ← hl, rv.length]) hst fun h' hx => ?_
 have I1 : Inv X pins σ H { s with heap := h' } := I.kept (t' := s.toks) fun b o e => hx b o (Nat.ne_of_lt (Heap.lt_size e)) e
 exact h pins _ σ H xs _ Q I1 (by simpa using rv) hw
def tAsg (te : TE) (g : TG) : TS := fun D σ H => te σ H fun x H1 => g x σ H1 D.nx
theorem ps_asg {tg e : Expr} {te : TE} {g : TG} (he : PE X e te) (hg : PG X tg g) (hs : swapsWithSole [tg] e pos.line X.env = pure false := by rfl) (hw : swappedStores [tg] e X.env = pure none := by rfl)
   (h1 : (assignEach [tg] X.env).map (·.2) = [assign tg X.env] := by rfl) : PS X (.Assign [tg] e pos) (tAsg te g) := by
 intro pins s σ H D I h
 refine wpAny_Assign_stores (thn (he pins s σ H _ I h) fun v s1 ⟨x, H1, I1, r1, q1⟩ => ?_) hs hw
 rw [h1]
 exact thn (hg pins s1 σ H1 x v _ I1 r1 q1) fun _ s2 q => q
theorem ps_set {i : Nat} {x : Str} {e : Expr} {te : TE} {pos' : Pos} (hN : X.N.Nodup) (hi : X.N[i]? = some x) (hx : Loc X.env.scope x) (he : PE X e te) (hs : swapsWith e (some (.Name x pos')) pos.line X.env = pure false := by rfl) (hf : X.fn x = true ∨ X.env.scope.names.lookup x = some .local := by first | exact .inl rfl | exact .inr rfl | assumption) :
   PS X (.Assign [.Name x pos'] e pos) (tAsg te (gName i)) := by
 intro pins s σ H D I h
 refine wpAny_Assign_Name (thn (he pins s σ H _ I h) fun v s1 ⟨y, H1, I1, r1, q1⟩ => ?_) hs
 exact store_ok I1 hN hi hx r1 (fun s2 I2 => ⟨_, H1, I2, q1⟩) hf
end
section
variable {X : Cx} {pos : Pos}
def tWhile (c : TT) (tb : TS) : TS := fun D σ H => ∃ W : Nat → St → Hp → Prop, (∃ m, W m σ H) ∧ ∀ m σ H, W m σ H →
 c σ H fun b H1 => if b = true then ∃ N : St → Hp → Prop, (∀ σ' H', N σ' H' → ∃ m', m' < m ∧ W m' σ' H') ∧ tb { D with nx := N, ct := N, bk := D.nx } σ H1 else D.nx σ H1
theorem ps_while {c : Expr} {body : List Stmt} {tc : TT} {tb : TS} (hp : PassesOwn (model X.prog X.w) X.A X.env X.xe) (hc : PT X c tc) (hb : PSs X body tb) : PS X (.While c body [] pos) (tWhile tc tb) := by
 intro pins s σ H D I h
 obtain ⟨W, ⟨m0, w0⟩, turn⟩ := h
 refine wpAny_While (codeAny_whileLoop (fun n s' => ∃ σ' H', Inv X pins σ' H' s' ∧ W n σ' H') ?_ m0 ⟨σ, H, I, w0⟩)
 rintro n s1 ⟨σ1, H1, I1, w1⟩
 refine wpAny_passesOwn hp (thn (hc pins s1 σ1 H1 _ I1 (turn n σ1 H1 w1)) fun b s2 ⟨H2, I2, q2⟩ => ?_)
 cases b with
 | true =>
   obtain ⟨N, hN, q2⟩ := q2
   rw [if_pos rfl]
   refine wpAny_passesOwn hp (thn (hb pins s2 σ1 H2 _ I2 q2) fun f s3 q3 => ?_)
   cases f with
   | next =>
     obtain ⟨σ3, H3, I3, n3⟩ := q3
     obtain ⟨m', hm, w3⟩ := hN σ3 H3 n3
     exact ⟨m', hm, σ3, H3, I3, w3⟩
   | cont =>
     obtain ⟨σ3, H3, I3, n3⟩ := q3
     obtain ⟨m', hm, w3⟩ := hN σ3 H3 n3
     exact ⟨m', hm, σ3, H3, I3, w3⟩
   | brk => exact q3
   | ret v => exact q3
 | false =>
   rw [if_neg Bool.false_ne_true]
   exact wpAny_execs_nil ⟨σ1, H2, I2, q2⟩
end
structure It where
 go : Nat → Hp → Prop
 yld : Nat → Hp → V → Hp → Prop
 stop : Nat → Hp → Prop
def FpOk (X : Cx) (pins : List (Addr × Obj)) (H : Hp) (b : Addr) : Prop :=
 H b = none ∧ b ≠ X.env.locals ∧ b ∉ X.fs ∧ (b ∈ X.ex ∨ X.s₀.heap.objs.size ≤ b) ∧ (∀ x c, X.env.cells.lookup x = some c → c ≠ b) ∧ ∀ p ∈ X.pn ++ pins, p.1 ≠ b
theorem Inv.fpOk {X : Cx} {pins : List (Addr × Obj)} {σ : St} {H H' : Hp} {s : Shared} {b : Addr} (I : Inv X pins σ H s) (hb : s.heap.objs.size ≤ b) (hn : H' b = none) : FpOk X pins H' b := by
 refine ⟨hn, Nat.ne_of_gt (Nat.lt_of_lt_of_le I.lt hb), I.nofs hb, .inr (Nat.le_trans I.sz hb), fun x c e z => ?_, fun p hp z => ?_⟩
 · obtain ⟨v, q⟩ := I.cell x c e
   exact absurd (Nat.lt_of_lt_of_le q.lt (by rw [z]; exact hb)) (Nat.lt_irrefl _)
 · exact absurd (Nat.lt_of_lt_of_le (Heap.lt_size (I.pin p hp).1) (by rw [z]; exact hb)) (Nat.lt_irrefl _)
structure Turn (P : Program) (w : World) (K : W.Frag) (tg : Expr) (J : It) (fp : List Addr) (it : Addr) (tn : Nat → Heap → Prop) : Prop where
 mem : it ∈ fp
 obj : ∀ i h, tn i h → ∀ b ∈ fp, ∃ o, h.get? b = some o ∧ ∀ v, o.data ≠ .cell v
 keep : ∀ i h h', tn i h → (∀ b ∈ fp, ∀ o, h.get? b = some o → h'.get? b = some o) → tn i h'
 item : ∀ (X : Cx), X.prog = P → X.w = w → X.K = K → X.calm = true → ∀ (i : Nat) (pins : List (Addr × Obj)) (s : Shared) (σ : St) (H : Hp) (E : Value → Shared → Prop), Inv X pins σ H s → (∀ b ∈ fp, FpOk X pins H b) → tn i s.heap → J.go i H →
   wpAny (model P w) X.A (pyNext (.ref it)) (fun r s1 => ∃ u, r = some u ∧
     wpAny (model P w) X.A (letOwnedTupleGo tg (.ref it) u) (fun _ s2 => ∃ x H', Inv X pins σ H' s2 ∧ RelV x u ∧ J.yld i H x H' ∧ tn (i + 1) s2.heap ∧ ∀ b ∈ fp, H' b = none) E s1) E s
 done : ∀ (X : Cx), X.prog = P → X.w = w → X.K = K → X.calm = true → ∀ (i : Nat) (pins : List (Addr × Obj)) (s : Shared) (σ : St) (H : Hp) (E : Value → Shared → Prop), Inv X pins σ H s → (∀ b ∈ fp, FpOk X pins H b) → tn i s.heap → J.stop i H →
   wpAny (model P w) X.A (pyNext (.ref it)) (fun r s1 => r = none ∧ Inv X pins σ H s1) E s
 self : ∀ (A : Around) (i : Nat) (s : Shared) (Q : Value → Shared → Prop) (E : Value → Shared → Prop), tn i s.heap → Q (.ref it) s → wpAny (model P w) A (pyIter (.ref it)) Q E s
abbrev TI := St → Hp → (It → Hp → Prop) → Prop
def PIE (X : Cx) (pins : List (Addr × Obj)) (σ : St) (tg : Expr) (R : It → Hp → Prop) (itv : Value) (s2 : Shared) : Prop :=
 ∃ (it : Addr) (fp : List Addr) (tn : Nat → Heap → Prop) (J : It) (H' : Hp), itv = .ref it ∧ Inv X pins σ H' s2 ∧ Turn X.prog X.w X.K tg J fp it tn ∧ tn 0 s2.heap ∧ (∀ b ∈ fp, FpOk X pins H' b) ∧ R J H'
def PI (X : Cx) (tg iter : Expr) (wi : TI) : Prop :=
 ∀ (pins : List (Addr × Obj)) (s : Shared) (σ : St) (H : Hp) (R : It → Hp → Prop), Inv X pins σ H s → wi σ H R →
   wpAny (model X.prog X.w) X.A (eval iter X.env) (fun v s1 => wpAny (model X.prog X.w) X.A (pyIter v) (PIE X pins σ tg R) X.xe s1) X.xe s
theorem go_of {M : Model} {A : Around} {E : Value → Shared → Prop} {s : Shared} {tg : Expr} {it : Addr} {u : Value} {o : Obj} {n : String} {vs : Array Value} {Q : Unit → Shared → Prop} (ho : s.heap.get? it = some o) (hc : o.cls = .type n) (hd : o.data = .fields vs)
   (hn : ["enumerate", "zip", "dict_itemiterator", "dict_reverseitemiterator", "odict_iterator", "itertools.zip_longest", "itertools.pairwise"].contains n = false) (hQ : Q () s) : wpAny M A (letOwnedTupleGo tg (.ref it) u) Q E s := by
 unfold letOwnedTupleGo
 cases tg <;> first
   | exact wpAny_pure hQ
   | (cases u <;> first
       | exact wpAny_pure hQ
       | (refine wpAny_bind (wpAny_load ho ?_)
          rw [hc, hd]
          show wpAny M A (if (["enumerate", "zip", "dict_itemiterator", "dict_reverseitemiterator", "odict_iterator", "itertools.zip_longest", "itertools.pairwise"].contains n && vs[0]? == some (rawInt _)) = true then _ else _) Q E s
          rw [if_neg (by intro h; rw [hn, Bool.false_and] at h; cases h)]
          exact wpAny_pure hQ))
def Itl (K : W.Frag) (a : Addr) : It :=
 ⟨fun i H => ∃ xs x, SqL K H a xs ∧ xs[i]? = some x, fun i H x H' => H' = H ∧ ∀ xs, SqL K H a xs → xs[i]? = some x, fun i H => ∃ xs, SqL K H a xs ∧ xs.length ≤ i⟩
def Itr (lo : Int) (n : Nat) : It := ⟨fun i _ => i < n, fun i H x H' => H' = H ∧ x = .int (lo + i), fun i _ => n ≤ i⟩
theorem turn_list {P : Program} {w : World} {K : W.Frag} {tg : Expr} (a it : Addr) : Turn P w K tg (Itl K a) [it] it (fun i h => h.IsListIter it a i) where
 mem := by simp
 obj := fun i h st b hb => by
   have e : b = it := by simpa using hb
   subst e
   obtain ⟨o, e, c, d⟩ := st
   exact ⟨o, e, fun v z => by rw [d] at z; cases z⟩
 keep := fun i h h' st k => st.at fun o e => k it (by simp) o e
 item := by
   intro X hP hw hK hc i pins s σ H E I hf st hg
   subst hP hw hK
   obtain ⟨xs, x, hq, hx⟩ := hg
   obtain ⟨its, rv, p, hz⟩ := I.list hq
   obtain ⟨u, hu, ru⟩ := rv.get hx
   obtain ⟨f0, f1, f2, f3, f4, f5⟩ := hf it (by simp)
   refine wpAny_pyNext_list_item st p.isList (x := u) (by simpa using hu) fun h' st' sb => ?_
   have I1 : Inv X pins σ H { s with heap := h' } := I.turned (t' := s.toks) (fun b o hb e => (sb.2 b hb).trans e) f0 f1 f3 f4 f5
   obtain ⟨o, e, c, d⟩ := id st'
   exact ⟨u, rfl, go_of (s := { s with heap := h' }) e c d (by decide) ⟨x, H, I1, ru, ⟨rfl, fun ys hy => by rw [I.list_inj hy hq]; exact hx⟩, st', fun b hb => (hf b hb).1⟩⟩
 done := by
   intro X hP hw hK hc i pins s σ H E I hf st hg
   subst hP hw hK
   obtain ⟨xs, hq, hx⟩ := hg
   obtain ⟨its, rv, p, hz⟩ := I.list hq
   obtain ⟨f0, f1, f2, f3, f4, f5⟩ := hf it (by simp)
   have hl := rv.length
   exact wpAny_pyNext_list_end (I.ok.hd hc) st p.isList (by simp; omega) fun h' eb => ⟨rfl, I.turned (t' := s.toks) (fun b o hb e => eb b o hb e) f0 f1 f3 f4 f5⟩
 self := fun _ _ _ _ _ st h => wpAny_pyIter_listiter st h
theorem turn_range {P : Program} {w : World} {K : PySem.W.Frag} {tg : Expr} (it : Addr) (lo : Int) (n : Nat) : Turn P w K tg (Itr lo n) [it] it (fun i h => IsRangeIter h it (lo + (i : Nat) * 1) ((n : Int) - (i : Nat)) 1) where
 mem := by simp
 obj := fun i h st b hb => by
   have e : b = it := by simpa using hb
   subst e
   exact ⟨_, st, fun v z => by
     have z' : Data.fields _ = Data.cell v := z
     cases z'⟩
 keep := fun i h h' st k => k it (by simp) _ st
 item := by
   intro X hP hw hK hc i pins s σ H E I hf st hg
   subst hP hw hK
   obtain ⟨f0, f1, f2, f3, f4, f5⟩ := hf it (by simp)
   have W := Walks.range (prog := X.prog) (w := X.w) (I.ok.hd hc) it lo 1 n
   refine W.item i s _ _ hg st fun v h' tk hv st' kk => ?_
   obtain ⟨t, rfl⟩ := hv
   have I1 : Inv X pins σ H { s with heap := h', toks := tk } := I.turned (fun b o hb e => kk b o (by simpa using hb) e) f0 f1 f3 f4 f5
   refine ⟨_, rfl, go_of (s := { s with heap := h', toks := tk }) (n := "range_iterator") st' rfl rfl (by decide) ⟨.int (lo + i), H, I1, ⟨t, ?_⟩, ⟨rfl, rfl⟩, st', fun b hb => (hf b hb).1⟩⟩
   rw [Int.mul_one]
 done := by
   intro X hP hw hK hc i pins s σ H E I hf st hg
   subst hP hw hK
   obtain ⟨f0, f1, f2, f3, f4, f5⟩ := hf it (by simp)
   exact wpAny_pyNext_range_end (I.ok.hd hc) st (by have : n ≤ i := hg; omega) fun h' eb => ⟨rfl, I.turned (t' := s.toks) (fun b o hb e => eb b o hb e) f0 f1 f3 f4 f5⟩
 self := fun _ _ _ _ _ st h => wpAny_pyIter_rangeiter st h
end L2
namespace L2
open PySem PySem.Spec PyProof.Rows
section
variable {X : Cx} {tg : Expr}
def iList (K : W.Frag) (tl : TE) : TI := fun σ H R => tl σ H fun x H1 => ∃ a, x = .ref a ∧ (∃ xs, SqL K H1 a xs) ∧ R (Itl K a) H1
theorem pi_list {l : Expr} {tl : TE} (hl : PE X l tl) : PI X tg l (iList X.K tl) := by
 intro pins s σ H R I h
 refine thn (hl pins s σ H _ I h) fun v s1 ⟨x, H1, I1, r1, q1⟩ => ?_
 obtain ⟨a, e, ⟨xs, hq⟩, q⟩ := q1
 subst e
 cases r1
 obtain ⟨its, rv, p, hz⟩ := I1.list hq
 refine wpAny_pyIter_list p.isList ?_
 refine ⟨s1.heap.objs.size, [s1.heap.objs.size], _, _, H1, rfl, I1.kept (t' := s1.toks) fun b o e => Heap.get?_push_of_some _ e, turn_list a _, ⟨_, Heap.get?_push_size _ rfl, rfl, rfl⟩, fun b hb => ?_, q⟩
 have e : b = s1.heap.objs.size := by simpa using hb
 subst e
 exact I1.fpOk (Nat.le_refl _) (I1.hok.fresh (Nat.le_refl _))
theorem range_it {pins : List (Addr × Obj)} {σ : St} {H : Hp} {s : Shared} {R : It → Hp → Prop} {E : Value → Shared → Prop} {lo hi : Int} {t u v : Tok} {tk : Nat} (I : Inv X pins σ H s) (h1 : -(2 ^ 62) ≤ lo) (h2 : lo < 2 ^ 62) (h3 : -(2 ^ 62) ≤ hi) (h4 : hi < 2 ^ 62)
   (q : R (Itr lo (hi - lo).toNat) H) : wpAny (model X.prog X.w) X.A (pyIter (.ref s.heap.objs.size)) (PIE X pins σ tg R) E { s with heap := s.heap.push { cls := .type "range", data := .fields #[.int lo t, .int hi u, .int 1 v] }, toks := tk } := by
 refine wpAny_pyIter_range (IsRange.new ..) (small_one h1 h2 h3 h4) ?_
 have I1 : Inv X pins σ H { s with heap := s.heap.push { cls := .type "range", data := .fields #[.int lo t, .int hi u, .int 1 v] }, toks := tk } := I.kept fun b o e => Heap.get?_push_of_some _ e
 refine ⟨(s.heap.push { cls := .type "range", data := .fields #[.int lo t, .int hi u, .int 1 v] }).objs.size, [(s.heap.push { cls := .type "range", data := .fields #[.int lo t, .int hi u, .int 1 v] }).objs.size], _, _, H, rfl,
   I1.kept (t' := tk) fun b o e => Heap.get?_push_of_some _ e, turn_range _ lo (hi - lo).toNat, ?_, fun b hb => ?_, q⟩
 · have e1 : lo + ((0 : Nat) : Int) * 1 = lo := by simp
   have e2 : (((hi - lo).toNat : Nat) : Int) - ((0 : Nat) : Int) = Builtin.Range.rangeSize lo hi 1 := by rw [rangeSize_one]; split <;> omega
   show IsRangeIter _ _ (lo + ((0 : Nat) : Int) * 1) ((((hi - lo).toNat : Nat) : Int) - ((0 : Nat) : Int)) 1
   rw [e1, e2]
   exact Heap.get?_push_size _ rfl
 · have e : b = (s.heap.push { cls := .type "range", data := .fields #[.int lo t, .int hi u, .int 1 v] }).objs.size := by simpa using hb
   subst e
   exact I1.fpOk (Nat.le_refl _) (I1.hok.fresh (Nat.le_refl _))
def iRng1 (ta : TA) : TI := fun σ H R => ta σ H fun vs H1 => ∃ j : Int, vs = [.int j] ∧ -(2 ^ 62) ≤ j ∧ j < 2 ^ 62 ∧ R (Itr 0 j.toNat) H1
theorem pi_range1 {a : Expr} {ta : TA} {p pos : Pos} (hg : Gl X "range") (hm : X.mg "range" = none) (ha : PA X [a] ta) (hs : starEach [a] X.env = [(false, eval a X.env)] := by rfl) : PI X tg (.Call (.Name "range" p) [a] [] pos) (iRng1 ta) := by
 intro pins s σ H R I h
 refine Call_ (ld_blt I hg hm boot_range (PyProof.Rows.callWith_type1 (thn (ha pos pins s σ H _ I h) fun us s1 ⟨vs, H1, I1, r1, q1⟩ => ?_) hs rfl))
 obtain ⟨j, e, q1, q2, q⟩ := q1
 subst e
 cases r1 with
 | cons r rr =>
   cases rr
   obtain ⟨t, rfl⟩ := r
   exact call_range_1 (range_it I1 (by omega) (by omega) q1 q2 (by simpa using q))
def tFor (wi : TI) (g : TG) (tb : TS) : TS := fun D σ H => wi σ H fun J H1 => ∃ W : Nat → Nat → St → Hp → Prop, (∃ m, W 0 m σ H1) ∧ ∀ i m σ H, W i m σ H →
 (J.stop i H ∧ D.nx σ H) ∨ (J.go i H ∧ ∃ N : St → Hp → Prop, (∀ σ' H', N σ' H' → ∃ m', m' < m ∧ W (i + 1) m' σ' H') ∧ ∀ x H', J.yld i H x H' → g x σ H' fun σ2 H2 => tb { D with nx := N, ct := N, bk := D.nx } σ2 H2)
def pinsAt (fp : List Addr) (h : Heap) : List (Addr × Obj) := fp.filterMap fun b => (h.get? b).map fun o => (b, o)
theorem mem_pinsAt {fp : List Addr} {h : Heap} {b : Addr} {o : Obj} (hb : b ∈ fp) (e : h.get? b = some o) : (b, o) ∈ pinsAt fp h := List.mem_filterMap.mpr ⟨b, hb, by rw [e]; rfl⟩
theorem of_pinsAt {fp : List Addr} {h : Heap} {p : Addr × Obj} (hp : p ∈ pinsAt fp h) : p.1 ∈ fp ∧ h.get? p.1 = some p.2 := by
 obtain ⟨b, hb, e⟩ := List.mem_filterMap.mp hp
 cases q : h.get? b with
 | none => rw [q] at e; cases e
 | some o =>
   rw [q] at e
   have e' : (b, o) = p := Option.some.inj e
   subst e'
   exact ⟨hb, q⟩
theorem Inv.pinned {pins : List (Addr × Obj)} {σ : St} {H : Hp} {s : Shared} {fp : List Addr} (I : Inv X pins σ H s) (hf : ∀ b ∈ fp, FpOk X pins H b) (ho : ∀ b ∈ fp, ∃ o, s.heap.get? b = some o ∧ ∀ v, o.data ≠ .cell v) : Inv X (pins ++ pinsAt fp s.heap) σ H s :=
 I.pins_of fun p hp => (List.mem_append.mp hp).elim (fun z => I.pin p (List.mem_append_right _ z)) fun z => by
   obtain ⟨hb, e⟩ := of_pinsAt z
   obtain ⟨f0, f1, f2, _⟩ := hf p.1 hb
   obtain ⟨o, e', d⟩ := ho p.1 hb
   rw [e] at e'; cases e'
   exact ⟨e, f0, f1, f2, d⟩
theorem Inv.unpinned {pins pl : List (Addr × Obj)} {σ : St} {H : Hp} {s : Shared} (I : Inv X (pins ++ pl) σ H s) : Inv X pins σ H s := I.pins_of fun p hp => I.pin p (List.mem_append_right _ (List.mem_append_left _ hp))
theorem ps_for {iter : Expr} {body : List Stmt} {wi : TI} {g : TG} {tb : TS} {pos : Pos} (hp : PassesOwn (model X.prog X.w) X.A X.env X.xe) (hc : X.calm = true) (hi : PI X tg iter wi) (hg : PG X tg g) (hb : PSs X body tb)
   (hs : ∀ x, foldedSetIterable iter X.env x = pure x := by intro _; rfl) : PS X (.For tg iter body [] pos) (tFor wi g tb) := by
 intro pins s σ H D I h
 refine wpAny_For (thn (hi pins s σ H _ I h) fun v s1 h1 => thn h1 fun itv s2 h2 => ?_) hs
 obtain ⟨it, fp, tn, J, H2, e, I2, T, st2, f2, W, ⟨m0, w0⟩, turn⟩ := h2
 subst e
 have stat : ∀ {H' : Hp}, (∀ b ∈ fp, H' b = none) → ∀ b ∈ fp, FpOk X pins H' b := fun hn b hb => ⟨hn b hb, (f2 b hb).2⟩
 refine codeAny_forLoop_any (fun n s' => ∃ i σ' H', Inv X pins σ' H' s' ∧ tn i s'.heap ∧ (∀ b ∈ fp, H' b = none) ∧ W i n σ' H') ?_ m0 ⟨0, σ, H2, I2, st2, fun b hb => (f2 b hb).1, w0⟩
 rintro n s3 ⟨i, σ3, H3, I3, st3, fr3, w3⟩
 rcases turn i n σ3 H3 w3 with ⟨stop, qn⟩ | ⟨go, N, hN, step⟩
 · refine wpAny_passesOwn hp (thn (T.done X rfl rfl rfl hc i pins s3 σ3 H3 X.xe I3 (stat fr3) st3 stop) fun r s4 ⟨hr, I4⟩ => ?_)
   subst hr
   exact wpAny_execs_nil ⟨σ3, H3, I4, qn⟩
 · refine wpAny_passesOwn hp (thn (T.item X rfl rfl rfl hc i pins s3 σ3 H3 X.xe I3 (stat fr3) st3 go) fun r s4 ⟨u, hr, h4⟩ => ?_)
   subst hr
   refine wpAny_passesOwn hp (thn h4 fun _ s5 ⟨x, H5, I5, r5, y5, st5, fr5⟩ => ?_)
   have I5' := I5.pinned (stat fr5) (T.obj _ _ st5)
   refine wpAny_passesOwn hp (thn (hg _ s5 σ3 H5 x u _ I5' r5 (step x H5 y5)) fun _ s6 ⟨σ6, H6, I6, q6⟩ => ?_)
   refine wpAny_passesOwn hp (thn (hb _ s6 σ6 H6 _ I6 q6) fun f s7 q7 => ?_)
   have again : ∀ {σ7 : St} {H7 : Hp}, Inv X (pins ++ pinsAt fp s5.heap) σ7 H7 s7 → N σ7 H7 → ∃ m, m < n ∧ ∃ i σ' H', Inv X pins σ' H' s7 ∧ tn i s7.heap ∧ (∀ b ∈ fp, H' b = none) ∧ W i m σ' H' := fun {σ7 H7} I7 n7 => by
     obtain ⟨m', hm, w7⟩ := hN σ7 H7 n7
     refine ⟨m', hm, i + 1, σ7, H7, I7.unpinned, T.keep _ _ _ st5 fun b hb o e => (I7.pin (b, o) (List.mem_append_right _ (List.mem_append_right _ (mem_pinsAt hb e)))).1, fun b hb => ?_, w7⟩
     obtain ⟨o, e, d⟩ := T.obj _ _ st5 b hb
     exact (I7.pin (b, o) (List.mem_append_right _ (List.mem_append_right _ (mem_pinsAt hb e)))).2.1
   cases f with
   | next => obtain ⟨σ7, H7, I7, n7⟩ := q7; exact again I7 n7
   | cont => obtain ⟨σ7, H7, I7, n7⟩ := q7; exact again I7 n7
   | brk => obtain ⟨σ7, H7, I7, q7⟩ := q7; exact ⟨σ7, H7, I7.unpinned, q7⟩
   | ret v => obtain ⟨x7, σ7, H7, I7, r7, q7⟩ := q7; exact ⟨x7, σ7, H7, I7.unpinned, r7, q7⟩
end
theorem for_list {K : PySem.W.Frag} {a : Addr} {xs : List V} {g : TG} {tb : TS} {D : Ends} {σ : St} {H : Hp} (Pv : Nat → St → Hp → Prop) (h0 : Pv 0 σ H) (hl : ∀ i σ H, i ≤ xs.length → Pv i σ H → SqL K H a xs)
   (hs : ∀ i x σ H, xs[i]? = some x → Pv i σ H → g x σ H fun σ2 H2 => tb { D with nx := Pv (i + 1), ct := Pv (i + 1), bk := D.nx } σ2 H2) (hd : ∀ σ H, Pv xs.length σ H → D.nx σ H) :
   ∃ W : Nat → Nat → St → Hp → Prop, (∃ m, W 0 m σ H) ∧ ∀ i m σ H, W i m σ H →
     ((Itl K a).stop i H ∧ D.nx σ H) ∨ ((Itl K a).go i H ∧ ∃ N : St → Hp → Prop, (∀ σ' H', N σ' H' → ∃ m', m' < m ∧ W (i + 1) m' σ' H') ∧ ∀ x H', (Itl K a).yld i H x H' → g x σ H' fun σ2 H2 => tb { D with nx := N, ct := N, bk := D.nx } σ2 H2) := by
 refine ⟨fun i m σ H => m = xs.length - i ∧ i ≤ xs.length ∧ Pv i σ H, ⟨xs.length, by simp, Nat.zero_le _, h0⟩, ?_⟩
 rintro i m σ H ⟨rfl, hi, p⟩
 have q := hl i σ H hi p
 by_cases hlt : i < xs.length
 · refine .inr ⟨⟨xs, xs[i], q, by simp [hlt]⟩, Pv (i + 1), fun σ' H' p' => ⟨xs.length - (i + 1), by omega, rfl, hlt, p'⟩, fun x H' y => ?_⟩
   obtain ⟨e, y⟩ := y
   subst e
   exact hs i x σ _ (y xs q) p
 · have e : i = xs.length := by omega
   subst e
   exact .inl ⟨⟨xs, q, Nat.le_refl _⟩, hd σ H p⟩
theorem for_range {lo : Int} {n : Nat} {g : TG} {tb : TS} {D : Ends} {σ : St} {H : Hp} (Pv : Nat → St → Hp → Prop) (h0 : Pv 0 σ H)
   (hs : ∀ i σ H, i < n → Pv i σ H → g (.int (lo + i)) σ H fun σ2 H2 => tb { D with nx := Pv (i + 1), ct := Pv (i + 1), bk := D.nx } σ2 H2) (hd : ∀ σ H, Pv n σ H → D.nx σ H) :
   ∃ W : Nat → Nat → St → Hp → Prop, (∃ m, W 0 m σ H) ∧ ∀ i m σ H, W i m σ H →
     ((Itr lo n).stop i H ∧ D.nx σ H) ∨ ((Itr lo n).go i H ∧ ∃ N : St → Hp → Prop, (∀ σ' H', N σ' H' → ∃ m', m' < m ∧ W (i + 1) m' σ' H') ∧ ∀ x H', (Itr lo n).yld i H x H' → g x σ H' fun σ2 H2 => tb { D with nx := N, ct := N, bk := D.nx } σ2 H2) := by
 refine ⟨fun i m σ H => m = n - i ∧ i ≤ n ∧ Pv i σ H, ⟨n, by simp, Nat.zero_le _, h0⟩, ?_⟩
 rintro i m σ H ⟨rfl, hi, p⟩
 by_cases hlt : i < n
 · refine .inr ⟨hlt, Pv (i + 1), fun σ' H' p' => ⟨n - (i + 1), by omega, rfl, hlt, p'⟩, fun x H' y => ?_⟩
   obtain ⟨e, y⟩ := y
   subst e y
   exact hs i σ _ hlt p
 · have e : i = n := by omega
   subst e
   exact .inl ⟨Nat.le_refl _, hd σ H p⟩
end L2
namespace L2
open PySem PySem.Spec PyProof.Rows
abbrev R2 := V → V → Hp → VK → Prop
def OpR (X : Cx) (f : Value → Value → Sem Value) (r : R2) : Prop :=
 ∀ (pins : List (Addr × Obj)) (s : Shared) (σ : St) (H : Hp) (x y : V) (v u : Value) (Q : VK), Inv X pins σ H s → RelV x v → RelV y u → r x y H Q →
   wpAny (model X.prog X.w) X.A (f v u) (EP X pins σ Q) X.xe s
def CallR (X : Cx) (f : Value) (r : List V → Hp → VK → Prop) : Prop :=
 ∀ (pins : List (Addr × Obj)) (s : Shared) (σ : St) (H : Hp) (xs : List V) (us : List Value) (Q : VK), Inv X pins σ H s → Vals xs us → r xs H Q →
   wpAny (model X.prog X.w) X.A (call f us) (EP X pins σ Q) X.xe s
def tOp (r : R2) (ta tb : TE) : TE := fun σ H Q => ta σ H fun x H1 => tb σ H1 fun y H2 => r x y H2 Q
def tUn (r : V → Hp → VK → Prop) (ta : TE) : TE := fun σ H Q => ta σ H fun x H1 => r x H1 Q
def rI (C : Int → Int → Prop) (g : Int → Int → V) : R2 := fun x y H Q => ∃ i j, x = .int i ∧ y = .int j ∧ C i j ∧ Q (g i j) H
def rI0 (g : Int → Int → V) : R2 := fun x y H Q => ∃ i j, x = .int i ∧ y = .int j ∧ Q (g i j) H
section
variable {X : Cx} {a b c : Expr} {ta tb tc : TE} {pos : Pos}
theorem binT (ha : PE X a ta) (hb : PE X b tb) {pins : List (Addr × Obj)} {s : Shared} {σ : St} {H : Hp} {R : V → V → Hp → Prop} (I : Inv X pins σ H s)
   (h : ta σ H fun x H1 => tb σ H1 fun y H2 => R x y H2) {Q : Value → Shared → Prop} {f : Value → Value → Sem Value}
   (hf : ∀ v u s2 x y H2, Inv X pins σ H2 s2 → RelV x v → RelV y u → R x y H2 → wpAny (model X.prog X.w) X.A (f v u) Q X.xe s2) :
   wpAny (model X.prog X.w) X.A (eval a X.env) (fun v s₁ => wpAny (model X.prog X.w) X.A (eval b X.env) (fun u s₂ => wpAny (model X.prog X.w) X.A (f v u) Q X.xe s₂) X.xe s₁) X.xe s := by
 refine thn (ha pins s σ H _ I h) fun v s1 ⟨x, H1, I1, r1, q1⟩ => ?_
 refine thn (hb pins s1 σ H1 _ I1 q1) fun u s2 ⟨y, H2, I2, r2, q2⟩ => ?_
 exact hf v u s2 x y H2 I2 r1 r2 q2
theorem pe_op {op : Operator} {r : R2} (ho : OpR X (binaryOp op) r) (ha : PE X a ta) (hb : PE X b tb) : PE X (.BinOp a op b pos) (tOp r ta tb) := by
 intro pins s σ H Q I h
 exact wpAny_BinOp (binT ha hb I h fun v u s2 x y H2 I2 rx ry q => ho pins s2 σ H2 x y v u Q I2 rx ry q)
theorem opI {f : Value → Value → Sem Value} {C : Int → Int → Prop} {g : Int → Int → Int}
   (rule : ∀ (i j : Int) (t u : Tok) (s : Shared) (Q : Value → Shared → Prop) (E : Value → Shared → Prop), C i j → Q (.int (g i j) s.toks) { s with toks := s.toks + 1 } → wpAny (model X.prog X.w) X.A (f (.int i t) (.int j u)) Q E s) :
   OpR X f (rI C fun i j => .int (g i j)) := by
 intro pins s σ H x y v u Q I rx ry h
 obtain ⟨i, j, rfl, rfl, hc, q⟩ := h
 obtain ⟨t, rfl⟩ := rx
 obtain ⟨t', rfl⟩ := ry
 exact rule i j t t' s _ _ hc ⟨.int (g i j), H, I.tok _, ⟨_, rfl⟩, q⟩
theorem opI0 {f : Value → Value → Sem Value} {g : Int → Int → Int}
   (rule : ∀ (i j : Int) (t u : Tok) (s : Shared) (Q : Value → Shared → Prop) (E : Value → Shared → Prop), Q (.int (g i j) s.toks) { s with toks := s.toks + 1 } → wpAny (model X.prog X.w) X.A (f (.int i t) (.int j u)) Q E s) :
   OpR X f (rI0 fun i j => .int (g i j)) := by
 intro pins s σ H x y v u Q I rx ry h
 obtain ⟨i, j, rfl, rfl, q⟩ := h
 obtain ⟨t, rfl⟩ := rx
 obtain ⟨t', rfl⟩ := ry
 exact rule i j t t' s _ _ ⟨.int (g i j), H, I.tok _, ⟨_, rfl⟩, q⟩
theorem opB0 {f : Value → Value → Sem Value} {g : Int → Int → Bool}
   (rule : ∀ (i j : Int) (t u : Tok) (s : Shared) (Q : Value → Shared → Prop) (E : Value → Shared → Prop), Q (.bool (g i j)) s → wpAny (model X.prog X.w) X.A (f (.int i t) (.int j u)) Q E s) :
   OpR X f (rI0 fun i j => .bl (g i j)) := by
 intro pins s σ H x y v u Q I rx ry h
 obtain ⟨i, j, rfl, rfl, q⟩ := h
 obtain ⟨t, rfl⟩ := rx
 obtain ⟨t', rfl⟩ := ry
 exact rule i j t t' s _ _ ⟨.bl (g i j), H, I, rfl, q⟩
def CDiv (i j : Int) : Prop := 0 < j ∧ j < 1073741824
def CMul (i j : Int) : Prop := (-(2 ^ 64) < i ∧ i < 2 ^ 64) ∨ (-(2 ^ 64) < j ∧ j < 2 ^ 64)
theorem CMul.ok {i j : Int} (h : CMul i j) : IntMulOk i j := by
 rcases h with ⟨h1, h2⟩ | ⟨h1, h2⟩
 · exact .of_left (intBits_le_64 h1 h2)
 · exact .of_right (intBits_le_64 h1 h2)
theorem op_add : OpR X (binaryOp .Add) (rI0 fun i j => .int (i + j)) := opI0 fun _ _ _ _ _ _ _ q => add_int q
theorem op_sub : OpR X (binaryOp .Sub) (rI0 fun i j => .int (i - j)) := opI0 fun _ _ _ _ _ _ _ q => sub_int q
theorem op_mul : OpR X (binaryOp .Mult) (rI CMul fun i j => .int (i * j)) := opI fun _ _ _ _ _ _ _ hc q => mul_int q hc.ok
theorem op_fdiv : OpR X (binaryOp .FloorDiv) (rI CDiv fun i j => .int (i / j)) := opI fun i j _ _ _ _ _ hc q => by
 have h1 : (0 : Int) < j := hc.1
 have h2 : j < 1073741824 := hc.2
 exact floordiv_int (by omega) (by rw [Int.fdiv_eq_ediv_of_nonneg i (by omega)]; exact q) (.inl (PyProof.noPylong_small (by omega)))
theorem op_mod : OpR X (binaryOp .Mod) (rI (fun _ j => 0 < j) fun i j => .int (i % j)) := opI fun i j _ _ _ _ _ hc q => by
 have h1 : (0 : Int) < j := hc
 exact mod_int' (by omega) (by rw [Int.fmod_eq_emod_of_nonneg i (by omega)]; exact q)
end
def scal : V → V → Bool
 | .non, .non => true | .non, .int _ => true | .int _, .non => true | .non, .bl _ => true | .bl _, .non => true | .non, .str _ => true | .str _, .non => true
 | .int _, .int _ => true | .bl _, .bl _ => true | .str _, .str _ => true | .byt _, .byt _ => true
 | .int _, .str _ => true | .str _, .int _ => true | .bl _, .str _ => true | .str _, .bl _ => true
 | _, _ => false
def rEq : R2 := fun x y H Q => scal x y = true ∧ Q (.bl (decide (x = y))) H
def rNe : R2 := fun x y H Q => scal x y = true ∧ Q (.bl (!decide (x = y))) H
theorem dec_int {i j : Int} : decide (V.int i = V.int j) = (i == j) := by
 rw [Bool.eq_iff_iff]
 simp
theorem dec_bl {i j : Bool} : decide (V.bl i = V.bl j) = (i == j) := by
 rw [Bool.eq_iff_iff]
 simp
theorem dec_str {i j : Str} : decide (V.str i = V.str j) = (i == j) := by
 rw [Bool.eq_iff_iff]
 simp
theorem dec_byt {i j : Array UInt8} : decide (V.byt i = V.byt j) = (i.toList == j.toList) := by
 rw [Bool.eq_iff_iff]
 cases i
 cases j
 simp
section
variable {X : Cx} {a b c : Expr} {ta tb tc : TE} {pos : Pos}
theorem fin_bl {pins : List (Addr × Obj)} {σ : St} {H : Hp} {s : Shared} {Q : VK} {k k' : Bool} (I : Inv X pins σ H s) (q : Q (.bl k) H) (e : k = k') : EP X pins σ Q (.bool k') s := by
 subst e
 exact ⟨.bl k, H, I, rfl, q⟩
theorem op_eq : OpR X (compareOp .Eq) rEq := by
 intro pins s σ H x y v u Q I rx ry h
 obtain ⟨hs, q⟩ := h
 cases x with
 | non =>
   cases rx
   cases y with
   | non => cases ry; exact PySem.EqNone.eq_none_none (fin_bl I q (by simp))
   | bl j => cases ry; exact PySem.EqNone.eq_none_bool (fin_bl I q (by simp))
   | int j => obtain ⟨t', rfl⟩ := ry; exact PySem.EqNone.eq_none_int (fin_bl I q (by simp))
   | str j => obtain ⟨t', rfl⟩ := ry; exact PySem.EqNone.eq_none_str (fin_bl I q (by simp))
   | _ => exact absurd (show false = true from hs) Bool.false_ne_true
 | bl i =>
   cases rx
   cases y with
   | non => cases ry; exact PySem.EqNone.eq_bool_none (fin_bl I q (by simp))
   | bl j => cases ry; exact eq_bool (fin_bl I q dec_bl)
   | str j => obtain ⟨t', rfl⟩ := ry; exact PySem.EqMixed.eq_bool_str (fin_bl I q (by simp))
   | _ => exact absurd (show false = true from hs) Bool.false_ne_true
 | int i =>
   obtain ⟨t, rfl⟩ := rx
   cases y with
   | non => cases ry; exact PySem.EqNone.eq_int_none (fin_bl I q (by simp))
   | int j => obtain ⟨t', rfl⟩ := ry; exact eq_int (fin_bl I q dec_int)
   | str j => obtain ⟨t', rfl⟩ := ry; exact PySem.EqMixed.eq_int_str (fin_bl I q (by simp))
   | _ => exact absurd (show false = true from hs) Bool.false_ne_true
 | str i =>
   obtain ⟨t, rfl⟩ := rx
   cases y with
   | non => cases ry; exact PySem.EqNone.eq_str_none (fin_bl I q (by simp))
   | bl j => cases ry; exact PySem.EqMixed.eq_str_bool (fin_bl I q (by simp))
   | int j => obtain ⟨t', rfl⟩ := ry; exact PySem.EqMixed.eq_str_int (fin_bl I q (by simp))
   | str j => obtain ⟨t', rfl⟩ := ry; exact eq_str (fin_bl I q dec_str)
   | _ => exact absurd (show false = true from hs) Bool.false_ne_true
 | byt i =>
   obtain ⟨t, rfl⟩ := rx
   cases y with
   | byt j => obtain ⟨t', rfl⟩ := ry; exact W.eq_bytes (fin_bl I q dec_byt)
   | _ => exact absurd (show false = true from hs) Bool.false_ne_true
 | _ => cases y <;> exact absurd (show false = true from hs) Bool.false_ne_true
theorem op_ne : OpR X (compareOp .NotEq) rNe := by
 intro pins s σ H x y v u Q I rx ry h
 obtain ⟨hs, q⟩ := h
 cases x with
 | non =>
   cases rx
   cases y with
   | non => cases ry; exact PySem.EqNone.ne_none_none (fin_bl I q (by simp))
   | bl j => cases ry; exact PySem.EqNone.ne_none_bool (fin_bl I q (by simp))
   | int j => obtain ⟨t', rfl⟩ := ry; exact PySem.EqNone.ne_none_int (fin_bl I q (by simp))
   | str j => obtain ⟨t', rfl⟩ := ry; exact PySem.EqNone.ne_none_str (fin_bl I q (by simp))
   | _ => exact absurd (show false = true from hs) Bool.false_ne_true
 | bl i =>
   cases rx
   cases y with
   | non => cases ry; exact PySem.EqNone.ne_bool_none (fin_bl I q (by simp))
   | bl j => cases ry; exact ne_bool (fin_bl I q (congrArg not dec_bl))
   | str j => obtain ⟨t', rfl⟩ := ry; exact PySem.EqMixed.ne_bool_str (fin_bl I q (by simp))
   | _ => exact absurd (show false = true from hs) Bool.false_ne_true
 | int i =>
   obtain ⟨t, rfl⟩ := rx
   cases y with
   | non => cases ry; exact PySem.EqNone.ne_int_none (fin_bl I q (by simp))
   | int j => obtain ⟨t', rfl⟩ := ry; exact ne_int (fin_bl I q (congrArg not dec_int))
   | str j => obtain ⟨t', rfl⟩ := ry; exact PySem.EqMixed.ne_int_str (fin_bl I q (by simp))
   | _ => exact absurd (show false = true from hs) Bool.false_ne_true
 | str i =>
   obtain ⟨t, rfl⟩ := rx
   cases y with
   | non => cases ry; exact PySem.EqNone.ne_str_none (fin_bl I q (by simp))
   | bl j => cases ry; exact PySem.EqMixed.ne_str_bool (fin_bl I q (by simp))
   | int j => obtain ⟨t', rfl⟩ := ry; exact PySem.EqMixed.ne_str_int (fin_bl I q (by simp))
   | str j => obtain ⟨t', rfl⟩ := ry; exact ne_str (fin_bl I q (congrArg not dec_str))
   | _ => exact absurd (show false = true from hs) Bool.false_ne_true
 | byt i =>
   obtain ⟨t, rfl⟩ := rx
   cases y with
   | byt j => obtain ⟨t', rfl⟩ := ry; exact W.ne_bytes (fin_bl I q (congrArg not dec_byt))
   | _ => exact absurd (show false = true from hs) Bool.false_ne_true
 | _ => cases y <;> exact absurd (show false = true from hs) Bool.false_ne_true
theorem op_lt : OpR X (compareOp .Lt) (rI0 fun i j => .bl (decide (i < j))) := opB0 fun _ _ _ _ _ _ _ q => lt_int q
theorem op_gt : OpR X (compareOp .Gt) (rI0 fun i j => .bl (decide (j < i))) := opB0 fun _ _ _ _ _ _ _ q => gt_int q
theorem op_ge : OpR X (compareOp .GtE) (rI0 fun i j => .bl (decide (j ≤ i))) := opB0 fun _ _ _ _ _ _ _ q => ge_int q
theorem op_isN : OpR X (compareOp .Is) (fun x y H Q => y = .non ∧ Q (.bl (decide (x = .non))) H) := by
 intro pins s σ H x y v u Q I rx ry h
 obtain ⟨rfl, q⟩ := h
 cases ry
 refine is_none_gen (fin_bl I q ?_)
 cases x <;> first
   | (cases rx; rfl)
   | (obtain ⟨t, rfl⟩ := rx; rfl)
theorem nomark (b : Expr) {op : CmpOp} (h : op ≠ .In := by decide) (h2 : op ≠ .NotIn := by decide) : behindInMarks op b = false := by
 have e1 : (op == CmpOp.In) = false := by cases op <;> first | rfl | exact absurd rfl h
 have e2 : (op == CmpOp.NotIn) = false := by cases op <;> first | rfl | exact absurd rfl h2
 cases b <;> simp [behindInMarks, e1, e2]
theorem pe_cmpR {op : CmpOp} {r : R2} (ho : OpR X (compareOp op) r) (ha : PE X a ta) (hb : PE X b tb) (hm : behindInMarks op b = false) : PE X (.Compare a [op] [b] pos) (tOp r ta tb) := by
 intro pins s σ H Q I h
 exact wpAny_Compare1 (binT ha hb I h fun v u s2 x y H2 I2 rx ry q => ho pins s2 σ H2 x y v u Q I2 rx ry q) hm
def tTest (t : TE) : TT := fun σ H Q => t σ H fun x H' => ∃ k, x = .bl k ∧ Q k H'
theorem pt_cmpR {op : CmpOp} {r : R2} (ho : OpR X (compareOp op) r) (ha : PE X a ta) (hb : PE X b tb) (hm : behindInMarks op b = false) : PT X (.Compare a [op] [b] pos) (tTest (tOp r ta tb)) := by
 intro pins s σ H Q I h
 refine wpAny_isTrue_Compare1 (thn (ha pins s σ H _ I h) fun v s1 ⟨x, H1, I1, r1, q1⟩ => thn (hb pins s1 σ H1 _ I1 q1) fun u s2 ⟨y, H2, I2, r2, q2⟩ =>
   thn (ho pins s2 σ H2 x y v u _ I2 r1 r2 q2) fun c s3 ⟨z, H3, I3, r3, k, e, q3⟩ => ?_) hm
 subst e
 cases r3
 exact wpAny_truthy_bool ⟨H3, I3, q3⟩
theorem line63 : (sizeLine : Nat) < 2 ^ 63 := by rw [sizeLine_eq]; decide
theorem vals1 {x : V} {us : List Value} (r : Vals [x] us) : ∃ u, us = [u] ∧ RelV x u := by
 cases r with
 | cons r1 r2 => cases r2; exact ⟨_, rfl, r1⟩
theorem vals2 {x y : V} {us : List Value} (r : Vals [x, y] us) : ∃ u w', us = [u, w'] ∧ RelV x u ∧ RelV y w' := by
 cases r with
 | cons r1 r2 =>
   cases r2 with
   | cons r3 r4 => cases r4; exact ⟨_, _, rfl, r1, r3⟩
theorem call_max2 (hc : X.calm = true) : CallR X (.builtin "max") (fun xs H Q => ∃ i j, xs = [.int i, .int j] ∧ Q (.int (if j > i then j else i)) H) := by
 intro pins s σ H xs us Q I r h
 obtain ⟨i, j, rfl, q⟩ := h
 obtain ⟨u, w', rfl, ⟨t, rfl⟩, ⟨t', rfl⟩⟩ := vals2 r
 refine max_two_ints (I.ok.hd hc) fun h' tk k => ⟨_, H, I.kept k, ?_, q⟩
 by_cases hj : j > i
 · rw [if_pos hj, if_pos hj]; exact ⟨_, rfl⟩
 · rw [if_neg hj, if_neg hj]; exact ⟨_, rfl⟩
end
end L2
namespace L2
open PySem PySem.Spec PyProof.Rows
structure ObjM (h : Heap) (x dx C : Addr) (mA : Str → Option Value) : Prop where
 obj : h.get? x = some (W.instObj C dx)
 ns : h.Ns1 dx mA
 ne : dx ≠ x
theorem lookIn_ns {h : Heap} {dx : Addr} {mA : Str → Option Value} (n : h.Ns1 dx mA) : ∃ od, h.get? dx = some od ∧ ∀ name, W.lookIn name od = some (mA name) := by
 obtain ⟨o, es, ep, ho, hd, hk, _, hm⟩ := n
 refine ⟨o, ho, fun name => ?_⟩
 have e := hm name
 unfold nsFind findBy at e
 rw [← Array.find?_toList] at e
 unfold W.lookIn
 rw [hd]
 dsimp only
 split
 · rename_i y q
   rw [q] at e
   exact congrArg some e
 · rename_i q
   rw [q] at e
   have a : es.toList.any (·.refKey) = false := by
     rw [List.any_eq_false]
     intro y hy
     obtain ⟨z, t, hkey⟩ := hk y (Array.mem_toList_iff.mp hy)
     simp [DictEntry.refKey, hkey]
   have a' : ¬ es.toList.any (·.refKey) = true := by rw [a]; exact Bool.false_ne_true
   rw [if_neg a']
   exact congrArg some e
theorem ObjM.look {h : Heap} {x dx C : Addr} {mA : Str → Option Value} (I : ObjM h x dx C mA) : ∃ od, W.InstAt h x (W.instObj C dx) C (some od) ∧ ∀ name, W.lookIn name od = some (mA name) :=
 let ⟨od, ho, hl⟩ := lookIn_ns I.ns
 ⟨od, ⟨I.obj, rfl, rfl, ho⟩, hl⟩
section
variable {prog : Program} {w : World} {A : Around} {E : Value → Shared → Prop} {s : Shared} {K : W.Frag} {x dx C f : Addr} {mA : Str → Option Value} {name : Str} {v : Value}
theorem get_map {expr : Bool} {Q : Value → Shared → Prop} (X : K.In s.heap) (I : ObjM s.heap x dx C mA) (hg : W.plainGet K C name = true) (hh : W.hasDictIn K C = true)
   (ha : W.findIn K (.ref C) name = some none) (hv : mA name = some v) (hv' : W.handedIn v = true) (h : Q v { s with toks := s.toks + 1 }) :
   wpAny (model prog w) A (getAttr (.ref x) name expr) Q E s := by
 obtain ⟨od, J, hl⟩ := I.look
 exact W.get_value X J (W.plainGet_of hg).1 (W.findObj_own hh ha rfl (by rw [hl, hv])) hv' h
theorem get_meth {pl : Sem Bool} {Q : Value × List Value → Shared → Prop} (X : K.In s.heap) (I : ObjM s.heap x dx C mA) (hg : W.plainGet K C name = true)
   (hf : W.findIn K (.ref C) name = some (some (.ref f))) (ht : W.isFn K (.ref f) = true) (hv : mA name = none) (h : Q (.ref f, [.ref x]) s) :
   wpAny (model prog w) A (getMethod (.ref x) name pl) Q E s := by
 obtain ⟨od, J, hl⟩ := I.look
 exact W.method_fn X J (W.plainGet_of hg).1 (W.plainGet_of hg).2 hf (beq_iff_eq.mp ht) (by show (W.lookIn name od).map (·.isSome) = some false; rw [hl, hv]; rfl) h
theorem set_map {ns : List Str} {Q : Unit → Shared → Prop} (X : K.In s.heap) (I : ObjM s.heap x dx C mA)
   (hs : W.findIn K (.ref C) "__setattr__" = some (some (.builtin "object.__setattr__"))) (hp : W.plainOver K C = true) (ht : W.takerIn K C name = some none) (hh : W.hasDictIn K C = true)
   (hw : PySem.Within mA ns) (hsz : ns.length ≤ sizeLine)
   (h : ∀ h', ObjM h' x dx C (fun y => if y = name then some v else mA y) → Heap.SameBut dx s.heap h' → Q () { s with heap := h', toks := s.toks + 2 }) :
   wpAny (model prog w) A (setAttr (.ref x) name v) Q E s := by
 obtain ⟨od, J, hl⟩ := I.look
 refine W.set_plain X J hs (W.osa_open (s := { s with toks := s.toks + 1 }) (r := none) X J hp ht fun b => ?_)
 obtain ⟨cd, hc, hd'⟩ := W.any_some hh
 have hx : s.heap.get? x = some ⟨.ref C, some dx, .plain, #[]⟩ := I.obj
 refine wpAny_bind (wpAny_pure (wpAny_bind (wpAny_bind (wpAny_loadPart hx (wpAny_bind (W.Looks.here (s := { s with toks := s.toks + 1 }) (W.looks_clsIn X hc) ?_))))))
 rw [hd']
 refine wpAny_pure (a := some dx) (wpAny_bind (wpAny_pure (wpAny_bind ?_)))
 refine wpAny_nsSet1 (s := { s with toks := s.toks + 1 }) I.ns fun h' hn2 hs2 => ?_
 obtain ⟨oD, esD, epD, hoD, hdD, hcD⟩ := hn2.count (PySem.Within.cons name v hw)
 refine wpAny_bind (wpAny_lookBehind hoD (by rw [hdD]; exact pastItsLine_dict (Nat.le_trans hcD (by rw [List.length_cons]; omega))) ?_)
 exact wpAny_pure (h _ ⟨(hs2.2 _ (Ne.symm I.ne)).trans I.obj, hn2, I.ne⟩ hs2)
theorem make_map {R : Result → Shared → Prop} {vs : List Value} {kw : List (Str × Value)} (X : K.In s.heap) (hm : W.makesIn K C = true)
   (hi : W.findIn K (.ref C) "__init__" = some (some (.ref f))) (hf : W.typeIn K (.ref f) = some (.type "function"))
   (h : codeAny (model prog w) (A.under (.builtin "type.__call__" ⟨.ref C :: vs, kw⟩)) (.call (.ref f) ⟨.ref (s.heap.objs.size + 1) :: vs, kw⟩) (W.InitBack (s.heap.objs.size + 1) R)
     { s with heap := (s.heap.push W.emptyDict).push (W.instObj C s.heap.objs.size) }) :
   codeAny (model prog w) A (.call (.ref C) ⟨vs, kw⟩) R s := by
 obtain ⟨hh, g, d, t, os⟩ := s
 exact W.make_core (W.makes_of X hm) (W.looks_findIn X hi) (fun self => W.bind_fn X self hf) (.inl rfl) h
end
def putF (f : Str) (v : V) : List (Str × V) → List (Str × V)
 | [] => [(f, v)]
 | (g, x) :: r => if g = f then (g, v) :: r else (g, x) :: putF f v r
theorem lookup_putF (f g : Str) (v : V) : ∀ fs : List (Str × V), (putF f v fs).lookup g = if g = f then some v else fs.lookup g
 | [] => by
   show List.lookup g [(f, v)] = _
   by_cases h : g = f
   · have hb : (g == f) = true := beq_iff_eq.mpr h
     simp only [List.lookup, hb, if_pos h]
   · have hb : (g == f) = false := beq_eq_false_iff_ne.mpr h
     simp only [List.lookup, hb, if_neg h]
 | (k, x) :: r => by
   have ih := lookup_putF f g v r
   rw [show putF f v ((k, x) :: r) = (if k = f then (k, v) :: r else (k, x) :: putF f v r) from rfl]
   by_cases hk : k = f
   · rw [if_pos hk]
     by_cases h : g = k
     · have hb : (g == k) = true := beq_iff_eq.mpr h
       simp only [List.lookup, hb, if_pos (h.trans hk)]
     · have hb : (g == k) = false := beq_eq_false_iff_ne.mpr h
       simp only [List.lookup, hb, if_neg (fun e : g = f => h (e.trans hk.symm))]
   · rw [if_neg hk]
     by_cases h : g = k
     · have hb : (g == k) = true := beq_iff_eq.mpr h
       simp only [List.lookup, hb, if_neg (fun e : g = f => hk (h.symm.trans e))]
     · have hb : (g == k) = false := beq_eq_false_iff_ne.mpr h
       simp only [List.lookup, hb]
       exact ih
theorem keys_putF (f : Str) (v : V) : ∀ fs : List (Str × V), f ∈ (putF f v fs).map (·.1) ∧ ∀ g, g ∈ fs.map (·.1) → g ∈ (putF f v fs).map (·.1)
 | [] => ⟨by simp [putF], fun g h => by simp at h⟩
 | (k, x) :: r => by
   obtain ⟨i1, i2⟩ := keys_putF f v r
   rw [show putF f v ((k, x) :: r) = (if k = f then (k, v) :: r else (k, x) :: putF f v r) from rfl]
   by_cases hk : k = f
   · rw [if_pos hk]
     subst hk
     exact ⟨by simp, fun g h => by simpa using h⟩
   · rw [if_neg hk]
     refine ⟨?_, fun g h => ?_⟩
     · rw [List.map_cons]
       exact List.mem_cons_of_mem _ i1
     · rw [List.map_cons] at h ⊢
       rcases List.mem_cons.mp h with e | e
       · exact List.mem_cons.mpr (.inl e)
       · exact List.mem_cons_of_mem _ (i2 g e)
theorem length_putF (f : Str) (v : V) : ∀ fs : List (Str × V), (putF f v fs).length ≤ fs.length + 1
 | [] => by simp [putF]
 | (k, x) :: r => by
   have ih := length_putF f v r
   rw [show putF f v ((k, x) :: r) = (if k = f then (k, v) :: r else (k, x) :: putF f v r) from rfl]
   by_cases hk : k = f
   · rw [if_pos hk, List.length_cons, List.length_cons]; omega
   · rw [if_neg hk, List.length_cons, List.length_cons]; omega
theorem RelO.some_of {v : V} {o : Option Value} (r : RelO (some v) o) : ∃ u, o = some u ∧ RelV v u := by
 cases o with
 | none => exact (show False from r).elim
 | some u => exact ⟨u, rfl, r⟩
theorem RelO.none_of {o : Option Value} (r : RelO none o) : o = none := by
 cases o with
 | none => rfl
 | some u => exact (show False from r).elim
theorem handed_of {v : V} {u : Value} (r : RelV v u) : W.handedIn u = true := by
 cases v with
 | non => cases (show u = Value.none from r); rfl
 | bl b => cases (show u = Value.bool b from r); rfl
 | int i => obtain ⟨t, e⟩ := (show ∃ t, u = Value.int i t from r); cases e; rfl
 | str x => obtain ⟨t, e⟩ := (show ∃ t, u = Value.str x t from r); cases e; rfl
 | byt b => obtain ⟨t, e⟩ := (show ∃ t, u = Value.bytes b t from r); cases e; rfl
 | flt b => obtain ⟨t, e⟩ := (show ∃ t, u = Value.float b t from r); cases e; rfl
 | ref a => cases (show u = Value.ref a from r); rfl
 | ty n => cases (show u = Value.type n from r); rfl
section
variable {P : Program} {w : World} {H H' : Hp} {h h' : Heap} {a C dx : Addr} {fs fs' : List (Str × V)}
theorem ins_get (hok : HOk P w H h) (e : H a = some (.ins C dx fs)) : ∃ mA, ObjM h a dx C mA ∧ (∀ f, RelO (fs.lookup f) (mA f)) ∧ PySem.Within mA (fs.map (·.1)) ∧ fs.length ≤ 1000 ∧ H dx = some (.own a) := by
 obtain ⟨d, z, ne, ob, mA, n, r, q⟩ := (show ObjOk P w H h a (.ins C dx fs) from hok a _ e)
 exact ⟨mA, ⟨ob, n, ne⟩, r, q, z, d⟩
end
structure Cls (K : W.Frag) (C : Addr) : Prop where
 pg : W.plainGet K C Str.empty = true
 hd : W.hasDictIn K C = true
 po : W.plainOver K C = true
 sa : W.findIn K (.ref C) "__setattr__" = some (some (.builtin "object.__setattr__"))
theorem Cls.get {K : W.Frag} {C : Addr} (c : Cls K C) (f : Str) : W.plainGet K C f = true := c.pg
def NoAttr (K : W.Frag) (C : Addr) (f : Str) : Prop := W.findIn K (.ref C) f = some none
theorem NoAttr.taker {K : W.Frag} {C : Addr} {f : Str} (n : NoAttr K C f) : W.takerIn K C f = some none := by
 unfold W.takerIn
 rw [show W.findIn K (.ref C) f = some none from n]
 rfl
structure Meth (K : W.Frag) (C : Addr) (m : Str) (f : Addr) : Prop where
 at_ : W.findIn K (.ref C) m = some (some (.ref f))
 fn : W.isFn K (.ref f) = true
 kp : W.keepIn K (.ref f) = true
section
variable {X : Cx} {pins : List (Addr × Obj)} {σ : St} {H : Hp} {s : Shared} {a C dx : Addr} {fs : List (Str × V)} {f : Str} {v : V} {A : Around} {E : Value → Shared → Prop}
theorem getattr_ok {b : Bool} {Q : Value → Shared → Prop} (I : Inv X pins σ H s) (e : H a = some (.ins C dx fs)) (c : Cls X.K C) (n : NoAttr X.K C f) (l : fs.lookup f = some v)
   (h : ∀ u s', Inv X pins σ H s' → RelV v u → Q u s') : wpAny (model X.prog X.w) A (getAttr (.ref a) f b) Q E s := by
 obtain ⟨mA, O, r, _, _, _⟩ := ins_get I.hok e
 obtain ⟨u, hu, ru⟩ := RelO.some_of (v := v) (o := mA f) (by rw [← l]; exact r f)
 exact get_map I.kIn O (c.get f) c.hd n hu (handed_of ru) (h u _ (I.tok _) ru)
theorem getmeth_ok {m : Str} {g : Addr} {pl : Sem Bool} {Q : Value × List Value → Shared → Prop} (I : Inv X pins σ H s) (e : H a = some (.ins C dx fs)) (c : Cls X.K C) (k : Meth X.K C m g) (l : fs.lookup m = none)
   (h : Q (.ref g, [.ref a]) s) : wpAny (model X.prog X.w) A (getMethod (.ref a) m pl) Q E s := by
 obtain ⟨mA, O, r, _, _, _⟩ := ins_get I.hok e
 have hn : mA m = none := RelO.none_of (by rw [← l]; exact r m)
 exact get_meth I.kIn O (c.get m) k.at_ k.fn hn h
theorem setattr_ok {y : V} {u : Value} {Q : Unit → Shared → Prop} (I : Inv X pins σ H s) (e : H a = some (.ins C dx fs)) (c : Cls X.K C) (n : NoAttr X.K C f) (hl : fs.length < 1000) (ry : RelV y u)
   (h : ∀ s', Inv X pins σ (upd H a (.ins C dx (putF f y fs))) s' → Q () s') : wpAny (model X.prog X.w) A (setAttr (.ref a) f u) Q E s := by
 obtain ⟨mA, O, r, wi, _, ho⟩ := ins_get I.hok e
 have hz : (fs.map (·.1)).length ≤ sizeLine := by rw [List.length_map, sizeLine_eq]; omega
 refine set_map I.kIn O c.sa c.po n.taker c.hd wi hz fun h' O' sb => h _ ?_
 have hd : ∃ o, h'.get? dx = some o := let ⟨o, _, _, e', _⟩ := O'.ns; ⟨o, e'⟩
 refine I.write (x := a) (e := dx) (by rw [e]; exact True.intro) (.inr ho) (fun b q hb z => (sb.2 b hb).trans z) hd ?_
 refine ⟨by rw [upd_ne O.ne]; exact ho, ?_, O.ne, O'.obj, _, O'.ns, fun g => ?_, fun g hg => ?_⟩
 · have := length_putF f y fs; omega
 · show RelO ((putF f y fs).lookup g) (if g = f then some u else mA g)
   rw [lookup_putF]
   by_cases q : g = f
   · rw [if_pos q, if_pos q]; exact ry
   · rw [if_neg q, if_neg q]; exact r g
 · by_cases q : g = f
   · rw [q]; exact (keys_putF f y fs).1
   · refine (keys_putF f y fs).2 g (wi g fun z => hg ?_)
     show (if g = f then some u else mA g) = none
     rw [if_neg q]; exact z
theorem Inv.made (I : Inv X pins σ H s) : Inv X pins σ (upd (upd H s.heap.objs.size (.own (s.heap.objs.size + 1))) (s.heap.objs.size + 1) (.ins C s.heap.objs.size []))
   { s with heap := (s.heap.push W.emptyDict).push (W.instObj C s.heap.objs.size) } := by
 have e1 : (s.heap.push W.emptyDict).get? s.heap.objs.size = some W.emptyDict := Heap.get?_push_size s.heap rfl
 have e2 : ((s.heap.push W.emptyDict).push (W.instObj C s.heap.objs.size)).get? (s.heap.objs.size + 1) = some (W.instObj C s.heap.objs.size) := by
   have := Heap.get?_push_size (s.heap.push W.emptyDict) (o := W.instObj C s.heap.objs.size) rfl
   rwa [Heap.size_push] at this
 have e3 : (s.heap.push W.emptyDict).Ns s.heap.objs.size (fun _ => none) := ⟨W.emptyDict, #[], _, e1, rfl, (fun e he => absurd he (by simp)), fun _ => rfl⟩
 have I1 := I.laid (a := s.heap.objs.size) (o := .own (s.heap.objs.size + 1)) (h' := s.heap.push W.emptyDict) (t' := s.toks) (fun b u q => Heap.get?_push_of_some _ q) (Nat.le_refl _) ⟨_, e1⟩
 refine I1.laid (a := s.heap.objs.size + 1) (o := .ins C s.heap.objs.size []) (t' := s.toks) (fun b u q => Heap.get?_push_of_some _ q) (Nat.le_of_eq (Heap.size_push _ _)) ?_
 have ne : s.heap.objs.size ≠ s.heap.objs.size + 1 := Nat.ne_of_lt (Nat.lt_succ_self _)
 refine ⟨by rw [upd_ne ne, upd_same], Nat.zero_le _, ne, e2, fun _ => none, (Heap.Ns1.of_empty e3).at fun o q => Heap.get?_push_of_some _ q, fun _ => True.intro, fun y hy => absurd rfl hy⟩
theorem attr_of {prog : Program} {w : World} {env : Env} {e : Expr} {f : Str} {pos : Pos} {s : Shared} {Q : Value → Shared → Prop} (hb : attributeBase e f env (eval e env) = eval e env)
   (h : wpAny (model prog w) A (eval e env) (fun o s₁ => wpAny (model prog w) A (getAttr o f true) Q E s₁) E s) : wpAny (model prog w) A (eval (.Attribute e f pos) env) Q E s :=
 Attribute_any_ h (by rw [arm_eval_Attribute, hb])
end
def tFld (K : W.Frag) (ta : TE) (f : Str) : TE := fun σ H Q => ta σ H fun x H1 => ∃ a C dx fs v, x = .ref a ∧ H1 a = some (.ins C dx fs) ∧ Cls K C ∧ NoAttr K C f ∧ fs.lookup f = some v ∧ Q v H1
def sFld (K : W.Frag) (ta tv : TE) (f : Str) : TS := fun D σ H => tv σ H fun y H1 => ta σ H1 fun x H2 => ∃ a C dx fs, x = .ref a ∧ H2 a = some (.ins C dx fs) ∧ Cls K C ∧ NoAttr K C f ∧ fs.length < 1000 ∧
 D.nx σ (upd H2 a (.ins C dx (putF f y fs)))
section
variable {X : Cx} {o e value : Expr} {f : Str} {pos pos' tpos : Pos} {ta tv : TE}
theorem pe_fld (he : PE X e ta) (hb : attributeBase e f X.env (eval e X.env) = eval e X.env) : PE X (.Attribute e f pos) (tFld X.K ta f) := by
 intro pins s σ H Q I h
 refine attr_of hb (thn (he pins s σ H _ I h) fun u s1 ⟨x, H1, I1, rx, a, C, dx, fs, v, ex, ea, c, n, l, q⟩ => ?_)
 subst ex
 obtain rfl : u = Value.ref a := rx
 exact getattr_ok I1 ea c n l fun u' s2 I2 ru => ⟨v, H1, I2, ru, q⟩
theorem ps_fld (ha : PE X o ta) (hv : PE X value tv) (hs : swapsWith value (some (.Attribute o f pos')) pos.line X.env = pure false) : PS X (.Assign [.Attribute o f pos'] value pos) (sFld X.K ta tv f) := by
 intro pins s σ H D I h
 refine plainObj_wpAny_Assign_Attribute (thn (hv pins s σ H _ I h) fun u s1 ⟨y, H1, I1, ry, q⟩ => thn (ha pins s1 σ H1 _ I1 q) fun ov s2 ⟨x, H2, I2, rx, a, C, dx, fs, ex, ea, c, n, l, q2⟩ => ?_) hs
 subst ex
 obtain rfl : ov = Value.ref a := rx
 exact setattr_ok I2 ea c n l ry fun s3 I3 => ⟨σ, _, I3, q2⟩
end
end L2
namespace L2
open PySem PySem.Spec PyProof.Rows
structure Room (k : Nat) (A : Around) : Prop where
 hd : A.handled = none
 dp : A.depth + 3 * k + 5 < recursionLimit
 un : A.units + 16 * k + 200 < cLine
theorem Room.mono {j k : Nat} {A : Around} (r : Room k A) (h : j ≤ k) : Room j A := ⟨r.hd, by have := r.dp; omega, by have := r.un; omega⟩
theorem Room.deeper {k : Nat} {A : Around} (r : Room (k + 1) A) (env : Env) : Room k (A.deeper env) :=
 ⟨r.hd, by have := r.dp; show A.depth + 1 + 3 * k + 5 < _; omega, by have := r.un; show A.units + 3 + 16 * k + 200 < _; omega⟩
theorem Room.in1 {k : Nat} {A : Around} (r : Room (k + 1) A) : Room k A.in1 :=
 ⟨r.hd, by have := r.dp; show A.depth + 3 * k + 5 < _; omega, by have := r.un; show A.units + 1 + 16 * k + 200 < _; omega⟩
theorem make_depth {A : Around} {C : Addr} {us : List Value} {kw : List (Str × Value)} : (A.under (.builtin "type.__call__" ⟨.ref C :: us, kw⟩)).depth = A.depth + 1 := by
 first | rfl | simp [Around.under, Code.weight, Code.isCreation, Code.isGuard, Code.isCaller, Code.frames, Code.isFrame, guardIds]
theorem make_units {A : Around} {C : Addr} {us : List Value} {kw : List (Str × Value)} : (A.under (.builtin "type.__call__" ⟨.ref C :: us, kw⟩)).units = A.units + 1 := by
 first | rfl | simp [Around.under, Code.cUnits, Code.frames, Code.isFrame]
theorem Room.make {k : Nat} {A : Around} (r : Room (k + 1) A) (C : Addr) (us : List Value) (kw : List (Str × Value)) : Room k (A.under (.builtin "type.__call__" ⟨.ref C :: us, kw⟩)) :=
 ⟨r.hd, by have := r.dp; rw [make_depth]; omega, by have := r.un; rw [make_units]; omega⟩
theorem Room.depth {k : Nat} {A : Around} (r : Room k A) : A.depth < recursionLimit := by have := r.dp; omega
theorem Room.units {k : Nat} {A : Around} (r : Room k A) : A.units + 64 < cLine := by have := r.un; omega
theorem Room.units0 {k : Nat} {A : Around} (r : Room k A) : A.units < cLine := by have := r.un; omega
def tNil : TA := fun _ H Q => Q [] H
def tCons (ta : TE) (tr : TA) : TA := fun σ H Q => ta σ H fun x H1 => tr σ H1 fun xs H2 => Q (x :: xs) H2
section
variable {X : Cx} {e : Expr} {es : List Expr} {te : TE} {t : TA} {pos : Pos}
theorem pa_nil : PA X [] tNil := fun _ _ _ _ H Q I h => Calls.spliced_nil ⟨[], H, I, .nil, h⟩
theorem pa_cons (ha : PE X e te) (hr : PA X es t) (hs : starEach (e :: es) X.env = (false, eval e X.env) :: starEach es X.env := by rfl) : PA X (e :: es) (tCons te t) := by
 intro pos pins s σ H Q I h
 rw [hs]
 show wpAny _ _ (spliced ((false, eval e X.env) :: backTo pos (starEach es X.env))) _ _ s
 refine Calls.spliced_cons (thn (ha pins s σ H _ I h) fun u s1 ⟨x, H1, I1, r1, q1⟩ => ?_)
 exact thn (hr pos pins s1 σ H1 _ I1 q1) fun us s2 ⟨xs, H2, I2, r2, q2⟩ => ⟨x :: xs, H2, I2, .cons r1 r2, q2⟩
def tTup (t : TA) : TE := fun σ H Q => t σ H fun xs H1 => xs.length ≤ sizeLine ∧ ∀ p, H1 p = none → Q (.ref p) (upd H1 p (.tup xs))
def tLst (t : TA) : TE := fun σ H Q => t σ H fun xs H1 => xs.length ≤ sizeLine ∧ ∀ p, H1 p = none → Q (.ref p) (upd H1 p (.lst xs))
theorem pe_tup {x1} (h : PA X es t) : PE X (.Tuple es x1 pos) (tTup t) := by
 intro pins s σ H Q I hq
 refine wpAny_Tuple_spliced (thn (h pos pins s σ H _ I hq) fun us s1 ⟨xs, H1, I1, r, z, q⟩ => ⟨by rw [← r.length]; exact z, ?_⟩)
 have hf : H1 s1.heap.objs.size = none := I1.hok.fresh (Nat.le_refl _)
 refine ⟨.ref s1.heap.objs.size, upd H1 s1.heap.objs.size (.tup xs), I1.laid (t' := s1.toks) (fun b u e => Heap.get?_push_of_some _ e) (Nat.le_refl _) ?_, rfl, q _ hf⟩
 exact ⟨z, us, r, ⟨_, Heap.get?_push_size _ rfl, rfl, _, rfl⟩⟩
theorem pe_lst (h : PA X es t) : PE X (.List es pos) (tLst t) := by
 intro pins s σ H Q I hq
 refine wpAny_List_spliced (thn (h pos pins s σ H _ I hq) fun us s1 ⟨xs, H1, I1, r, z, q⟩ => ⟨by rw [← r.length]; exact z, ?_⟩)
 have hf : H1 s1.heap.objs.size = none := I1.hok.fresh (Nat.le_refl _)
 refine ⟨.ref s1.heap.objs.size, upd H1 s1.heap.objs.size (.lst xs), I1.laid (t' := s1.toks) (fun b u e => Heap.get?_push_of_some _ e) (Nat.le_refl _) ?_, rfl, q _ hf⟩
 exact ⟨z, us, 0, r, Heap.get?_push_size _ rfl⟩
end
abbrev Sp := List V → Hp → VK → XK → Prop
abbrev CXT := List Env → Hp → Shared → XK → Value → Shared → Prop
structure Env0 (P : Program) (w : World) (K : W.Frag) (mg : Str → Option Value) (base : Heap) (A : Around) (outer : List Env) (s : Shared) (H : Hp) : Prop where
 frames : A.frames = some outer
 mod : Mod K mg base
 bs : ∀ b o, base.get? b = some o → s.heap.get? b = some o ∧ H b = none
 bsz : base.objs.size ≤ s.heap.objs.size
 funs : s.heap.FunFrames base outer
 frf : ∀ b ∈ frs outer, H b = none
 hok : HOk P w H s.heap
 bare : AllBare s.gens
def CE (outer : List Env) (P : Program) (w : World) (H : Hp) (s : Shared) (Q : VK) (u : Value) (s' : Shared) : Prop :=
 ∃ v H', s'.os = s.os ∧ AllBare s'.gens ∧ Un (frs outer) [] H H' s.heap s'.heap ∧ HOk P w H' s'.heap ∧ RelV v u ∧ Q v H'
def CR (CX : CXT) (outer : List Env) (P : Program) (w : World) (H : Hp) (s : Shared) (Q : VK) (E : XK) (r : Result) (s' : Shared) : Prop :=
 match r with
 | .ok (.ret u) => CE outer P w H s Q u s'
 | .ok _ => False
 | .error e => CX outer H s E e s'
structure FnOk (P : Program) (w : World) (K : W.Frag) (mg : Str → Option Value) (base : Heap) (CX : CXT) (k : Nat) (f : Addr) (fd : FuncData) (ps : List Str) (sp : Sp) : Prop where
 len : ∀ vs H Q E, sp vs H Q E → vs.length = ps.length
 run : ∀ (A : Around) (outer : List Env) (s : Shared) (H : Hp) (args : Args) (us : List Value) (vs : List V) (Q : VK) (E : XK), Room k A → Env0 P w K mg base A outer s H → BindsTo s fd args (ps.zip us) → Vals vs us → sp vs H Q E →
   codeAny (model P w) A (.call (.ref f) args) (CR CX outer P w H s Q E) s
theorem FnOk.mono {P : Program} {w : World} {K : W.Frag} {mg : Str → Option Value} {base : Heap} {CX : CXT} {j k : Nat} {f : Addr} {fd : FuncData} {ps : List Str} {sp : Sp} (F : FnOk P w K mg base CX j f fd ps sp) (h : j ≤ k) :
   FnOk P w K mg base CX k f fd ps sp := ⟨F.len, fun A outer s H args us vs Q E hr => F.run A outer s H args us vs Q E (hr.mono h)⟩
theorem FnOk.imp {P : Program} {w : World} {K : W.Frag} {mg : Str → Option Value} {base : Heap} {CX : CXT} {k : Nat} {f : Addr} {fd : FuncData} {ps : List Str} {sp sp' : Sp} (F : FnOk P w K mg base CX k f fd ps sp)
   (h : ∀ vs H Q E, sp' vs H Q E → sp vs H Q E) : FnOk P w K mg base CX k f fd ps sp' :=
 ⟨fun vs H Q E q => F.len vs H Q E (h _ _ _ _ q), fun A outer s H args us vs Q E hr he hb hv hs => F.run A outer s H args us vs Q E hr he hb hv (h _ _ _ _ hs)⟩
theorem Env0.make {P : Program} {w : World} {K : W.Frag} {mg : Str → Option Value} {base : Heap} {A : Around} {outer : List Env} {s : Shared} {H : Hp} (e : Env0 P w K mg base A outer s H) (C : Addr) (us : List Value) (kw : List (Str × Value)) :
   Env0 P w K mg base (A.under (.builtin "type.__call__" ⟨.ref C :: us, kw⟩)) outer s H := ⟨by first | exact e.frames | (simpa [Around.under, Code.envs, Code.isFrame, pushEnvs] using e.frames), e.mod, e.bs, e.bsz, e.funs, e.frf, e.hok, e.bare⟩
theorem Env0.in1 {P : Program} {w : World} {K : W.Frag} {mg : Str → Option Value} {base : Heap} {A : Around} {outer : List Env} {s : Shared} {H : Hp} (e : Env0 P w K mg base A outer s H) :
   Env0 P w K mg base A.in1 outer s H := ⟨e.frames, e.mod, e.bs, e.bsz, e.funs, e.frf, e.hok, e.bare⟩
section
variable {X : Cx} {pins : List (Addr × Obj)} {σ : St} {H : Hp} {s s' : Shared}
theorem Inv.env0 (I : Inv X pins σ H s) : Env0 X.prog X.w X.K X.mg X.base X.A X.stack s H :=
 ⟨I.ok.frames, I.ok.mod, I.bs, Nat.le_trans I.ok.bsz I.sz, I.stack, I.stkFree, I.hok, I.bare⟩
theorem Inv.after {Q : VK} {u : Value} (I : Inv X pins σ H s) (h : CE X.stack X.prog X.w H s Q u s') : EP X pins σ Q u s' := by
 obtain ⟨v, H', os, bare, un, hok, r, q⟩ := h
 obtain ⟨hh, g, d, t, os'⟩ := s'
 obtain rfl : os' = s.os := os
 exact ⟨v, H', I.call (h' := hh) (g' := g) (d' := d) (t' := t) (ch := []) un hok bare (fun b z => absurd z (by simp)), r, q⟩
end
def tCall (sp : Sp) (dvs : List V) (E : XK) (t : TA) : TE := fun σ H Q => t σ H fun vs H1 => sp (vs ++ dvs) H1 Q E
def tMeth (C : Addr) (m : Str) (sp : Sp) (dvs : List V) (E : XK) (ta : TE) (t : TA) : TE := fun σ H Q => ta σ H fun x H1 => ∃ a dx fs, x = .ref a ∧ H1 a = some (.ins C dx fs) ∧ fs.lookup m = none ∧
 t σ H1 fun vs H2 => sp (x :: (vs ++ dvs)) H2 Q E
def tMake (C : Addr) (sp : Sp) (dvs : List V) (E : XK) (t : TA) : TE := fun σ H Q => t σ H fun vs H1 => ∀ x dx, H1 x = none → H1 dx = none → dx ≠ x →
 sp (.ref x :: (vs ++ dvs)) (upd (upd H1 dx (.own x)) x (.ins C dx [])) (fun v H2 => v = .non ∧ Q (.ref x) H2) E
def Binds (K : W.Frag) (fd : FuncData) (ps : List Str) (ds : List Value) : Prop :=
 ∀ (s : Shared) (us : List Value), K.In s.heap → (us ++ ds).length = ps.length → BindsTo s fd ⟨us, []⟩ (ps.zip (us ++ ds))
theorem Binds.all {K : W.Frag} {fd : FuncData} {ps : List Str} (h : ∀ us : List Value, us.length = ps.length → bindArgs fd ⟨us, []⟩ = pure (ps.zip us)) : Binds K fd ps [] := fun s us _ hl => by
 rw [List.append_nil] at hl ⊢
 exact .of_eq (h us hl)
def Passes (CX : CXT) (X : Cx) (E : XK) : Prop := ∀ (pins : List (Addr × Obj)) (σ : St) (H : Hp) (s : Shared) (e : Value) (s' : Shared), Inv X pins σ H s → CX X.stack H s E e s' → X.xe e s'
section
variable {X : Cx} {CX : CXT} {k : Nat} {f C : Addr} {fd : FuncData} {ps : List Str} {sp : Sp} {dvs : List V} {ds : List Value} {E : XK} {x m : Str} {p pos apos : Pos} {e o : Expr} {es : List Expr} {ta : TE} {t : TA}
theorem run_fn {pins : List (Addr × Obj)} {σ : St} {H : Hp} {s : Shared} {Q : VK} {us : List Value} {vs : List V} (F : FnOk X.prog X.w X.K X.mg X.base CX k f fd ps sp) (hr : Room k X.A) (hb : Binds X.K fd ps ds) (hd : Vals dvs ds) (hx : Passes CX X E)
   (I : Inv X pins σ H s) (r : Vals vs us) (h : sp (vs ++ dvs) H Q E) : wpAny (model X.prog X.w) X.A (call (.ref f) us) (EP X pins σ Q) X.xe s := by
 have r2 : Vals (vs ++ dvs) (us ++ ds) := r.append hd
 have hl : (us ++ ds).length = ps.length := by rw [← r2.length]; exact F.len _ _ _ _ h
 refine wpAny_call (codeAny_mono (F.run X.A X.stack s H ⟨us, []⟩ (us ++ ds) (vs ++ dvs) Q E hr I.env0 (hb s us I.kIn hl) r2 h) fun r s' hq => ?_)
 cases r with
 | error e => exact hx pins σ H s e s' I hq
 | ok fl =>
   cases fl with
   | ret u => exact I.after hq
   | next => exact False.elim hq
   | brk => exact False.elim hq
   | cont => exact False.elim hq
theorem pe_call (F : FnOk X.prog X.w X.K X.mg X.base CX k f fd ps sp) (hr : Room k X.A) (hg : Gl X x) (hm : X.mg x = some (.ref f)) (hk : W.keepIn X.K (.ref f) = true) (hb : Binds X.K fd ps ds) (hd : Vals dvs ds) (hx : Passes CX X E)
   (ha : PA X (e :: es) t) (hdb : (x == ("__debug__" : Str)) = false := by decide) (he : starEach (e :: es) X.env = (false, eval e X.env) :: starEach es X.env := by rfl) (hpl : (backTo pos (starEach es X.env)).any (·.1) = false := by rfl) :
   PE X (.Call (.Name x p) (e :: es) [] pos) (tCall sp dvs E t) := by
 intro pins s σ H Q I h
 refine wpAny_Call_Name_kw (ld_glob I hg hm ?_ hdb)
 refine W.callWith_K (h₀ := X.base) I.ok.mod.kin hk (thn (ha pos pins s σ H _ I h) fun us s1 ⟨vs, H1, I1, r, q⟩ => ⟨I1.kIn, ?_⟩) he hpl
 exact run_fn F hr hb hd hx I1 r q
theorem pe_meth {pl : Sem Bool} (he : PE X o ta) (c : Cls X.K C) (hm : Meth X.K C m f) (F : FnOk X.prog X.w X.K X.mg X.base CX k f fd ps sp) (hr : Room k X.A) (hb : Binds X.K fd ps ds) (hd : Vals dvs ds) (hx : Passes CX X E) (ha : PA X (e :: es) t)
   (hst : starEach (e :: es) X.env = (false, eval e X.env) :: starEach es X.env := by rfl) (hpl : (backTo pos (starEach es X.env)).any (·.1) = false := by rfl)
   (ht : eval (.Call (.Attribute o m apos) (e :: es) [] pos) X.env = (do
     let ov ← eval o X.env
     standAt apos.atName
     let (f, first) ← holding [ov] (getMethod ov m pl)
     callWith pos f first (backTo pos (starEach (e :: es) X.env)) (backToKw pos (keywordEach [] X.env))) := by rfl) :
   PE X (.Call (.Attribute o m apos) (e :: es) [] pos) (tMeth C m sp dvs E ta t) := by
 intro pins s σ H Q I h
 refine W.methodCall_KW (pl := pl) (thn (he pins s σ H _ I h) fun u s1 ⟨x, H1, I1, rx, a, dx, fs, ex, ea, l, q⟩ => ?_) ht
 subst ex
 obtain rfl : u = Value.ref a := rx
 refine getmeth_ok I1 ea c hm l ?_
 refine W.callWith_K (first := [.ref a]) (h₀ := X.base) I.ok.mod.kin hm.kp (thn (ha pos pins s1 σ H1 _ I1 q) fun us s2 ⟨vs, H2, I2, r, q2⟩ => ⟨I2.kIn, ?_⟩) hst hpl
 exact run_fn (us := .ref a :: us) (vs := .ref a :: vs) F hr hb hd hx I2 (.cons rfl r) q2
theorem pe_meth0 {pl : Sem Bool} (he : PE X o ta) (c : Cls X.K C) (hm : Meth X.K C m f) (F : FnOk X.prog X.w X.K X.mg X.base CX k f fd ps sp) (hr : Room k X.A) (hb : Binds X.K fd ps ds) (hd : Vals dvs ds) (hx : Passes CX X E)
   (ht : eval (.Call (.Attribute o m apos) [] [] pos) X.env = (do
     let ov ← eval o X.env
     standAt apos.atName
     let (f, first) ← holding [ov] (getMethod ov m pl)
     callWith pos f first (backTo pos (starEach [] X.env)) (backToKw pos (keywordEach [] X.env))) := by rfl) :
   PE X (.Call (.Attribute o m apos) [] [] pos) (tMeth C m sp dvs E ta tNil) := by
 intro pins s σ H Q I h
 refine W.methodCall_KW (pl := pl) (thn (he pins s σ H _ I h) fun u s1 ⟨x, H1, I1, rx, a, dx, fs, ex, ea, l, q⟩ => ?_) ht
 subst ex
 obtain rfl : u = Value.ref a := rx
 refine getmeth_ok I1 ea c hm l ?_
 exact W.callWith_K0 (first := [.ref a]) I1.kIn hm.kp (run_fn (us := [.ref a]) (vs := [.ref a]) F hr hb hd hx I1 (.cons rfl .nil) q)
structure Mk (K : W.Frag) (C f : Addr) : Prop where
 makes : W.makesIn K C = true
 init : W.findIn K (.ref C) "__init__" = some (some (.ref f))
 fn : W.isFn K (.ref f) = true
 kp : W.keepIn K (.ref C) = true
theorem run_make {pins : List (Addr × Obj)} {σ : St} {H : Hp} {s : Shared} {Q : VK} {us : List Value} {vs : List V} (M : Mk X.K C f) (F : FnOk X.prog X.w X.K X.mg X.base CX k f fd ps sp) (hr : Room (k + 1) X.A) (hb : Binds X.K fd ps ds) (hd : Vals dvs ds)
   (hx : Passes CX X E) (I : Inv X pins σ H s) (r : Vals vs us)
   (h : ∀ x dx, H x = none → H dx = none → dx ≠ x → sp (.ref x :: (vs ++ dvs)) (upd (upd H dx (.own x)) x (.ins C dx [])) (fun v H2 => v = .non ∧ Q (.ref x) H2) E) :
   wpAny (model X.prog X.w) X.A (call (.ref C) us) (EP X pins σ Q) X.xe s := by
 have hq := h (s.heap.objs.size + 1) s.heap.objs.size (I.hok.fresh (Nat.le_succ _)) (I.hok.fresh (Nat.le_refl _)) (Nat.ne_of_lt (Nat.lt_succ_self _))
 have I2 := Inv.made (C := C) I
 have r2 : Vals (V.ref (s.heap.objs.size + 1) :: (vs ++ dvs)) (Value.ref (s.heap.objs.size + 1) :: (us ++ ds)) := .cons rfl (r.append hd)
 have hl : (Value.ref (s.heap.objs.size + 1) :: us ++ ds).length = ps.length := by
   have e := r2.length
   rw [F.len _ _ _ _ hq] at e
   exact e.symm
 refine wpAny_call (make_map (f := f) I.kIn M.makes M.init (beq_iff_eq.mp M.fn) (codeAny_mono (F.run _ X.stack _ _ ⟨Value.ref (s.heap.objs.size + 1) :: us, []⟩ (Value.ref (s.heap.objs.size + 1) :: (us ++ ds)) _ _ E (hr.make C us [])
   (I2.env0.make C us []) (hb _ (Value.ref (s.heap.objs.size + 1) :: us) I2.kIn hl) r2 hq) fun r s' hq' => ?_))
 cases r with
 | error e => exact hx pins σ _ _ e s' I2 hq'
 | ok fl =>
   cases fl with
   | ret u =>
     obtain ⟨v, H', I3, rv, ev, q3⟩ := I2.after hq'
     subst ev
     exact ⟨rv, ⟨V.ref (s.heap.objs.size + 1), H', I3, rfl, q3⟩⟩
   | next => exact False.elim hq'
   | brk => exact False.elim hq'
   | cont => exact False.elim hq'
theorem pe_make (M : Mk X.K C f) (F : FnOk X.prog X.w X.K X.mg X.base CX k f fd ps sp) (hr : Room (k + 1) X.A) (hg : Gl X x) (hm : X.mg x = some (.ref C)) (hb : Binds X.K fd ps ds) (hd : Vals dvs ds) (hx : Passes CX X E)
   (ha : PA X (e :: es) t) (hdb : (x == ("__debug__" : Str)) = false := by decide) (he : starEach (e :: es) X.env = (false, eval e X.env) :: starEach es X.env := by rfl) (hpl : (backTo pos (starEach es X.env)).any (·.1) = false := by rfl) :
   PE X (.Call (.Name x p) (e :: es) [] pos) (tMake C sp dvs E t) := by
 intro pins s σ H Q I h
 refine wpAny_Call_Name_kw (ld_glob I hg hm ?_ hdb)
 refine W.callWith_K (h₀ := X.base) I.ok.mod.kin M.kp (thn (ha pos pins s σ H _ I h) fun us s1 ⟨vs, H1, I1, r, q⟩ => ⟨I1.kIn, ?_⟩) he hpl
 exact run_make M F hr hb hd hx I1 r q
theorem pe_make0 (M : Mk X.K C f) (F : FnOk X.prog X.w X.K X.mg X.base CX k f fd ps sp) (hr : Room (k + 1) X.A) (hg : Gl X x) (hm : X.mg x = some (.ref C)) (hb : Binds X.K fd ps ds) (hd : Vals dvs ds) (hx : Passes CX X E)
   (hdb : (x == ("__debug__" : Str)) = false := by decide) : PE X (.Call (.Name x p) [] [] pos) (tMake C sp dvs E tNil) := by
 intro pins s σ H Q I h
 refine wpAny_Call_Name_kw (ld_glob I hg hm ?_ hdb)
 exact W.callWith_K0 I.kIn M.kp (run_make (us := []) M F hr hb hd hx I .nil h)
end
def PK (X : Cx) (kws : List Keyword) (t : TA) : Prop :=
 ∀ (pos : Pos) (pins : List (Addr × Obj)) (s : Shared) (σ : St) (H : Hp) (Q : List V → Hp → Prop), Inv X pins σ H s → t σ H Q → wpAny (model X.prog X.w) X.A (evalAll ((backToKw pos (keywordEach kws X.env)).map (·.2))) (AP X pins σ Q) X.xe s
section
variable {X : Cx} {CX : CXT} {k : Nat} {f C : Addr} {fd : FuncData} {ps ks : List Str} {sp : Sp} {E : XK} {x m : Str} {p pos apos kpos : Pos} {e o : Expr} {es : List Expr} {kws : List Keyword} {te ta : TE} {t tk : TA} {nm : Option Str}
theorem pk_nil : PK X [] tNil := fun _ _ _ _ H Q I h => wpAny_evalAll_nil ⟨[], H, I, .nil, h⟩
theorem pk_cons (ha : PE X e te) (hr : PK X kws t) : PK X (⟨nm, e, kpos⟩ :: kws) (tCons te t) := by
 intro pos pins s σ H Q I h
 show wpAny _ _ (evalAll ((do let v ← eval e X.env; standAt pos; pure v) :: (backToKw pos (keywordEach kws X.env)).map (·.2))) _ _ s
 refine wpAny_evalAll_cons (wpAny_bind (thn (ha pins s σ H _ I h) fun u s1 ⟨x, H1, I1, r1, q1⟩ => wpAny_bind (wpAny_standAt (wpAny_pure ?_))))
 exact thn (hr pos pins s1 σ H1 _ I1 q1) fun us s2 ⟨xs, H2, I2, r2, q2⟩ => ⟨x :: xs, H2, I2, .cons r1 r2, q2⟩
variable {g : List Value → List Value → List Value} {gV : List V → List V → List V}
end
structure FnScope (N P : List Str) (sc : Scope) : Prop where
 kind : sc.kind = .function
 co : sc.isCoroutine = false
 gen : sc.isGenerator = false
 nd : N.Nodup
 pre : N.take P.length = P
 par : ∀ x ∈ P, sc.names.lookup x = some .local ∨ sc.names.lookup x = some .cell
 nofree : ∀ y ∈ sc.names, y.2 ≠ .free
theorem bindL_out {kindOf : Str → Option NameKind} {x : Str} : ∀ {binds : List (Str × Value)} {m : Str → Option Value}, (∀ v, (x, v) ∉ binds) → bindL kindOf binds m x = m x
 | [], _, _ => rfl
 | (n, v) :: r, m, h => by
   unfold bindL
   rw [bindL_out fun w hw => h w (List.mem_cons_of_mem _ hw)]
   split
   · have : x ≠ n := by rintro rfl; exact h v List.mem_cons_self
     simp [this]
   · rfl
theorem bindC_out {kindOf : Str → Option NameKind} {x : Str} : ∀ {binds : List (Str × Value)} {m : Str → Option Value}, (∀ v, (x, v) ∉ binds) → bindC kindOf binds m x = m x
 | [], _, _ => rfl
 | (n, v) :: r, m, h => by
   unfold bindC
   rw [bindC_out fun w hw => h w (List.mem_cons_of_mem _ hw)]
   split
   · rfl
   · have : x ≠ n := by rintro rfl; exact h v List.mem_cons_self
     simp [this]
theorem bindL_get {kindOf : Str → Option NameKind} {x : Str} {v : Value} : ∀ {P : List Str} {vs : List Value} {i : Nat} {m : Str → Option Value}, P.Nodup → P[i]? = some x → vs[i]? = some v → kindOf x = some .local →
   bindL kindOf (P.zip vs) m x = some v
 | [], _, _, _, _, h, _, _ => by simp at h
 | _ :: _, [], _, _, _, _, h, _ => by simp at h
 | p :: P, w :: vs, 0, m, nd, h1, h2, hk => by
   simp at h1 h2; subst h1; subst h2
   show bindL kindOf ((p, w) :: P.zip vs) m p = _
   unfold bindL
   rw [bindL_out fun v hv => (List.nodup_cons.mp nd).1 (List.of_mem_zip hv).1, if_pos hk]
   simp
 | p :: P, w :: vs, i + 1, m, nd, h1, h2, hk => by
   show bindL kindOf ((p, w) :: P.zip vs) m x = _
   unfold bindL
   exact bindL_get (i := i) (List.nodup_cons.mp nd).2 (by simpa using h1) (by simpa using h2) hk
theorem bindC_get {kindOf : Str → Option NameKind} {x : Str} {v : Value} : ∀ {P : List Str} {vs : List Value} {i : Nat} {m : Str → Option Value}, P.Nodup → P[i]? = some x → vs[i]? = some v → kindOf x ≠ some .local →
   bindC kindOf (P.zip vs) m x = some v
 | [], _, _, _, _, h, _, _ => by simp at h
 | _ :: _, [], _, _, _, _, h, _ => by simp at h
 | p :: P, w :: vs, 0, m, nd, h1, h2, hk => by
   simp at h1 h2; subst h1; subst h2
   show bindC kindOf ((p, w) :: P.zip vs) m p = _
   unfold bindC
   rw [bindC_out fun v hv => (List.nodup_cons.mp nd).1 (List.of_mem_zip hv).1, if_neg hk]
   simp
 | p :: P, w :: vs, i + 1, m, nd, h1, h2, hk => by
   show bindC kindOf ((p, w) :: P.zip vs) m x = _
   unfold bindC
   exact bindC_get (i := i) (List.nodup_cons.mp nd).2 (by simpa using h1) (by simpa using h2) hk
def start (N : List Str) (vs : List V) : St := vs.map some ++ List.replicate (N.length - vs.length) none
def cxOf (CX : CXT) (P : Program) (w : World) (K : W.Frag) (mg : Str → Option Value) (base : Heap) (N : List Str) (qual : Str) (scope : Scope) (f : Addr) (cd : Value) (A : Around) (outer : List Env) (s : Shared) (H : Hp) (E : XK) : Cx where
 prog := P
 w := w
 K := K
 mg := mg
 base := base
 A := A.deeper (envOfC qual scope s.heap.objs.size f cd)
 N := N
 s₀ := s
 H₀ := H
 env := envOfC qual scope s.heap.objs.size f cd
 outer := outer
 stack := envOfC qual scope s.heap.objs.size f cd :: outer
 ex := []
 calm := true
 fn := fun _ => true
 pn := []
 xe := fun e s' => wpAny (model P w) (A.deeper (envOfC qual scope s.heap.objs.size f cd)) (leaving (envOfC qual scope s.heap.objs.size f cd) e) (fun _ s'' => CX outer H s E e s'') (fun e' s'' => CX outer H s E e' s'') s'
theorem cell_has {sc : Scope} {n : Nat} {x : Str} (h : sc.names.lookup x = some .cell) : ∃ c, (cellsFrom n sc.names []).lookup x = some c := by
 have q := W.cellsFrom_some sc.names n [] (.inl h)
 exact Option.isSome_iff_exists.mp q
theorem inv_start {CX : CXT} {P : Program} {w : World} {K : W.Frag} {mg : Str → Option Value} {base : Heap} {N ps : List Str} {qual : Str} {scope : Scope} {f : Addr} {cd : Value} {A : Around} {outer : List Env} {s s1 : Shared} {H : Hp} {E : XK} {us : List Value} {vs : List V}
   (S : FnScope N ps scope) (hd : A.handled = none) (e0 : Env0 P w K mg base A outer s H) (hl : vs.length = ps.length) (r : Vals vs us)
   (x : InCallC s s.heap.objs.size (bindL (envOfC qual scope s.heap.objs.size f cd).kindOf (ps.zip us) fun _ => none) (cellsFrom (s.heap.objs.size + 1) scope.names []) (bindC (envOfC qual scope s.heap.objs.size f cd).kindOf (ps.zip us) fun _ => none) s1) :
   Inv (cxOf CX P w K mg base N qual scope f cd A outer s H E) [] (start N vs) H s1 := by
 have hpl : ps.length ≤ N.length := by have := congrArg List.length S.pre; rw [List.length_take] at this; omega
 obtain ⟨h1, tk, rfl, hk⟩ := x.done
 have noA : ∀ b : Addr, b ∉ (cxOf CX P w K mg base N qual scope f cd A outer s H E).ex := fun b z => absurd (show b ∈ ([] : List Addr) from z) (by simp)
 refine ⟨⟨e0.mod, S.kind, rfl, rfl, Nat.le_refl _, fun y z c h1 h2 => ?_, fun y hy => ?_, fun y c _ h => ?_, fun _ => hd, Around.frames_deeper e0.frames, .inr ⟨rfl, rfl⟩, fun b z => absurd z (noA b), e0.bs, e0.bsz, fun b _ _ => noA b, fun b z => absurd z (noA b), e0.funs, e0.frf⟩,
   rfl, e0.bare, Un.kept hk, ⟨_, x.toInCall.ns, fun i y v h1 h2 h3 => ?_⟩, fun y c h => ⟨_, x.cell y c h⟩, e0.hok.fresh (Nat.le_refl _), fun y c h => ?_, fun p hp => absurd (show p ∈ ([] : List (Addr × Obj)) from hp) (by simp), e0.hok.kept hk, ?_⟩
 · exact name_of_addr x.apart (PySem.mem_of_lookup h1) (PySem.mem_of_lookup h2)
 · have hy : scope.names.lookup y = some .cell ∨ scope.names.lookup y = some .free := hy
   rcases hy with hy | hy
   · exact cell_has hy
   · exact absurd rfl (S.nofree _ (PySem.mem_of_lookup hy))
 · exact Nat.le_of_lt (x.above y c (PySem.mem_of_lookup h))
 · have hi : i < vs.length := by
     unfold start at h2
     by_cases hi : i < vs.length
     · exact hi
     · rw [List.getElem?_append_right (by simpa using hi)] at h2
       rw [List.getElem?_replicate] at h2
       split at h2 <;> cases h2
   have ha : vs[i]? = some v := by
     unfold start at h2
     rw [List.getElem?_append_left (by simpa using hi), List.getElem?_map] at h2
     cases e : vs[i]? with
     | none => rw [e] at h2; cases h2
     | some a => rw [e] at h2; cases h2; rfl
   obtain ⟨u, hu, rv⟩ := r.get ha
   have hp : ps[i]? = some y := by
     rw [← S.pre, List.getElem?_take_of_lt (by omega)]; exact h1
   have ndP : ps.Nodup := by rw [← S.pre]; exact S.nd.sublist (List.take_sublist _ _)
   refine ⟨u, rv, ?_⟩
   rcases S.par y (List.mem_of_getElem? hp) with k | k
   · exact .inl ⟨k, bindL_get ndP hp hu k⟩
   · obtain ⟨c, e⟩ := cell_has (n := s.heap.objs.size + 1) k
     refine .inr ⟨.inl k, c, e, ?_⟩
     have q := x.cell y c e
     rw [bindC_get ndP hp hu (by show scope.names.lookup y ≠ _; rw [k]; decide)] at q
     exact q
 · exact e0.hok.fresh (Nat.le_of_lt (x.above y c (PySem.mem_of_lookup h)))
 · unfold start
   show _ = N.length
   rw [List.length_append, List.length_map, List.length_replicate]
   omega
theorem fn_of {CX : CXT} {P : Program} {w : World} {K : W.Frag} {mg : Str → Option Value} {base : Heap} {k : Nat} {f : Addr} {name qual : Str} {params : Arguments} {body : List Stmt} {scope : Scope} {dV kV doc pm cdv ct oc : Value} {an od : Option Addr}
   {osl : Array (Option Value)} {N ps : List Str} {sp : Sp} (lk : K.lookup f = some ⟨oc, od, .func (W.fnOf name qual params body scope dV kV doc pm an cdv ct), osl⟩) (hcd : W.codeIn K cdv qual = true) (S : FnScope N ps scope)
   (len : ∀ vs H Q E, sp vs H Q E → vs.length = ps.length)
   (hbody : ∀ (A : Around) (outer : List Env) (s : Shared) (H : Hp) (vs : List V) (Q : VK) (E : XK), Room k (A.deeper (envOfC qual scope s.heap.objs.size f cdv)) → sp vs H Q E →
     ∃ t, PSs (cxOf CX P w K mg base N qual scope f cdv A outer s H E) body t ∧ t { nx := fun _ H' => Q .non H', rt := Q } (start N vs) H) :
   FnOk P w K mg base CX (k + 1) f (W.fnOf name qual params body scope dV kV doc pm an cdv ct) ps sp := by
 refine ⟨len, fun A outer s H args us vs Q E hr e0 hb r hsp => ?_⟩
 have hl := len _ _ _ _ hsp
 have KX : K.In s.heap := e0.mod.kin.keeps fun b o e => (e0.bs b o e).1
 have lim : s.heap.NoLimit := e0.mod.nolimit.keeps fun b o e => (e0.bs b o e).1
 have hkind : ∀ y ∈ ps.zip us, scope.names.lookup y.1 = some .local ∨ (scope.names.lookup y.1 = some .cell ∧ ((cellsFrom (s.heap.objs.size + 1) scope.names []).lookup y.1).isSome = true) := fun ⟨n, v⟩ hy => by
   rcases S.par n (List.of_mem_zip hy).1 with q | q
   · exact .inl q
   · exact .inr ⟨q, W.cellsFrom_some _ _ _ (.inl q)⟩
 refine codeAny_call_function hr.depth (KX _ _ lk) rfl S.co S.gen rfl (W.codeRec_of KX hcd) (hb _ _ _ _ ?_)
 refine wpAny_newFunctionEnv_cells S.kind hkind fun env he s1 x => ?_
 subst he
 refine ⟨lim.keeps x.toInCall.keep, codeAny_func ?_⟩
 obtain ⟨t, ht, hq⟩ := hbody A outer s H vs Q E (hr.deeper _) hsp
 have I : Inv (cxOf CX P w K mg base N qual scope f cdv A outer s H E) [] (start N vs) H s1 := inv_start S hr.hd e0 hl r x
 refine wpAny_mono (ht [] s1 (start N vs) H _ I hq) (fun fl s' hs => ?_) fun e s' hs => hs
 have fin : ∀ {σ' : St} {H' : Hp} {v : V} {u : Value}, Inv (cxOf CX P w K mg base N qual scope f cdv A outer s H E) [] σ' H' s' → RelV v u → Q v H' → CE outer P w H s Q u s' :=
   fun {σ' H' v u} J rv q => ⟨v, H', J.os, J.bare, J.base, J.hok, rv, q⟩
 cases fl with
 | ret u =>
   obtain ⟨v, σ', H', J, rv, q⟩ := hs
   exact fin J rv q
 | next =>
   obtain ⟨σ', H', J, q⟩ := hs
   exact fin (v := V.non) (u := Value.none) J rfl q
 | brk =>
   obtain ⟨_, _, _, q⟩ := hs
   exact False.elim q
 | cont =>
   obtain ⟨_, _, _, q⟩ := hs
   exact False.elim q
end L2
namespace L2
open PySem PySem.Spec PyProof.Rows
section
variable {X : Cx} {x : Str} {p pos : Pos} {e : Expr} {es : List Expr} {t : TA} {id T : String} {r : List V → Hp → VK → Prop}
def tCB (r : List V → Hp → VK → Prop) (t : TA) : TE := fun σ H Q => t σ H fun vs H1 => r vs H1 Q
theorem pe_callB (hc : CallR X (.builtin id) r) (hg : Gl X x) (hm : X.mg x = none) (hv : bootBuiltins x = some (.builtin id)) (ha : PA X (e :: es) t) (hn : x ≠ "__name__" := by decide) (hdb : (x == ("__debug__" : Str)) = false := by decide)
   (he : starEach (e :: es) X.env = (false, eval e X.env) :: starEach es X.env := by rfl) (hpl : (backTo pos (starEach es X.env)).any (·.1) = false := by rfl) : PE X (.Call (.Name x p) (e :: es) [] pos) (tCB r t) := by
 intro pins s σ H Q I h
 refine wpAny_Call_Name_kw (ld_blt I hg hm hv ?_ hn hdb)
 exact PyProof.Rows.callWith_builtin1 (thn (ha pos pins s σ H _ I h) fun us s1 ⟨vs, H1, I1, r1, q1⟩ => hc pins s1 σ H1 vs us Q I1 r1 q1) he hpl
theorem pe_callTy (hc : CallR X (.type T) r) (hg : Gl X x) (hm : X.mg x = none) (hv : bootBuiltins x = some (.type T)) (ha : PA X (e :: es) t) (hn : x ≠ "__name__" := by decide) (hdb : (x == ("__debug__" : Str)) = false := by decide)
   (he : starEach (e :: es) X.env = (false, eval e X.env) :: starEach es X.env := by rfl) (hpl : (backTo pos (starEach es X.env)).any (·.1) = false := by rfl) : PE X (.Call (.Name x p) (e :: es) [] pos) (tCB r t) := by
 intro pins s σ H Q I h
 refine wpAny_Call_Name_kw (ld_blt I hg hm hv ?_ hn hdb)
 exact PyProof.Rows.callWith_type1 (thn (ha pos pins s σ H _ I h) fun us s1 ⟨vs, H1, I1, r1, q1⟩ => hc pins s1 σ H1 vs us Q I1 r1 q1) he hpl
end
end L2
namespace HT
open PySem PyProof.Rows
section
variable {prog : Program} {w : World} {A : Around} {E : Value → Shared → Prop} {s : Shared}
def sIx (n d : Nat) : Option Int → Nat
 | none => d
 | some v => if v < 0 then (v + (n : Int)).toNat else min v.toNat n
theorem sIx_none (n d : Nat) : sIx n d none = d := rfl
theorem sIx_nat (n d k : Nat) : sIx n d (some (k : Int)) = min k n := by
 show (if (k : Int) < 0 then ((k : Int) + (n : Int)).toNat else min (k : Int).toNat n) = min k n
 rw [if_neg (by omega), Int.toNat_natCast]
end
end HT
namespace L2
open PySem PySem.Spec PyProof.Rows
abbrev TO := St → Hp → (Option Int → Hp → Prop) → Prop
def PO (X : Cx) (e : Option Expr) (t : TO) : Prop :=
 ∀ (pins : List (Addr × Obj)) (s : Shared) (σ : St) (H : Hp) (Q : Option Int → Hp → Prop), Inv X pins σ H s → t σ H Q →
   wpAny (model X.prog X.w) X.A (evalPart e X.env) (fun u s' => ∃ o H', Inv X pins σ H' s' ∧ IsPart u o ∧ Q o H') X.xe s
def tNoPart : TO := fun _ H Q => Q none H
def tPart (t : TE) : TO := fun σ H Q => t σ H fun x H1 => ∃ i, x = .int i ∧ Q (some i) H1
theorem intsAre_of {ns : List Int} : ∀ {us : List Value}, Vals (ns.map V.int) us → IntsAre us ns := by
 induction ns with
 | nil => intro us r; rw [List.map_nil] at r; cases r; exact .nil
 | cons n ns ih =>
   intro us r
   rw [List.map_cons] at r
   cases r with
   | cons r1 r2 =>
     obtain ⟨t, e⟩ := r1
     subst e
     exact .cons n t (ih r2)
section
variable {X : Cx} {e : Expr} {te : TE} {lo hi : Option Expr} {tl th : TO} {pos p2 : Pos}
theorem po_none : PO X none tNoPart := by
 intro pins s σ H Q I h
 rw [evalPart_none]
 exact wpAny_pure ⟨none, H, I, .none, h⟩
theorem po_some (h : PE X e te) : PO X (some e) (tPart te) := by
 intro pins s σ H Q I hw
 rw [evalPart_some]
 refine thn (h pins s σ H _ I hw) fun u s1 ⟨x, H1, I1, r1, q1⟩ => ?_
 obtain ⟨i, rfl, q⟩ := q1
 obtain ⟨t, rfl⟩ := r1
 exact ⟨some i, H1, I1, .int i t, q⟩
def SlR (X : Cx) (r : V → Option Int → Option Int → Hp → VK → Prop) : Prop :=
 ∀ (pins : List (Addr × Obj)) (s : Shared) (σ : St) (H : Hp) (x : V) (v vl vu : Value) (lo hi : Option Int) (sl : Addr) (Q : VK), Inv X pins σ H s → RelV x v → s.heap.IsSliceOf sl vl vu .none → IsPart vl lo → IsPart vu hi → r x lo hi H Q →
   ∃ T id, typeLookup (.type T) "__getitem__" = pure (some (.builtin id)) ∧ s.TypeIs v T ∧ wpAny (model X.prog X.w) X.A (getItem v (.ref sl)) (EP X pins σ Q) X.xe s
def tSl (r : V → Option Int → Option Int → Hp → VK → Prop) (te : TE) (tl th : TO) : TE := fun σ H Q => te σ H fun x H1 => tl σ H1 fun l H2 => th σ H2 fun u H3 => r x l u H3 Q
theorem pe_slice {r : V → Option Int → Option Int → Hp → VK → Prop} (hr : SlR X r) (he : PE X e te) (hl : PO X lo tl) (hu : PO X hi th) : PE X (.Subscript e (.Slice lo hi none p2) pos) (tSl r te tl th) := by
 intro pins s σ H Q I h
 refine Subscript_ (thn (he pins s σ H _ I h) fun v s1 ⟨x, H1, I1, r1, q1⟩ => ?_)
 refine wpAny_Slice (thn (hl pins s1 σ H1 _ I1 q1) fun vl s2 ⟨l, H2, I2, pl, q2⟩ => thn (hu pins s2 σ H2 _ I2 q2) fun vu s3 ⟨u, H3, I3, pu, q3⟩ => ?_)
 rw [evalPart_none]
 refine wpAny_pure ?_
 have I4 : Inv X pins σ H3 { s3 with heap := s3.heap.push { cls := .type "slice", data := .fields #[vl, vu, .none] } } := I3.kept (t' := s3.toks) fun b ob q => Heap.get?_push_of_some _ q
 obtain ⟨T, id, hT, ht, hg⟩ := hr pins { s3 with heap := s3.heap.push { cls := .type "slice", data := .fields #[vl, vu, .none] } } σ H3 x v vl vu l u s3.heap.objs.size Q I4 r1 (Heap.IsSliceOf.new ..) pl pu q3
 show wpAny (model X.prog X.w) X.A (subscriptTail e (.Slice lo hi none p2) v (.ref s3.heap.objs.size)) (EP X pins σ Q) X.xe { s3 with heap := s3.heap.push { cls := .type "slice", data := .fields #[vl, vu, .none] } }
 exact tail_any (ops := [.ref s3.heap.objs.size, v]) ht hT hg (by with_unfolding_all rfl)
def cutV (xs : List V) (lo hi : Option Int) : List V := (xs.drop (HT.sIx xs.length 0 lo)).take (HT.sIx xs.length xs.length hi - HT.sIx xs.length 0 lo)
theorem cutV_length (xs : List V) (lo hi : Option Int) : (cutV xs lo hi).length ≤ xs.length := by
 unfold cutV
 rw [List.length_take, List.length_drop]
 omega
end
end L2
namespace L2
open PySem PySem.Spec PyProof.Rows
def ixN (n : Nat) (i : Int) : Option Nat := if 0 ≤ i then (if i < n then some i.toNat else none) else if -(n : Int) ≤ i then some (i + n).toNat else none
def atI {α : Type} (xs : List α) (i : Int) : Option α := (ixN xs.length i).bind fun j => xs[j]?
theorem ixN_seq {n : Nat} {i : Int} {j : Nat} (h : ixN n i = some j) : seqIndex? i n = some j ∧ j < n ∧ -(n : Int) ≤ i ∧ i < n := by
 unfold ixN at h
 by_cases h0 : 0 ≤ i
 · rw [if_pos h0] at h
   by_cases h1 : i < n
   · rw [if_pos h1] at h
     have e : i.toNat = j := Option.some.inj h
     exact ⟨by rw [seqIndex_of h0 h1, e], by omega, by omega, h1⟩
   · rw [if_neg h1] at h; cases h
 · rw [if_neg h0] at h
   by_cases h1 : -(n : Int) ≤ i
   · rw [if_pos h1] at h
     have e : (i + n).toNat = j := Option.some.inj h
     exact ⟨by rw [seqIndex_neg (by omega) h1, e], by omega, h1, by omega⟩
   · rw [if_neg h1] at h; cases h
theorem atI_get {α : Type} {xs : List α} {i : Int} {v : α} (h : atI xs i = some v) : ∃ j, seqIndex? i xs.length = some j ∧ xs[j]? = some v ∧ j < xs.length ∧ -(xs.length : Int) ≤ i ∧ i < xs.length := by
 unfold atI at h
 cases e : ixN xs.length i with
 | none => rw [e] at h; cases h
 | some j =>
   rw [e] at h
   obtain ⟨h1, h2, h3, h4⟩ := ixN_seq e
   exact ⟨j, h1, h, h2, h3, h4⟩
theorem atI_nat {α : Type} {xs : List α} {j : Nat} {v : α} (h : xs[j]? = some v) : atI xs (j : Int) = some v := by
 have hj : j < xs.length := (List.getElem?_eq_some_iff.mp h).1
 have e : ixN xs.length (j : Int) = some j := by
   unfold ixN
   rw [if_pos (by omega), if_pos (by omega)]; simp
 unfold atI; rw [e]; exact h
def PlainIx (b : Expr) : Prop := ∀ o i, subscripted b false o i = operate [o, i] (getItem o i)
def IxR (X : Cx) (r : R2) : Prop :=
 ∀ (value slice : Expr) (pins : List (Addr × Obj)) (s : Shared) (σ : St) (H : Hp) (x y : V) (v u : Value) (Q : VK), Inv X pins σ H s → RelV x v → RelV y u → r x y H Q →
   subscripted slice false v u = operate [v, u] (getItem v u) → wpAny (model X.prog X.w) X.A (subscriptTail value slice v u) (EP X pins σ Q) X.xe s
def MtR (X : Cx) (id : String) (r : V → List V → Hp → VK → Prop) : Prop :=
 ∀ (pins : List (Addr × Obj)) (s : Shared) (σ : St) (H : Hp) (x : V) (xs : List V) (v : Value) (us : List Value) (Q : VK), Inv X pins σ H s → RelV x v → Vals xs us → r x xs H Q →
   wpAny (model X.prog X.w) X.A (call (.builtin id) (v :: us)) (EP X pins σ Q) X.xe s
section
variable {X : Cx} {a b : Expr} {ta tb : TE} {pos : Pos}
theorem pe_ix {r : R2} (hr : IxR X r) (ha : PE X a ta) (hb : PE X b tb) (hs : PlainIx b) : PE X (.Subscript a b pos) (tOp r ta tb) := by
 intro pins s σ H Q I h
 exact Subscript_ (binT ha hb I h fun v u s2 x y H2 I2 rx ry q => hr a b pins s2 σ H2 x y v u Q I2 rx ry q (hs _ _))
def rIxL (K : W.Frag) : R2 := fun x y H Q => ∃ p xs i v, x = .ref p ∧ y = .int i ∧ SqL K H p xs ∧ atI xs i = some v ∧ Q v H
def rIxT (K : W.Frag) : R2 := fun x y H Q => ∃ p xs i v, x = .ref p ∧ y = .int i ∧ SqT K H p xs ∧ atI xs i = some v ∧ Q v H
theorem ix_list : IxR X (rIxL X.K) := by
 intro value slice pins s σ H x y v u Q I rx ry h hs
 obtain ⟨p, xs, i, z, rfl, rfl, hq, he, q⟩ := h
 cases rx
 obtain ⟨t, rfl⟩ := ry
 obtain ⟨its, r, pl, hz⟩ := I.list hq
 obtain ⟨j, h1, h2, h3, h4, h5⟩ := atI_get he
 obtain ⟨w, ew, rw'⟩ := r.get h2
 have hl := r.length
 have hn := line63
 have fin : EP X pins σ Q w s := ⟨z, H, I, rw', q⟩
 by_cases h0 : 0 ≤ i
 · have hj : i.toNat = j := by
     rw [seqIndex_of h0 h5] at h1
     exact Option.some.inj h1
   exact item_listR pl.isList h0 (by omega) (by rw [hj]; simpa using ew) fin hs
 · have hj : (i + (its.toArray.size : Int)).toNat = j := by
     rw [seqIndex_neg (by omega) h4] at h1
     rw [List.size_toArray, ← hl]
     exact Option.some.inj h1
   exact subscriptTail_builtinR (x := w) pl.isList.typeIs slot_list_getitem.lookup
     (wpAny_getItem_list_neg (Q := fun r s' => r = w ∧ EP X pins σ Q r s') pl.isList (by omega) (by rw [List.size_toArray] <;> omega) (by omega) (by rw [hj]; simpa using ew) ⟨rfl, fin⟩) hs
theorem ix_tup : IxR X (rIxT X.K) := by
 intro value slice pins s σ H x y v u Q I rx ry h hs
 obtain ⟨p, xs, i, z, rfl, rfl, hq, he, q⟩ := h
 cases rx
 obtain ⟨t, rfl⟩ := ry
 obtain ⟨its, r, pl, hz⟩ := I.tuple hq
 obtain ⟨j, h1, h2, h3, h4, h5⟩ := atI_get he
 obtain ⟨w, ew, rw'⟩ := r.get h2
 have hl := r.length
 have hn := line63
 have fin : EP X pins σ Q w s := ⟨z, H, I, rw', q⟩
 exact subscriptTail_builtinR (x := w) pl.typeIs slot_tuple_getitem.lookup
   (getItem_tuple (j := j) (Q := fun r s' => r = w ∧ EP X pins σ Q r s') pl (by omega) (by omega) (by rw [List.size_toArray, ← hl]; exact h1) (by simpa using ew) ⟨rfl, fin⟩) hs
theorem Inv.lst {pins : List (Addr × Obj)} {σ : St} {H : Hp} {s : Shared} {p : Addr} {xs : List V} (I : Inv X pins σ H s) (h : H p = some (.lst xs)) :
   ∃ (its : List Value) (n : Nat), Vals xs its ∧ s.heap.get? p = some { cls := .type "list", data := .seq its.toArray n } ∧ xs.length ≤ sizeLine := by
 obtain ⟨z, its, n, r, e⟩ := I.hok p _ h
 exact ⟨its, n, r, e, z⟩
theorem slice_bounds (lo hi : Option Int) (n : Nat) : (sliceBounds lo hi none n).1 = ((HT.sIx n 0 lo : Nat) : Int) ∧ (sliceBounds lo hi none n).2.1 = ((HT.sIx n n hi : Nat) : Int) ∧ (sliceBounds lo hi none n).2.2 = 1 := by
 refine ⟨?_, ?_, rfl⟩
 · cases lo with
   | none => simp [sliceBounds, HT.sIx]
   | some i =>
     simp only [sliceBounds, HT.sIx, Option.getD_none, show (1 : Int) > 0 by decide, if_true]
     by_cases h : i < 0
     · simp only [h, if_true] <;> omega
     · simp only [h, if_false] <;> omega
 · cases hi with
   | none => simp [sliceBounds, HT.sIx]
   | some i =>
     simp only [sliceBounds, HT.sIx, Option.getD_none, show (1 : Int) > 0 by decide, if_true]
     by_cases h : i < 0
     · simp only [h, if_true] <;> omega
     · simp only [h, if_false] <;> omega
theorem slicePick_cut (its : List Value) (lo hi : Option Int) : slicePick its.toArray lo hi none = ((its.drop (HT.sIx its.length 0 lo)).take (HT.sIx its.length its.length hi - HT.sIx its.length 0 lo)).toArray := by
 obtain ⟨h1, h2, h3⟩ := slice_bounds lo hi its.toArray.size
 unfold slicePick
 rw [h1, h2, h3]
 simp only [sliceRange_one, pick_run, List.size_toArray] <;> rfl
def rSlL (K : W.Frag) : V → Option Int → Option Int → Hp → VK → Prop := fun x lo hi H Q => ∃ a xs, x = .ref a ∧ SqL K H a xs ∧ ∀ p, H p = none → Q (.ref p) (upd H p (.lst (cutV xs lo hi)))
theorem sl_list : SlR X (rSlL X.K) := by
 intro pins s σ H x v vl vu lo hi sl Q I rx hs pl pu h
 obtain ⟨a, xs, rfl, hx, q⟩ := h
 cases rx
 obtain ⟨its, r, ht, hz⟩ := I.list hx
 have hlen := r.length
 refine ⟨"list", _, slot_list_getitem.lookup, ht.isList.typeIs, ?_⟩
 refine wpAny_getItem_list_slice ht.isList hs pl pu .none (by simp) ?_ (by rw [List.size_toArray] <;> omega)
 rw [slicePick_cut, ← hlen]
 refine ⟨.ref s.heap.objs.size, _, I.laid (t' := s.toks) (o := .lst (cutV xs lo hi)) (fun b ob q => Heap.get?_push_of_some _ q) (Nat.le_refl _) ?_, rfl, q _ (I.hok.fresh (Nat.le_refl _))⟩
 exact ⟨Nat.le_trans (cutV_length xs lo hi) hz, _, 0, (r.drop (HT.sIx xs.length 0 lo)).take (HT.sIx xs.length xs.length hi - HT.sIx xs.length 0 lo), Heap.get?_push_size _ rfl⟩
def flatV : V → Bool
 | .non => true
 | .bl _ => true
 | .int _ => true
 | .str _ => true
 | _ => false
def eqV : V → V → Bool
 | .non, .non => true
 | .bl a, .bl b => a == b
 | .bl a, .int b => (if a then 1 else 0) == b
 | .int a, .bl b => a == (if b then 1 else 0)
 | .int a, .int b => a == b
 | .str a, .str b => a == b
 | _, _ => false
theorem eqAt_V {A : Around} {s : Shared} {y x : V} {u v : Value} (ry : RelV y u) (rx : RelV x v) (fy : flatV y = true) (fx : flatV x = true) : SeqAt.EqAt A s u v (eqV y x) := by
 cases y with
 | non =>
   cases ry
   cases x with
   | non => cases rx; exact SeqAt.EqAt.same _
   | bl b => cases rx; exact SeqAt.EqAt.none_bool b
   | int b => obtain ⟨t, rfl⟩ := rx; exact SeqAt.EqAt.none_int b t
   | str b => obtain ⟨t, rfl⟩ := rx; exact SeqAt.EqAt.none_str b t
   | _ => exact absurd (show false = true from fx) Bool.false_ne_true
 | bl a =>
   cases ry
   cases x with
   | non => cases rx; exact SeqAt.EqAt.bool_none a
   | bl b => cases rx; exact SeqAt.EqAt.bool_bool a b
   | int b => obtain ⟨t, rfl⟩ := rx; exact SeqAt.EqAt.bool_int a b t
   | str b => obtain ⟨t, rfl⟩ := rx; exact SeqAt.EqAt.bool_str a b t
   | _ => exact absurd (show false = true from fx) Bool.false_ne_true
 | int a =>
   obtain ⟨t', rfl⟩ := ry
   cases x with
   | non => cases rx; exact SeqAt.EqAt.int_none a t'
   | bl b => cases rx; exact SeqAt.EqAt.int_bool a t' b
   | int b => obtain ⟨t, rfl⟩ := rx; exact SeqAt.EqAt.int_int a t' b t
   | str b => obtain ⟨t, rfl⟩ := rx; exact SeqAt.EqAt.int_str a t' b t
   | _ => exact absurd (show false = true from fx) Bool.false_ne_true
 | str a =>
   obtain ⟨t', rfl⟩ := ry
   cases x with
   | non => cases rx; exact SeqAt.EqAt.str_none a t'
   | bl b => cases rx; exact SeqAt.EqAt.str_bool a t' b
   | int b => obtain ⟨t, rfl⟩ := rx; exact SeqAt.EqAt.str_int a t' b t
   | str b => obtain ⟨t, rfl⟩ := rx; exact SeqAt.EqAt.str_str a t' b t
   | _ => exact absurd (show false = true from fx) Bool.false_ne_true
 | _ => exact absurd (show false = true from fy) Bool.false_ne_true
def eqU (x : V) (u : Value) : Bool := match u with
 | .none => eqV .non x
 | .bool b => eqV (.bl b) x
 | .int i _ => eqV (.int i) x
 | .str z _ => eqV (.str z) x
 | _ => false
theorem eqU_of {x y : V} {u : Value} (r : RelV y u) (f : flatV y = true) : eqU x u = eqV y x := by
 cases y with
 | non => cases r; rfl
 | bl b => cases r; rfl
 | int i => obtain ⟨t, rfl⟩ := r; rfl
 | str z => obtain ⟨t, rfl⟩ := r; rfl
 | _ => exact absurd (show false = true from f) Bool.false_ne_true
theorem any_eqU {x : V} : ∀ {xs : List V} {us : List Value}, Vals xs us → xs.all flatV = true → us.any (eqU x) = xs.any fun y => eqV y x
 | _, _, .nil, _ => rfl
 | y :: xs, u :: us, .cons r t, f => by
   rw [List.all_cons, Bool.and_eq_true] at f
   rw [List.any_cons, List.any_cons, eqU_of r f.1, any_eqU t f.2]
theorem mem_eqAt {A : Around} {s : Shared} {x : V} {v : Value} (rx : RelV x v) (fx : flatV x = true) : ∀ {xs : List V} {us : List Value}, Vals xs us → xs.all flatV = true → ∀ u ∈ us, SeqAt.EqAt A s u v (eqU x u)
 | _, _, .nil, _ => fun u hu => by cases hu
 | y :: xs, u :: us, .cons r t, f => fun u' hu => by
   rw [List.all_cons, Bool.and_eq_true] at f
   rcases List.mem_cons.mp hu with rfl | hu
   · rw [eqU_of r f.1]; exact eqAt_V r rx f.1 fx
   · exact mem_eqAt rx fx t f.2 u' hu
def inV (x : V) (xs : List V) : Bool := xs.any fun y => eqV y x
def rIn (K : W.Frag) (neg : Bool) : R2 := fun x y H Q => ∃ p xs, y = .ref p ∧ (SqL K H p xs ∨ SqT K H p xs) ∧ flatV x = true ∧ xs.all flatV = true ∧ Q (.bl (if neg then !inV x xs else inV x xs)) H
theorem op_in_seq : OpR X (compareOp .In) (rIn X.K false) := by
 intro pins s σ H x y v u Q I rx ry h
 obtain ⟨p, xs, rfl, hq, fx, fs, q⟩ := h
 cases ry
 rcases hq with hq | hq
 · obtain ⟨its, r, pl, hz⟩ := I.list hq
   refine SeqAt.in_listAt (eqU x) pl.isList (fun w hw => mem_eqAt rx fx r fs w (by simpa using hw)) ⟨.bl _, H, I, rfl, ?_⟩
   rw [show its.toArray.any (eqU x) = its.any (eqU x) by simp, any_eqU r fs]
   exact q
 · obtain ⟨its, r, pl, hz⟩ := I.tuple hq
   refine SeqAt.in_tupleAt (eqU x) pl (fun w hw => mem_eqAt rx fx r fs w (by simpa using hw)) ⟨.bl _, H, I, rfl, ?_⟩
   rw [show its.toArray.any (eqU x) = its.any (eqU x) by simp, any_eqU r fs]
   exact q
theorem call_len_seq : CallR X (.builtin "len") (fun xs H Q => ∃ p ys, xs = [.ref p] ∧ (SqL X.K H p ys ∨ SqT X.K H p ys) ∧ Q (.int ys.length) H) := by
 intro pins s σ H xs us Q I r h
 obtain ⟨p, ys, rfl, hq, q⟩ := h
 obtain ⟨u, rfl, rx⟩ := vals1 r
 cases rx
 have hn := line63
 rcases hq with hq | hq
 · obtain ⟨its, r', pl, hz⟩ := I.list hq
   have hlen := r'.length
   exact Calls.call_len_list pl.isList (by simp only [List.size_toArray] <;> omega) ⟨.int ys.length, H, I.tok _, ⟨s.toks + 1, by rw [List.size_toArray, hlen]⟩, q⟩
 · obtain ⟨its, r', pl, hz⟩ := I.tuple hq
   have hlen := r'.length
   exact len_tuple pl (by simp only [List.size_toArray] <;> omega) ⟨.int ys.length, H, I.tok _, ⟨s.toks + 1, by rw [List.size_toArray, hlen]⟩, q⟩
theorem call_list_of : CallR X (.type "list") (fun xs H Q => ∃ p ys, xs = [.ref p] ∧ (SqL X.K H p ys ∨ SqT X.K H p ys) ∧ ∀ l, H l = none → Q (.ref l) (upd H l (.lst ys))) := by
 intro pins s σ H xs us Q I r h
 obtain ⟨p, ys, rfl, hq, q⟩ := h
 obtain ⟨u, rfl, rx⟩ := vals1 r
 cases rx
 have fin : ∀ (its : List Value), Vals ys its → ys.length ≤ sizeLine → ∀ (h' : Heap) (c' : Nat), (∀ b o', s.heap.get? b = some o' → h'.get? b = some o') →
     h'.get? s.heap.objs.size = some { cls := .type "list", dict := none, data := .seq its.toArray c', slots := #[] } → EP X pins σ Q (.ref s.heap.objs.size) { s with heap := h' } := fun its r' hz h' c' kp e =>
   ⟨.ref s.heap.objs.size, _, I.laid (t' := s.toks) kp (Nat.le_refl _) (show ObjOk X.prog X.w _ h' _ (.lst ys) from ⟨hz, its, c', r', e⟩), rfl, q _ (I.hok.fresh (Nat.le_refl _))⟩
 rcases hq with hq | hq
 · obtain ⟨its, r', pl, hz⟩ := I.list hq
   have hlen := r'.length
   obtain ⟨o, ho, hc, n, hd⟩ := pl.isList
   exact call_list_seq p (.inl rfl) ho hc hd (fun h' c' kp e => fin its r' hz h' c' kp e) (by simp only [List.size_toArray] <;> omega)
 · obtain ⟨its, r', pl, hz⟩ := I.tuple hq
   have hlen := r'.length
   obtain ⟨o, ho, hc, n, hd⟩ := pl
   exact call_list_seq p (.inr rfl) ho hc hd (fun h' c' kp e => fin its r' hz h' c' kp e) (by simp only [List.size_toArray] <;> omega)
def tyV (K : W.Frag) (T : String) (x : V) (H : Hp) : Prop := match x with
 | .str _ => T = "str"
 | .int _ => T = "int"
 | .ref p => (T = "list" ∧ ∃ xs, SqL K H p xs) ∨ (T = "tuple" ∧ ∃ o, K.lookup p = some o ∧ o.cls = .type "tuple" ∧ o.dict = none) ∨
     (T = "dict" ∧ ((∃ kvs, H p = some (.dK kvs)) ∨ ∃ kvs, H p = some (.dT kvs))) ∨ (T = "set" ∧ ∃ S n, H p = some (.set S n))
 | _ => False
theorem tyV_is {pins : List (Addr × Obj)} {σ : St} {H : Hp} {s : Shared} {T : String} {x : V} {v : Value} (I : Inv X pins σ H s) (r : RelV x v) (ty : tyV X.K T x H) :
   s.TypeIs v T ∧ ∀ a, v = .ref a → ∃ ob, s.heap.get? a = some ob ∧ ob.dict = none := by
 cases x with
 | str z =>
   obtain ⟨t, rfl⟩ := r
   cases (show T = "str" from ty)
   exact ⟨typeIs_str s z t, fun _ e => nomatch e⟩
 | int i =>
   obtain ⟨t, rfl⟩ := r
   cases (show T = "int" from ty)
   exact ⟨typeIs_int s i t, fun _ e => nomatch e⟩
 | ref p =>
   cases r
   rcases ty with ⟨rfl, xs, hq⟩ | ⟨rfl, o, hk, hc, hd⟩ | ⟨rfl, hk⟩ | ⟨rfl, S, n, hk⟩
   · obtain ⟨its, _, pl, _⟩ := I.list hq
     refine ⟨pl.isList.typeIs, fun a e => ?_⟩
     cases e
     obtain ⟨o, n, e, c, hd, _⟩ := pl
     exact ⟨o, e, hd⟩
   · refine ⟨⟨o, I.kIn p o hk, hc⟩, fun a e => ?_⟩
     cases e
     exact ⟨o, I.kIn _ o hk, hd⟩
   · have z : ∃ o, s.heap.get? p = some o ∧ o.ExactDict := by
       rcases hk with ⟨kvs, hk⟩ | ⟨kvs, hk⟩
       · obtain ⟨_, _, _, _, o, _, _, e, ex, _⟩ := I.hok p _ hk
         exact ⟨o, e, ex⟩
       · obtain ⟨_, _, _, _, o, _, _, e, ex, _⟩ := I.hok p _ hk
         exact ⟨o, e, ex⟩
     obtain ⟨o, e, ex⟩ := z
     refine ⟨⟨o, e, ex.1⟩, fun a e2 => ?_⟩
     cases e2
     exact ⟨o, e, ex.2.1⟩
   · obtain ⟨o, _, _, _, e, ex, _⟩ := I.hok p _ hk
     refine ⟨⟨o, e, ex.1⟩, fun a e2 => ?_⟩
     cases e2
     exact ⟨o, e, ex.2.1⟩
 | _ => exact False.elim ty
def tBM0 (K : W.Frag) (T : String) (r : V → List V → Hp → VK → Prop) (to : TE) : TE := fun σ H Q => to σ H fun x H1 => tyV K T x H1 ∧ r x [] H1 Q
def tBM (K : W.Frag) (T : String) (r : V → List V → Hp → VK → Prop) (to : TE) (t : TA) : TE := fun σ H Q => to σ H fun x H1 => tyV K T x H1 ∧ t σ H1 fun xs H2 => r x xs H2 Q
variable {o e : Expr} {es : List Expr} {to : TE} {t : TA} {name : Str} {apos cpos : Pos} {T id : String} {r : V → List V → Hp → VK → Prop}
theorem pe_bm0 (pa : PlainAttrs T) (slot : Slot T name id) (hty : typeOf (.builtin id) = pure (.type "method_descriptor")) (hm : MtR X id r) (ho : PE X o to)
   (hbase : attributeBase o name X.env (eval o X.env) = eval o X.env := by rfl) (hline : (apos.endLine == cpos.line) = true := by rfl) : PE X (.Call (.Attribute o name apos) [] [] cpos) (tBM0 X.K T r to) := by
 intro pins s σ H Q I h
 refine wpAny_Call_method0_late hbase hline (thn (ho pins s σ H _ I h) fun v s1 ⟨x, H1, I1, r1, ty, q1⟩ => ?_)
 obtain ⟨h1, h2⟩ := tyV_is I1 r1 ty
 exact ⟨T, id, pa, slot, hty, h1, h2, Calls.callWith_builtin rfl (PySem.evalArgs_none (hm pins s1 σ H1 x [] v [] Q I1 r1 .nil q1))⟩
theorem pe_bm (pa : PlainAttrs T) (slot : Slot T name id) (hty : typeOf (.builtin id) = pure (.type "method_descriptor")) (hm : MtR X id r) (ho : PE X o to) (ha : PA X (e :: es) t)
   (hbase : attributeBase o name X.env (eval o X.env) = eval o X.env := by rfl)
   (hfew : ((backTo cpos (starEach (e :: es) X.env)).all (fun x => !x.1) && (backToKw cpos (keywordEach [] X.env)).all (fun x => x.1.isSome)
     && decide ((e :: es).length + ([] : List Keyword).length + (if ([] : List Keyword).isEmpty then 0 else 1) < 30)) = true := by rfl)
   (hline : (apos.endLine == cpos.line) = true := by rfl) (hs : starEach (e :: es) X.env = (false, eval e X.env) :: starEach es X.env := by rfl) (hplain : (backTo cpos (starEach es X.env)).any (·.1) = false := by rfl) :
   PE X (.Call (.Attribute o name apos) (e :: es) [] cpos) (tBM X.K T r to t) := by
 intro pins s σ H Q I h
 refine wpAny_Call_method_late hbase hfew hline rfl (thn (ho pins s σ H _ I h) fun v s1 ⟨x, H1, I1, r1, ty, q1⟩ => ?_)
 obtain ⟨h1, h2⟩ := tyV_is I1 r1 ty
 refine ⟨T, id, pa, slot, hty, h1, h2, ?_⟩
 have hA := ha cpos pins s1 σ H1 _ I1 q1
 rw [hs] at hA ⊢
 refine Calls.callWith_builtin (by show (false || (backTo cpos (starEach es X.env)).any (·.1)) = false; rw [hplain] <;> rfl) (Calls.evalArgs_plain ?_)
 exact thn hA fun us s2 ⟨vs, H2, I2, r2, q2⟩ => hm pins s2 σ H2 x vs v us Q I2 r1 r2 q2
end
end L2
namespace L2
open PySem PySem.Spec PyProof.Rows
def MtM (X : Cx) (id : String) (r : V → List V → Hp → VK → Prop) : Prop :=
 ∀ (pins : List (Addr × Obj)) (s : Shared) (σ : St) (H : Hp) (x : V) (xs : List V) (v : Value) (us : List Value) (Q : VK), Inv X pins σ H s → RelV x v → Vals xs us → r x xs H Q →
   wpAny (model X.prog X.w) X.A (call (.builtin id) (v :: us)) (EP X pins σ Q) X.xe s
theorem Vals.one : ∀ {x : V} {us : List Value}, Vals [x] us → ∃ u, us = [u] ∧ RelV x u
 | _, _, .cons r .nil => ⟨_, rfl, r⟩
theorem Vals.zero : ∀ {us : List Value}, Vals [] us → us = []
 | _, .nil => rfl
theorem Vals.eraseIdx : ∀ {xs : List V} {us : List Value} (i : Nat), Vals xs us → Vals (xs.eraseIdx i) (us.eraseIdx i)
 | _, _, _, .nil => .nil
 | _, _, 0, .cons _ t => t
 | _, _, i + 1, .cons r t => .cons r (Vals.eraseIdx i t)
theorem Vals.reverse {xs : List V} {us : List Value} (h : Vals xs us) : Vals xs.reverse us.reverse := by
 induction h with
 | nil => exact .nil
 | cons r t ih => rw [List.reverse_cons, List.reverse_cons]; exact Vals.append ih (.cons r .nil)
theorem len_erase {α : Type} : ∀ (l : List α) (i : Nat), (l.eraseIdx i).length ≤ l.length
 | [], _ => Nat.le_refl _
 | _ :: _, 0 => Nat.le_succ _
 | _ :: r, i + 1 => Nat.succ_le_succ (len_erase r i)
section
variable {X : Cx} {pins : List (Addr × Obj)} {σ : St} {H : Hp} {s : Shared} {l b : Addr} {xs ys zs : List V}
theorem Inv.lset {its its' : List Value} {n : Nat} {f : Array Value → Array Value} {t' : Nat} (I : Inv X pins σ H s) (hH : H l = some (.lst xs))
   (e : s.heap.get? l = some { cls := .type "list", data := .seq its.toArray n }) (hf : f its.toArray = its'.toArray) (hv : Vals ys its') (hz : ys.length ≤ sizeLine) :
   Inv X pins σ (upd H l (.lst ys)) { s with heap := s.heap.update l (Obj.mapSeq f), toks := t' } := by
 have q := PySem.IsL.update e f
 rw [hf] at q
 refine I.write (x := l) (e := l) (by rw [hH]; exact trivial) (.inl rfl) (fun b' u hb hu => (Heap.get?_update_other s.heap (Obj.mapSeq f) (Ne.symm hb)).trans hu) ⟨_, q⟩ ?_
 exact ⟨hz, its', _, hv, q⟩
theorem Inv.lnew {its : List Value} {t' : Nat} (I : Inv X pins σ H s) (hv : Vals ys its) (hz : ys.length ≤ sizeLine) :
   Inv X pins σ (upd H s.heap.objs.size (.lst ys)) { s with heap := s.heap.push { cls := .type "list", data := .seq its.toArray }, toks := t' } :=
 I.laid (fun _ _ q => Heap.get?_push_of_some _ q) (Nat.le_refl _) ⟨hz, its, 0, hv, Heap.get?_push_size _ rfl⟩
theorem Inv.fresh (I : Inv X pins σ H s) : H s.heap.objs.size = none := I.hok.fresh (Nat.le_refl _)
theorem Inv.lstM (I : Inv X pins σ H s) (hH : H l = some (.lst xs)) : xs.length ≤ sizeLine ∧ ∃ (its : List Value) (n : Nat), Vals xs its ∧ xs.length = its.length ∧ s.heap.get? l = some { cls := .type "list", data := .seq its.toArray n } := by
 obtain ⟨z, its, n, r, e⟩ := I.hok l _ hH
 exact ⟨z, its, n, r, r.length, e⟩
theorem notLongL {n : Nat} (h : n ≤ sizeLine) : Builtin.List.listTooLong n = false := by
 unfold Builtin.List.listTooLong
 exact decide_eq_false (by omega)
end
section
variable {X : Cx}
def rAppend : V → List V → Hp → VK → Prop := fun x vs H Q => ∃ l xs y, x = .ref l ∧ vs = [y] ∧ H l = some (.lst xs) ∧ xs.length < sizeLine ∧ Q .non (upd H l (.lst (xs ++ [y])))
theorem mt_append : MtM X "list.append" rAppend := by
 intro pins s σ H x vs v us Q I rx rv h
 obtain ⟨l, xs, y, rfl, rfl, hH, hz, q⟩ := h
 cases rx
 obtain ⟨u, rfl, ru⟩ := rv.one
 obtain ⟨z, its, n, r, hl, e⟩ := I.lstM hH
 refine call_meets F.slot_list_append ⟨_, e, rfl⟩ F.entry_list_append (F.args_list_append_2 _ _) (PySem.list_append l its.toArray n u (by rw [List.size_toArray]; omega)) ⟨e, ?_⟩
 refine ⟨.non, _, I.lset (its' := its ++ [u]) hH e (by simp) (r.append (.cons ru .nil)) ?_, rfl, q⟩
 rw [List.length_append, List.length_singleton]
 omega
def rExtend : V → List V → Hp → VK → Prop := fun x vs H Q => ∃ l b xs zs, x = .ref l ∧ vs = [.ref b] ∧ H l = some (.lst xs) ∧ H b = some (.lst zs) ∧ xs.length + zs.length ≤ sizeLine ∧ Q .non (upd H l (.lst (xs ++ zs)))
theorem mt_extend : MtM X "list.extend" rExtend := by
 intro pins s σ H x vs v us Q I rx rv h
 obtain ⟨l, b, xs, zs, rfl, rfl, hH, hB, hz, q⟩ := h
 cases rx
 obtain ⟨u, rfl, ru⟩ := rv.one
 cases ru
 obtain ⟨z, its, n, r, hl, e⟩ := I.lstM hH
 obtain ⟨z2, its2, n2, r2, hl2, e2⟩ := I.lstM hB
 have hsz : its.toArray.size + its2.toArray.size ≤ sizeLine := by rw [List.size_toArray, List.size_toArray]; omega
 have hlong : ¬ (!its.toArray.isEmpty && Builtin.List.listTooLong (its.toArray.size + its2.toArray.size)) = true := by
   rw [notLongL hsz, Bool.and_false]
   exact Bool.false_ne_true
 refine call_meets F.slot_list_extend ⟨_, e, rfl⟩ F.entry_list_extend (F.args_list_extend_2 _ _)
   (AutoSeq1.list_extend_list_list_0 l its.toArray n b its2.toArray n2 hlong (by rw [List.size_toArray]; omega) (by omega)) ⟨e, e2, ?_⟩
 refine ⟨.non, _, I.lset (its' := its ++ its2) hH e (by simp) (r.append r2) ?_, rfl, q⟩
 rw [List.length_append]
 omega
def rPopAt : V → List V → Hp → VK → Prop := fun x vs H Q => ∃ l xs i k y, x = .ref l ∧ vs = [.int i] ∧ H l = some (.lst xs) ∧ -(2 ^ 63) ≤ i ∧ i < 2 ^ 63 ∧ seqIndex? i xs.length = some k ∧ xs[k]? = some y ∧ Q y (upd H l (.lst (xs.eraseIdx k)))
theorem mt_popAt : MtM X "list.pop" rPopAt := by
 intro pins s σ H x vs v us Q I rx rv h
 obtain ⟨l, xs, i, k, y, rfl, rfl, hH, h1, h2, hk, hy, q⟩ := h
 cases rx
 obtain ⟨u, rfl, ru⟩ := rv.one
 obtain ⟨t, rfl⟩ := ru
 obtain ⟨z, its, n, r, hl, e⟩ := I.lstM hH
 obtain ⟨w, hw, rw'⟩ := r.get hy
 refine call_meets F.slot_list_pop ⟨_, e, rfl⟩ F.entry_list_pop (F.args_list_pop_2 _ _)
   (MeetsSeq.list_pop_at l its.toArray n i t k w (fitsIndex_both h1 h2) (by rw [List.size_toArray, ← hl]; exact hk) (by rw [← Array.getElem?_toList]; exact hw) (by rw [List.size_toArray]; omega)) ⟨e, ?_⟩
 refine ⟨y, _, I.lset (its' := its.eraseIdx k) hH e ?_ (r.eraseIdx k) ?_, rw', q⟩
 · show its.toArray.eraseIdxIfInBounds k = (its.eraseIdx k).toArray
   rw [List.eraseIdxIfInBounds_toArray]
 · have := len_erase xs k
   omega
def rCat : R2 := fun x y H Q => ∃ l b xs zs, x = .ref l ∧ y = .ref b ∧ H l = some (.lst xs) ∧ H b = some (.lst zs) ∧ xs.length + zs.length ≤ sizeLine ∧ ∀ p, H p = none → Q (.ref p) (upd H p (.lst (xs ++ zs)))
theorem op_cat : OpR X (binaryOp .Add) rCat := by
 intro pins s σ H x y v u Q I rx ry h
 obtain ⟨l, b, xs, zs, rfl, rfl, hH, hB, hz, q⟩ := h
 cases rx
 cases ry
 obtain ⟨z, its, n, r, hl, e⟩ := I.lstM hH
 obtain ⟨z2, its2, n2, r2, hl2, e2⟩ := I.lstM hB
 refine PySem.P.add_list e e2 ?_ (by rw [List.size_toArray, List.size_toArray]; omega)
 have ea : its.toArray ++ its2.toArray = (its ++ its2).toArray := by simp
 rw [ea]
 exact ⟨.ref _, _, I.lnew (t' := s.toks) (r.append r2) (by rw [List.length_append]; omega), rfl, q _ I.fresh⟩
end
end L2
namespace L2
open PySem PySem.Spec PyProof.Rows
section
variable {κ : Type} [DecidableEq κ]
def valV (kvs : List (κ × V)) (k : κ) : Option V := (kvs.find? fun kv => decide (kv.1 = k)).map (·.2)
def putK (kvs : List (κ × V)) (k : κ) (v : V) : List (κ × V) :=
 if (kvs.any fun kv => decide (kv.1 = k)) = true then kvs.map (fun kv => if kv.1 = k then (kv.1, v) else kv) else kvs ++ [(k, v)]
def dropK (kvs : List (κ × V)) (k : κ) : List (κ × V) := kvs.filter fun kv => decide (kv.1 ≠ k)
theorem valV_pos {p : κ × V} {r : List (κ × V)} {k : κ} (e : p.1 = k) : valV (p :: r) k = some p.2 := by simp [valV, List.find?_cons, e]
theorem valV_neg {p : κ × V} {r : List (κ × V)} {k : κ} (e : ¬ p.1 = k) : valV (p :: r) k = valV r k := by simp [valV, List.find?_cons, e]
theorem valV_any (k : κ) : ∀ kvs : List (κ × V), (kvs.any fun kv => decide (kv.1 = k)) = (valV kvs k).isSome
 | [] => rfl
 | p :: r => by
   rw [List.any_cons]
   by_cases e : p.1 = k
   · simp only [valV_pos e, decide_eq_true e, Bool.true_or, Option.isSome_some]
   · rw [valV_neg e, decide_eq_false e, Bool.false_or]; exact valV_any k r
theorem length_putK (kvs : List (κ × V)) (k : κ) (v : V) : (putK kvs k v).length ≤ kvs.length + 1 := by
 unfold putK
 split
 · rw [List.length_map]; omega
 · rw [List.length_append, List.length_cons, List.length_nil]; omega
theorem putK_new {kvs : List (κ × V)} {k : κ} (v : V) (h : valV kvs k = none) : putK kvs k v = kvs ++ [(k, v)] := by
 unfold putK
 rw [valV_any, h]
 exact if_neg (by decide)
theorem RelO.isSome_eq {o : Option V} {u : Option Value} (r : RelO o u) : o.isSome = u.isSome := by
 cases o with
 | none => cases u with
   | none => rfl
   | some _ => exact (show False from r).elim
 | some _ => cases u with
   | none => exact (show False from r).elim
   | some _ => rfl
theorem RelO.getD {o : Option V} {u : Option Value} {d : V} {d' : Value} (r : RelO o u) (rd : RelV d d') : RelV (o.getD d) (u.getD d') := by
 cases o with
 | none => cases u with
   | none => exact rd
   | some _ => exact (show False from r).elim
 | some _ => cases u with
   | none => exact (show False from r).elim
   | some _ => exact r
theorem KV.val {kvs : List (κ × V)} {vs : List (κ × Value)} (r : KV kvs vs) (k : κ) : RelO (valV kvs k) (valueAt vs k) := by
 unfold KV at r
 induction r with
 | nil => exact True.intro
 | @cons p q ps qs h t ih =>
   obtain ⟨h1, h2⟩ := h
   by_cases e : p.1 = k
   · have e' : q.1 = k := h1.symm.trans e
     have b : valueAt (q :: qs) k = some q.2 := by simp [valueAt, List.find?_cons, e']
     rw [valV_pos e, b]; exact h2
   · have e' : ¬ q.1 = k := fun z => e (h1.trans z)
     have b : valueAt (q :: qs) k = valueAt qs k := by simp [valueAt, List.find?_cons, e']
     rw [valV_neg e, b]; exact ih
theorem KV.any {kvs : List (κ × V)} {vs : List (κ × Value)} (r : KV kvs vs) (k : κ) : (kvs.any fun kv => decide (kv.1 = k)) = vs.any fun kv => decide (kv.1 = k) := by
 unfold KV at r
 induction r with
 | nil => rfl
 | cons h t ih => rw [List.any_cons, List.any_cons, ih, h.1]
theorem KV.repl {kvs : List (κ × V)} {vs : List (κ × Value)} (r : KV kvs vs) (k : κ) {y : V} {u : Value} (ry : RelV y u) :
   KV (kvs.map fun kv => if kv.1 = k then (kv.1, y) else kv) (vs.map fun kv => if kv.1 = k then (kv.1, u) else kv) := by
 unfold KV at r ⊢
 induction r with
 | nil => exact .nil
 | @cons p q ps qs h t ih =>
   rw [List.map_cons, List.map_cons]
   refine .cons ?_ ih
   obtain ⟨h1, h2⟩ := h
   by_cases e : p.1 = k
   · rw [if_pos e, if_pos (h1.symm.trans e)]; exact ⟨h1, ry⟩
   · rw [if_neg e, if_neg (fun z => e (h1.trans z))]; exact ⟨h1, h2⟩
theorem KV.put {kvs : List (κ × V)} {vs : List (κ × Value)} (r : KV kvs vs) (k : κ) {y : V} {u : Value} (ry : RelV y u) : KV (putK kvs k y) (stored vs k u) := by
 unfold putK stored
 rw [r.any k]
 by_cases e : (vs.any fun kv => decide (kv.1 = k)) = true
 · rw [if_pos e, if_pos e]; exact r.repl k ry
 · rw [if_neg e, if_neg e]; exact Paired.snoc r ⟨rfl, ry⟩
theorem KV.drop {kvs : List (κ × V)} {vs : List (κ × Value)} (r : KV kvs vs) (k : κ) : KV (dropK kvs k) (without vs k) := by
 unfold KV at r ⊢
 unfold dropK without
 induction r with
 | nil => exact .nil
 | @cons p q ps qs h t ih =>
   obtain ⟨h1, h2⟩ := h
   rw [List.filter_cons, List.filter_cons]
   by_cases e : p.1 = k
   · have a : ¬ decide (p.1 ≠ k) = true := by simp [e]
     have b : ¬ decide (q.1 ≠ k) = true := by simp [h1.symm.trans e]
     rw [if_neg a, if_neg b]; exact ih
   · have e' : ¬ q.1 = k := fun z => e (h1.trans z)
     have a : decide (p.1 ≠ k) = true := by simp [e]
     have b : decide (q.1 ≠ k) = true := by simp [e']
     rw [if_pos a, if_pos b]; exact .cons ⟨h1, h2⟩ ih
theorem KV.length {kvs : List (κ × V)} {vs : List (κ × Value)} (r : KV kvs vs) : kvs.length = vs.length := Paired.length r
theorem dropK_le (kvs : List (κ × V)) (k : κ) : (dropK kvs k).length ≤ kvs.length := List.length_filter_le _ _
end
theorem kV_is {P : Program} {w : World} {k : Key} {u : Value} (r : RelV (kV k) u) : (mixKind P w).is k u = true := by
 cases k with
 | inl i => obtain ⟨t, e⟩ := (show ∃ t, u = Value.int i t from r); subst e; exact mixKind_int P w i t
 | inr x => obtain ⟨t, e⟩ := (show ∃ t, u = Value.str x t from r); subst e; exact mixKind_str P w x t
theorem items_are {P : Program} {w : World} : ∀ {ks : List Key} {us : List Value}, Vals (ks.map kV) us → ItemsAre (mixKind P w) ks us
 | [], _, r => by rw [List.map_nil] at r; cases r; exact .nil
 | k :: ks, _, r => by
   rw [List.map_cons] at r
   cases r with
   | cons h t => exact .cons (kV_is h) (items_are t)
abbrev KT (H : Hp) : List (List Key × V) → List (List Key × Addr × Value) → Prop := Paired fun p q => p.1 = q.1 ∧ H q.2.1 = some (.tup (p.1.map kV)) ∧ RelV p.2 q.2.2
theorem KT.val {H : Hp} {kvs : List (List Key × V)} {xs : List (List Key × Addr × Value)} (r : KT H kvs xs) (k : List Key) : RelO (valV kvs k) ((atKey xs k).map (·.2)) := by
 induction r with
 | nil => exact True.intro
 | @cons p q ps qs h t ih =>
   obtain ⟨h1, _, h2⟩ := h
   by_cases e : p.1 = k
   · have e' : q.1 = k := h1.symm.trans e
     have b : atKey (q :: qs) k = some q.2 := by simp [atKey, List.find?_cons, e']
     rw [valV_pos e, b]; exact h2
   · have e' : ¬ q.1 = k := fun z => e (h1.trans z)
     have b : atKey (q :: qs) k = atKey qs k := by simp [atKey, List.find?_cons, e']
     rw [valV_neg e, b]; exact ih
theorem KT.repl {H : Hp} {kvs : List (List Key × V)} {xs : List (List Key × Addr × Value)} (r : KT H kvs xs) (k : List Key) {y : V} {u : Value} (ry : RelV y u) :
   KT H (kvs.map fun kv => if kv.1 = k then (kv.1, y) else kv) (xs.map (putAt k u)) := by
 induction r with
 | nil => exact .nil
 | @cons p q ps qs h t ih =>
   rw [List.map_cons, List.map_cons]
   refine .cons ?_ ih
   obtain ⟨h1, h2, h3⟩ := h
   unfold putAt
   by_cases e : p.1 = k
   · rw [if_pos e, if_pos (h1.symm.trans e)]; exact ⟨h1, h2, ry⟩
   · rw [if_neg e, if_neg (fun z => e (h1.trans z))]; exact ⟨h1, h2, h3⟩
theorem KT.put {H : Hp} {kvs : List (List Key × V)} {xs : List (List Key × Addr × Value)} (r : KT H kvs xs) (k : List Key) {b : Addr} {y : V} {u : Value} (hb : H b = some (.tup (k.map kV))) (ry : RelV y u) :
   KT H (putK kvs k y) (storedH xs k b u) := by
 have e : (kvs.any fun kv => decide (kv.1 = k)) = (atKey xs k).isSome := by
   rw [valV_any, (r.val k).isSome_eq, Option.isSome_map]
 unfold putK storedH
 rw [e]
 by_cases q : (atKey xs k).isSome = true
 · rw [if_pos q, if_pos q]; exact r.repl k ry
 · rw [if_neg q, if_neg q]; exact Paired.snoc r ⟨rfl, hb, ry⟩
theorem KT.keeps {H H' : Hp} {kvs : List (List Key × V)} {xs : List (List Key × Addr × Value)} (r : KT H kvs xs) (ht : ∀ b ys, H b = some (.tup ys) → H' b = some (.tup ys)) : KT H' kvs xs :=
 Paired.mapP r fun _ _ z => ⟨z.1, ht _ _ z.2.1, z.2.2⟩
section
variable {P : Program} {w : World} {H : Hp} {h : Heap} {a : Addr}
theorem rd_of {u : HO} (ok : HOk P w H h) (e : Rd H a u) : ObjOk P w H h a u := e.ok ok
theorem dk_rd {kvs : List (Key × V)} (ok : HOk P w H h) (e : Rd H a (.dK kvs)) : kvs.length ≤ sizeLine ∧ (a == sysModules) = false ∧ ∃ vs, KV kvs vs ∧ h.DictOf (mixKind P w) a vs :=
 show ObjOk P w H h a (.dK kvs) from rd_of ok e
theorem dk_of {kvs : List (Key × V)} (ok : HOk P w H h) (e : H a = some (.dK kvs)) : kvs.length ≤ sizeLine ∧ (a == sysModules) = false ∧ ∃ vs, KV kvs vs ∧ h.DictOf (mixKind P w) a vs := dk_rd ok (.inl e)
theorem key_of {ks : List Key} (ok : HOk P w H h) (e : H a = some (.tup (ks.map kV))) : (tupleKind (mixKind P w)).is h ks a := by
 obtain ⟨_, its, r, o, h1, h2, n, h3⟩ := (show ObjOk P w H h a (.tup (ks.map kV)) from ok a _ e)
 exact ⟨o, its.toArray, n, h1, h2, h3, by simpa using items_are r⟩
theorem dt_rd {kvs : List (List Key × V)} (ok : HOk P w H h) (e : Rd H a (.dT kvs)) : kvs.length ≤ sizeLine ∧ (a == sysModules) = false ∧
   ∃ xs, KT H kvs xs ∧ h.DictOfH (tupleKind (mixKind P w)) a xs := by
 obtain ⟨z, y, xs, r, o, es, ep, h1, h2, h3, h4, h5⟩ := (show ObjOk P w H h a (.dT kvs) from rd_of ok e)
 refine ⟨z, y, xs, r, o, es, ep, h1, h2, h3, h4, fun x hx => ?_, h5⟩
 have all : ∀ {l : List (List Key × V)} {m : List (List Key × Addr × Value)}, KT H l m → ∀ x ∈ m, (tupleKind (mixKind P w)).is h x.1 x.2.1 := by
   intro l m q
   induction q with
   | nil => intro x hx; exact nomatch hx
   | @cons p q ps qs hq t ih =>
     intro x hx
     rcases List.mem_cons.mp hx with e | hx
     · subst e
       exact key_of ok (by rw [← hq.1]; exact hq.2.1)
     · exact ih x hx
 exact all r x hx
theorem dt_of {kvs : List (List Key × V)} (ok : HOk P w H h) (e : H a = some (.dT kvs)) : kvs.length ≤ sizeLine ∧ (a == sysModules) = false ∧
   ∃ xs, KT H kvs xs ∧ h.DictOfH (tupleKind (mixKind P w)) a xs := dt_rd ok (.inl e)
end
def DGet (H : Hp) (a : Addr) (y : V) (r : Option V) : Prop :=
 (∃ kvs k, Rd H a (.dK kvs) ∧ y = kV k ∧ r = valV kvs k) ∨ ∃ kvs k b, Rd H a (.dT kvs) ∧ y = .ref b ∧ H b = some (.tup (k.map kV)) ∧ r = valV kvs k
def DPut (H : Hp) (a : Addr) (y v : V) (H' : Hp) : Prop :=
 (∃ kvs k, H a = some (.dK kvs) ∧ y = kV k ∧ kvs.length < sizeLine ∧ H' = upd H a (.dK (putK kvs k v))) ∨
 ∃ kvs k b, H a = some (.dT kvs) ∧ y = .ref b ∧ H b = some (.tup (k.map kV)) ∧ kvs.length < sizeLine ∧ H' = upd H a (.dT (putK kvs k v))
theorem DGet.k {H : Hp} {a : Addr} {kvs : List (Key × V)} {k : Key} (e : H a = some (.dK kvs)) : DGet H a (kV k) (valV kvs k) := .inl ⟨kvs, k, .inl e, rfl, rfl⟩
theorem DPut.k {H : Hp} {a : Addr} {kvs : List (Key × V)} {k : Key} {v : V} (e : H a = some (.dK kvs)) (hl : kvs.length < sizeLine) : DPut H a (kV k) v (upd H a (.dK (putK kvs k v))) := .inl ⟨kvs, k, e, rfl, hl, rfl⟩
section
variable {X : Cx} {pins : List (Addr × Obj)} {σ : St} {H : Hp} {s : Shared} {a : Addr} {y v : V} {u r : Value} {o : Option V} {A : Around} {E : Value → Shared → Prop}
theorem Inv.big (I : Inv X pins σ H s) : sysModules < s.heap.objs.size := by
 have h : mainGlobals < s.heap.objs.size := (I.mod.glob.keeps I.bk).lt
 exact Nat.lt_trans (by decide) h
theorem d_getItem {Q : Value → Shared → Prop} (hu : A.units + 1 < cLine) (I : Inv X pins σ H s) (g : DGet H a y (some v)) (ry : RelV y u) (h : ∀ w' s', Inv X pins σ H s' → RelV v w' → Q w' s') :
   wpAny (model X.prog X.w) A (getItem (.ref a) u) Q E s := by
 rcases g with ⟨kvs, k, e, ey, l⟩ | ⟨kvs, k, b, e, ey, eb, l⟩
 · subst ey
   obtain ⟨z, hd, vs, rel, dd⟩ := dk_rd I.hok e
   obtain ⟨w', hw, rw'⟩ := RelO.some_of (v := v) (o := valueAt vs k) (by rw [l]; exact rel.val k)
   exact wpAny_getItem_of (kV_is ry) dd.mapOf hw (h w' _ (I.tok _) rw')
 · subst ey
   cases (show u = Value.ref b from ry)
   obtain ⟨z, hd, xs, rel, dd⟩ := dt_rd I.hok e
   obtain ⟨w', hw, rw'⟩ := RelO.some_of (v := v) (o := (atKey xs k).map (·.2)) (by rw [l]; exact rel.val k)
   obtain ⟨p, hp, hp2⟩ := Option.map_eq_some_iff.mp hw
   refine wpAny_getItem_heap (tupleKind_room_in1 hu) (key_of I.hok eb) dd hp ?_
   rw [hp2]
   exact h w' _ (I.tok _) rw'
theorem d_in {Q : Value → Shared → Prop} (hu : A.units + 1 < cLine) (I : Inv X pins σ H s) (g : DGet H a y o) (ry : RelV y u) (h : ∀ s', Inv X pins σ H s' → Q (.bool o.isSome) s') :
   wpAny (model X.prog X.w) A (compareOp .In u (.ref a)) Q E s := by
 rcases g with ⟨kvs, k, e, ey, l⟩ | ⟨kvs, k, b, e, ey, eb, l⟩
 · subst ey
   obtain ⟨z, hd, vs, rel, dd⟩ := dk_rd I.hok e
   refine wpAny_in_of (kV_is ry) hd dd.mapOf ?_
   rw [← (rel.val k).isSome_eq, ← l]
   exact h _ (I.tok _)
 · subst ey
   cases (show u = Value.ref b from ry)
   obtain ⟨z, hd, xs, rel, dd⟩ := dt_rd I.hok e
   refine wpAny_in_heap (tupleKind_room_in1 hu) (key_of I.hok eb) hd dd ?_
   have q := (rel.val k).isSome_eq
   rw [Option.isSome_map] at q
   rw [← q, ← l]
   exact h _ (I.tok _)
theorem d_notIn {Q : Value → Shared → Prop} (hu : A.units + 1 < cLine) (I : Inv X pins σ H s) (g : DGet H a y o) (ry : RelV y u) (h : ∀ s', Inv X pins σ H s' → Q (.bool (!o.isSome)) s') :
   wpAny (model X.prog X.w) A (compareOp .NotIn u (.ref a)) Q E s := by
 rcases g with ⟨kvs, k, e, ey, l⟩ | ⟨kvs, k, b, e, ey, eb, l⟩
 · subst ey
   obtain ⟨z, hd, vs, rel, dd⟩ := dk_rd I.hok e
   refine wpAny_notIn_of (kV_is ry) hd dd.mapOf ?_
   rw [← (rel.val k).isSome_eq, ← l]
   exact h _ (I.tok _)
 · subst ey
   cases (show u = Value.ref b from ry)
   obtain ⟨z, hd, xs, rel, dd⟩ := dt_rd I.hok e
   refine wpAny_notIn_heap (tupleKind_room_in1 hu) (key_of I.hok eb) hd dd ?_
   have q := (rel.val k).isSome_eq
   rw [Option.isSome_map] at q
   rw [← q, ← l]
   exact h _ (I.tok _)
theorem d_write {h' : Heap} {t' : Nat} {ob : HO} (I : Inv X pins σ H s) (mu : Mut (H a)) (hs : Heap.SameBut a s.heap h') (he : ∃ q, h'.get? a = some q) (new : ObjOk X.prog X.w (upd H a ob) h' a ob) :
   Inv X pins σ (upd H a ob) { s with heap := h', toks := t' } :=
 I.write (x := a) (e := a) mu (.inl rfl) (fun b q hb z => (hs.2 b hb).trans z) he new
theorem dk_new {P : Program} {w : World} {H' : Hp} {h' : Heap} {kvs : List (Key × V)} {vs : List (Key × Value)} (z : kvs.length ≤ sizeLine) (hd : (a == sysModules) = false) (rel : KV kvs vs) (dd : h'.DictOf (mixKind P w) a vs) :
   ObjOk P w H' h' a (.dK kvs) := ⟨z, hd, vs, rel, dd⟩
theorem d_setItem {H' : Hp} {Q : Unit → Shared → Prop} (hu : A.units + 1 < cLine) (I : Inv X pins σ H s) (g : DPut H a y v H') (ry : RelV y u) (rv : RelV v r) (h : ∀ s', Inv X pins σ H' s' → Q () s') :
   wpAny (model X.prog X.w) A (setItem (.ref a) u r) Q E s := by
 rcases g with ⟨kvs, k, e, ey, l, eH⟩ | ⟨kvs, k, b, e, ey, eb, l, eH⟩
 · subst ey eH
   obtain ⟨z, hd, vs, rel, dd⟩ := dk_of I.hok e
   have hz : vs.length ≤ sizeLine := by rw [← rel.length]; exact z
   have hl : (putK kvs k v).length ≤ sizeLine := by have := length_putK kvs k v; omega
   refine wpAny_setItem_pairs (hsz := hz) (kV_is ry) dd fun h' dd' hs => h _ ?_
   have he : ∃ q, h'.get? a = some q := let ⟨q, _, _, hq, _⟩ := dd'; ⟨q, hq⟩
   exact d_write I (by rw [e]; exact True.intro) hs he (dk_new hl hd (rel.put k rv) dd')
 · subst ey eH
   cases (show u = Value.ref b from ry)
   obtain ⟨z, hd, xs, rel, dd⟩ := dt_of I.hok e
   have hz : xs.length ≤ sizeLine := by rw [← Paired.length rel]; exact z
   have hl : (putK kvs k v).length ≤ sizeLine := by have := length_putK kvs k v; omega
   refine wpAny_setItem_heap (hsz := hz) (tupleKind_room_in1 hu) (key_of I.hok eb) dd fun h' dd' hs => h _ ?_
   obtain ⟨q, es, ep, hq, h2, h3, h4, _, h5⟩ := dd'
   refine d_write I (by rw [e]; exact True.intro) hs ⟨q, hq⟩ ⟨hl, hd, _, (rel.put k eb rv).keeps fun c ys ec => ?_, q, es, ep, hq, h2, h3, h4, h5⟩
   rw [upd_ne (ne_of ec e (fun z => nomatch z))]
   exact ec
end
section
variable {X : Cx} {pins : List (Addr × Obj)} {σ : St} {H : Hp} {s : Shared} {a : Addr} {kvs : List (Key × V)} {k : Key} {u : Value} {A : Around} {E : Value → Shared → Prop}
theorem d_pop {v : V} {more : List Value} {Q : Value → Shared → Prop} (I : Inv X pins σ H s) (e : H a = some (.dK kvs)) (ry : RelV (kV k) u) (l : valV kvs k = some v) (hm : more = [] ∨ ∃ x, more = [x])
   (h : ∀ w' s', Inv X pins σ (upd H a (.dK (dropK kvs k))) s' → RelV v w' → Q w' s') : wpAny (model X.prog X.w) A (call (.builtin "dict.pop") (.ref a :: u :: more)) Q E s := by
 obtain ⟨z, hd, vs, rel, dd⟩ := dk_of I.hok e
 obtain ⟨w', hw, rw'⟩ := RelO.some_of (v := v) (o := valueAt vs k) (by rw [← l]; exact rel.val k)
 have hp : (keyPart u).isSome = true := by
   cases k with
   | inl i => obtain ⟨t, q⟩ := (show ∃ t, u = Value.int i t from ry); subst q; rfl
   | inr x => obtain ⟨t, q⟩ := (show ∃ t, u = Value.str x t from ry); subst q; rfl
 have ha : argsOk "dict.pop" ⟨.ref a :: u :: more, []⟩ := by
   rcases hm with q | ⟨x, q⟩
   · subst q; exact PySem.F.args_dict_pop_2 _ _
   · subst q; exact PySem.F.args_dict_pop_3 _ _ _
 refine call_meetsIn PySem.F.slot_dict_pop dd.typeIs PySem.F.entry_dict_pop ha (meets_dict_pop_there (mixKind X.prog X.w) a (kV_is ry) more hm hp)
   ⟨vs, w', dd, by rw [← rel.length]; exact z, hw, fun h' dd' hs => h w' _ ?_ rw'⟩
 have he : ∃ q, h'.get? a = some q := let ⟨q, _, _, hq, _⟩ := dd'; ⟨q, hq⟩
 exact d_write I (by rw [e]; exact True.intro) hs he (dk_new (Nat.le_trans (dropK_le kvs k) z) hd (rel.drop k) dd')
end
def NoSl (i : Expr) : Prop := ∀ ov iv, subscripted i false ov iv = operate [ov, iv] (getItem ov iv)
theorem subD_of {prog : Program} {w : World} {A : Around} {E : Value → Shared → Prop} {s : Shared} {env : Env} {value slice : Expr} {pos : Pos} {T id : String} {Q : Value → Shared → Prop}
   (hl : typeLookup (.type T) "__getitem__" = pure (some (.builtin id))) (hs : NoSl slice)
   (h : wpAny (model prog w) A (eval value env) (fun o s₁ => wpAny (model prog w) A (eval slice env) (fun i s₂ => s₂.TypeIs o T ∧ wpAny (model prog w) A (getItem o i) Q E s₂) E s₁) E s) :
   wpAny (model prog w) A (eval (.Subscript value slice pos) env) Q E s := by
 refine Subscript_ (wpAny_mono h (fun o s₁ h₁ => wpAny_mono h₁ (fun i s₂ h₂ => ?_) fun _ _ x => x) fun _ _ x => x)
 obtain ⟨hT, h₂⟩ := h₂
 unfold subscriptTail
 refine wpAny_bind ?_
 rw [getitemInPython_of_ne hT.not_modules]
 refine wpAny_bind (wpAny_specialOf hT hl ?_)
 have fin : wpAny (model prog w) A (subscripted slice false o i) (fun r s₃ => wpAny (model prog w) A (letTemporaryGo value o r >>= fun _ => pure r) Q E s₃) E s₂ := by
   rw [hs o i]
   exact wpAny_operating (wpAny_mono h₂ (fun r s₃ h₃ => wpAny_bind (wpAny_letTemporaryGo (wpAny_pure h₃))) fun _ _ x => x)
 first
   | exact wpAny_pure (wpAny_bind fin)
   | exact wpAny_bind (wpAny_pure (wpAny_bind fin))
   | exact wpAny_bind fin
theorem dict_typeIs {X : Cx} {pins : List (Addr × Obj)} {σ : St} {H : Hp} {s : Shared} {a : Addr} {y : V} {o : Option V} (I : Inv X pins σ H s) (g : DGet H a y o) : s.TypeIs (.ref a) "dict" := by
 rcases g with ⟨kvs, k, e, _, _⟩ | ⟨kvs, k, b, e, _, _, _⟩
 · obtain ⟨_, _, vs, _, dd⟩ := dk_rd I.hok e
   exact dd.typeIs
 · obtain ⟨_, _, xs, _, dd⟩ := dt_rd I.hok e
   exact dd.typeIs
def tDGet (td ty : TE) : TE := fun σ H Q => td σ H fun x H1 => ty σ H1 fun y H2 => ∃ a v, x = .ref a ∧ DGet H2 a y (some v) ∧ Q v H2
def tDIn (ty td : TE) : TE := fun σ H Q => ty σ H fun y H1 => td σ H1 fun x H2 => ∃ a o, x = .ref a ∧ DGet H2 a y o ∧ Q (.bl o.isSome) H2
def tDNotIn (ty td : TE) : TE := fun σ H Q => ty σ H fun y H1 => td σ H1 fun x H2 => ∃ a o, x = .ref a ∧ DGet H2 a y o ∧ Q (.bl (!o.isSome)) H2
def sDPut (td ty tv : TE) : TS := fun D σ H => tv σ H fun v H1 => td σ H1 fun x H2 => ty σ H2 fun y H3 => ∃ a H4, x = .ref a ∧ DPut H3 a y v H4 ∧ D.nx σ H4
section
variable {X : Cx} {o i e value : Expr} {pos pos' tpos : Pos} {td ty tv : TE}
theorem pe_dget (hu : X.A.units + 1 < cLine) (ho : PE X o td) (hi : PE X i ty) (hs : NoSl i) : PE X (.Subscript o i pos) (tDGet td ty) := by
 intro pins s σ H Q I h
 refine subD_of PySem.F.slot_dict_getitem.lookup hs (thn (ho pins s σ H _ I h) fun u s1 ⟨x, H1, I1, rx, q1⟩ => thn (hi pins s1 σ H1 _ I1 q1) fun iv s2 ⟨y, H2, I2, ry, a, v, ex, g, q2⟩ => ?_)
 subst ex
 obtain rfl : u = Value.ref a := rx
 exact ⟨dict_typeIs I2 g, d_getItem hu I2 g ry fun w' s3 I3 rw' => ⟨v, H2, I3, rw', q2⟩⟩
theorem pc_din (hu : X.A.units + 1 < cLine) (hi : PE X i ty) (ho : PE X o td) : PC X .In i o (tDIn ty td) := by
 intro pins s σ H Q I h
 refine thn (hi pins s σ H _ I h) fun iv s1 ⟨y, H1, I1, ry, q1⟩ => thn (ho pins s1 σ H1 _ I1 q1) fun u s2 ⟨x, H2, I2, rx, a, ov, ex, g, q2⟩ => ?_
 subst ex
 obtain rfl : u = Value.ref a := rx
 exact d_in hu I2 g ry fun s3 I3 => ⟨.bl ov.isSome, H2, I3, rfl, q2⟩
theorem pc_dnotin (hu : X.A.units + 1 < cLine) (hi : PE X i ty) (ho : PE X o td) : PC X .NotIn i o (tDNotIn ty td) := by
 intro pins s σ H Q I h
 refine thn (hi pins s σ H _ I h) fun iv s1 ⟨y, H1, I1, ry, q1⟩ => thn (ho pins s1 σ H1 _ I1 q1) fun u s2 ⟨x, H2, I2, rx, a, ov, ex, g, q2⟩ => ?_
 subst ex
 obtain rfl : u = Value.ref a := rx
 exact d_notIn hu I2 g ry fun s3 I3 => ⟨.bl (!ov.isSome), H2, I3, rfl, q2⟩
theorem ps_dput (hu : X.A.units + 1 < cLine) (ho : PE X o td) (hi : PE X i ty) (hv : PE X value tv) (hs : swapsWith value (some (.Subscript o i pos')) pos.line X.env = pure false) :
   PS X (.Assign [.Subscript o i pos'] value pos) (sDPut td ty tv) := by
 intro pins s σ H D I h
 refine wpAny_Assign_Subscript (thn (hv pins s σ H _ I h) fun r s1 ⟨v, H1, I1, rv, q1⟩ => thn (ho pins s1 σ H1 _ I1 q1) fun u s2 ⟨x, H2, I2, rx, q2⟩ => thn (hi pins s2 σ H2 _ I2 q2) fun iv s3 ⟨y, H3, I3, ry, a, H4, ex, g, q3⟩ => ?_) hs
 subst ex
 obtain rfl : u = Value.ref a := rx
 exact d_setItem hu I3 g ry rv fun s4 I4 => ⟨σ, H4, I4, q3⟩
end
theorem dk_empty {P : Program} {w : World} {H : Hp} (h : Heap) (hb : sysModules < h.objs.size) : ObjOk P w H (h.push { cls := .type "dict", data := .dict #[] }) h.objs.size (.dK []) :=
 ⟨Nat.zero_le _, beq_eq_false_iff_ne.mpr (Ne.symm (Nat.ne_of_lt hb)), [], .nil, Heap.DictOf.new h⟩
def tDNewK : TE := fun _ H Q => ∀ p, H p = none → Q (.ref p) (upd H p (.dK []))
section
variable {X : Cx} {pos : Pos}
theorem pe_dnewK : PE X (.Dict [] [] pos) tDNewK := fun pins s σ H Q I h =>
 wpAny_Dict_empty ⟨.ref s.heap.objs.size, _, I.laid (a := s.heap.objs.size) (o := .dK []) (t' := s.toks) (fun _ _ q => Heap.get?_push_of_some _ q) (Nat.le_refl _) (dk_empty s.heap I.big), rfl, h _ (I.hok.fresh (Nat.le_refl _))⟩
end
structure M1 (X : Cx) (o : Expr) (m : Str) (apos : Pos) (e : Expr) (cpos : Pos) : Prop where
 base : attributeBase o m X.env (eval o X.env) = eval o X.env
 few : ((backTo cpos (starEach [e] X.env)).all (fun x => !x.1) && (backToKw cpos (keywordEach [] X.env)).all (fun x => x.1.isSome)
   && decide (([e] : List Expr).length + ([] : List Keyword).length + (if ([] : List Keyword).isEmpty then 0 else 1) < 30)) = true
 line : (apos.endLine == cpos.line) = true
 trees : backTo cpos (starEach [e] X.env) = [(false, eval e X.env)]
structure M2 (X : Cx) (o : Expr) (m : Str) (apos : Pos) (e f : Expr) (cpos : Pos) : Prop where
 base : attributeBase o m X.env (eval o X.env) = eval o X.env
 few : ((backTo cpos (starEach [e, f] X.env)).all (fun x => !x.1) && (backToKw cpos (keywordEach [] X.env)).all (fun x => x.1.isSome)
   && decide (([e, f] : List Expr).length + ([] : List Keyword).length + (if ([] : List Keyword).isEmpty then 0 else 1) < 30)) = true
 line : (apos.endLine == cpos.line) = true
 trees : backTo cpos (starEach [e, f] X.env) = [(false, eval e X.env), (false, eval f X.env)]
def IsD (H : Hp) (a : Addr) : Prop := (∃ kvs, Rd H a (.dK kvs)) ∨ ∃ kvs, Rd H a (.dT kvs)
theorem isD_at {X : Cx} {pins : List (Addr × Obj)} {σ : St} {H : Hp} {s : Shared} {a : Addr} (I : Inv X pins σ H s) (d : IsD H a) :
   s.TypeIs (.ref a) "dict" ∧ (∀ b, Value.ref a = .ref b → ∃ ob, s.heap.get? b = some ob ∧ ob.dict = none) ∧ (a == sysModules) = false := by
 rcases d with ⟨kvs, e⟩ | ⟨kvs, e⟩
 · obtain ⟨_, hd, vs, _, dd⟩ := dk_rd I.hok e
   refine ⟨dd.typeIs, fun b q => ?_, hd⟩
   cases q
   obtain ⟨ob, _, _, h1, h2, _⟩ := dd
   exact ⟨ob, h1, h2.2.1⟩
 · obtain ⟨_, hd, xs, _, dd⟩ := dt_rd I.hok e
   refine ⟨dd.typeIs, fun b q => ?_, hd⟩
   cases q
   obtain ⟨ob, _, _, h1, h2, _⟩ := dd
   exact ⟨ob, h1, h2.2.1⟩
section
variable {X : Cx} {pins : List (Addr × Obj)} {σ : St} {H : Hp} {s : Shared} {a : Addr} {y d : V} {u r : Value} {o : Option V} {A : Around} {E : Value → Shared → Prop}
theorem d_get2 {Q : Value → Shared → Prop} (hu : A.units + 1 < cLine) (I : Inv X pins σ H s) (g : DGet H a y o) (ry : RelV y u) (rd : RelV d r) (h : ∀ w' s', Inv X pins σ H s' → RelV (o.getD d) w' → Q w' s') :
   wpAny (model X.prog X.w) A (call (.builtin "dict.get") [.ref a, u, r]) Q E s := by
 rcases g with ⟨kvs, k, e, ey, l⟩ | ⟨kvs, k, b, e, ey, eb, l⟩
 · subst ey
   obtain ⟨z, hd, vs, rel, dd⟩ := dk_rd I.hok e
   refine call_meetsIn PySem.F.slot_dict_get dd.typeIs PySem.F.entry_dict_get (PySem.F.args_dict_get_3 _ _ _) (meets_dict_get_default (mixKind X.prog X.w) a (kV_is ry) hd r) ⟨_, dd.mapOf, h _ _ (I.tok _) ?_⟩
   rw [l]
   exact (rel.val k).getD rd
 · subst ey
   cases (show u = Value.ref b from ry)
   obtain ⟨z, hd, xs, rel, dd⟩ := dt_rd I.hok e
   refine call_meetsIn PySem.F.slot_dict_get dd.typeIs PySem.F.entry_dict_get (PySem.F.args_dict_get_3 _ _ _) (meetsH_dict_get_default (tupleKind (mixKind X.prog X.w)) a b hd r) ⟨tupleKind_room_in1 hu, k, xs, key_of I.hok eb, dd, h _ _ (I.tok _) ?_⟩
   rw [l]
   exact (rel.val k).getD rd
end
def tDGet2 (td ty tx : TE) : TE := fun σ H Q => td σ H fun x H1 => ∃ a, x = .ref a ∧ IsD H1 a ∧ ty σ H1 fun y H2 => tx σ H2 fun z H3 => ∃ o, DGet H3 a y o ∧ Q (o.getD z) H3
def tDPop1 (td ty : TE) : TE := fun σ H Q => td σ H fun x H1 => ∃ a, x = .ref a ∧ IsD H1 a ∧ ty σ H1 fun y H2 => ∃ kvs k v, H2 a = some (.dK kvs) ∧ y = kV k ∧ valV kvs k = some v ∧ Q v (upd H2 a (.dK (dropK kvs k)))
section
variable {X : Cx} {o e f : Expr} {apos cpos : Pos} {td ty tx : TE}
theorem pe_dget2 (hu : X.A.units + 1 < cLine) (ho : PE X o td) (he : PE X e ty) (hf : PE X f tx) (m : M2 X o "get" apos e f cpos) : PE X (.Call (.Attribute o "get" apos) [e, f] [] cpos) (tDGet2 td ty tx) := by
 intro pins s σ H Q I h
 refine wpAny_Call_method m.base m.few m.line PySem.F.plainAttrs_dict PySem.F.slot_dict_get PySem.F.type_dict_get (thn (ho pins s σ H _ I h) fun u s1 ⟨x, H1, I1, rx, a, ex, d, q1⟩ => ?_)
 subst ex
 obtain rfl : u = Value.ref a := rx
 obtain ⟨t1, t2, _⟩ := isD_at I1 d
 refine ⟨t1, t2, ?_⟩
 rw [m.trees]
 refine Calls.callWith_builtin rfl (Calls.evalArgs_plain (Calls.spliced_cons (thn (he pins s1 σ H1 _ I1 q1) fun iv s2 ⟨y, H2, I2, ry, q2⟩ =>
   Calls.spliced_cons (thn (hf pins s2 σ H2 _ I2 q2) fun fv s3 ⟨z, H3, I3, rz, ov, g, q3⟩ => Calls.spliced_nil ?_))))
 exact d_get2 hu I3 g ry rz fun w' s4 I4 rw' => ⟨_, H3, I4, rw', q3⟩
theorem pe_dpop1 (ho : PE X o td) (he : PE X e ty) (m : M1 X o "pop" apos e cpos) : PE X (.Call (.Attribute o "pop" apos) [e] [] cpos) (tDPop1 td ty) := by
 intro pins s σ H Q I h
 refine wpAny_Call_method m.base m.few m.line PySem.F.plainAttrs_dict PySem.F.slot_dict_pop PySem.F.type_dict_pop (thn (ho pins s σ H _ I h) fun u s1 ⟨x, H1, I1, rx, a, ex, d, q1⟩ => ?_)
 subst ex
 obtain rfl : u = Value.ref a := rx
 obtain ⟨t1, t2, _⟩ := isD_at I1 d
 refine ⟨t1, t2, ?_⟩
 rw [m.trees]
 refine Calls.callWith_builtin rfl (Calls.evalArgs_plain (Calls.spliced_cons (thn (he pins s1 σ H1 _ I1 q1) fun iv s2 ⟨y, H2, I2, ry, kvs, k, v, ea, ey, l, q2⟩ => Calls.spliced_nil ?_)))
 subst ey
 exact d_pop I2 ea ry l (.inl rfl) fun w' s3 I3 rw' => ⟨v, _, I3, rw', q2⟩
end
end L2
namespace Att
open PySem PySem.W PySem.Calls PyProof.Rows
theorem ints_of_wellAll {P : Params} {h : Heap} : ∀ (ns : List Int) (vs : List Value), WellAll P h vs (ns.map WData.int) → IntsAre vs ns := by
 intro ns
 induction ns with
 | nil =>
   intro vs w
   rw [List.map_nil] at w
   cases w
   exact .nil
 | cons n ns ih =>
   intro vs w
   rw [List.map_cons] at w
   cases w with
   | cons a b =>
     cases a
     exact .cons _ _ (ih _ b)
theorem script_of {l : OpenLaw} {n : Nat} (hn : l.most = some n) {P : Params} {h : Heap} {args : List WData} {vals : List Value}
   (hpre : l.row.toRowW.claim.pre args = true) (hwl : WellAll P h vals args) :
   ∃ a vs ns, vals = [Value.ref a] ∧ args = [WData.list (ns.map WData.int)] ∧ h.get? a = some { cls := .type "list", data := .seq vs.toArray } ∧ IntsAre vs ns ∧ ns.length ≤ n := by
 have hsh : WShape.hasAll [] args [.list .int] = true := (pre_splitW hpre).1
 have hc : l.pre.holds [] { args := args } = true := (pre_splitW hpre).2
 obtain ⟨d, r, rfl, h1, h2⟩ := hasAllW_cons hsh
 obtain rfl := hasAllW_nil h2
 obtain ⟨xs, rfl, h3⟩ := hasW_list h1
 obtain ⟨ns, rfl⟩ := items_int h3
 have hlen : ns.length ≤ n := by
   unfold OpenLaw.pre at hc
   have h4 : (WTm.not (.lt (.lit (.int (n : Int))) (.len (.arg 0)))).holds [] { args := [.list (ns.map .int)] } = true := by
     have h4 := (holds_andW hc).1
     rw [hn] at h4
     exact h4
   have h5 := condW_of h4 (w_not (w_lt w_lit (w_len_list (w_arg rfl))))
   rw [List.length_map] at h5
   refine Nat.le_of_not_lt fun q => ?_
   have q' : (n : Int) < ((ns.length : Nat) : Int) := by omega
   first
     | (rw [decide_eq_true q'] at h5; exact absurd h5 (by decide))
     | (simp at h5; omega)
 cases hwl with
 | cons w1 w2 =>
   cases w2
   cases w1 with
   | list ho hall => exact ⟨_, _, ns, rfl, rfl, ho, ints_of_wellAll ns _ hall, hlen⟩
theorem post_true (l : OpenLaw) (args : List WData) : l.row.toRowW.claim.post args (.bool true) args = true :=
 postW_of (r := l.row.toRowW) (X := (true == true))
   (show WShape.has [] (.bool true) .bool = true by first | rfl | decide | simp [WShape.has, WShape.arms, WShape.armsAll])
   (show (WTm.eq .res (.lit (.bool true))).value [] { args := args, res := some (.bool true), after := args } = some (.bool (true == true)) from w_eq_bool (w_res rfl) w_lit) rfl
theorem attach_call {l : OpenLaw} {n : Nat} {q : Program} {loose : List Str} {XP : (Str → Option Value) → Heap → Prop} {YP : World → Heap → Prop} {d : DefRec}
   (hn : l.most = some n) (hdf : d.params.defaults = [])
   (call : ∀ (w : World) (s₀ s₁ : Shared) (mg mb : Str → Option Value) (fa : Addr) (o : Obj) (pm cd doc : Value) (a : Addr) (vs : List Value) (ns : List Int),
     Ground q loose [] XP w s₀ mg mb s₁.heap → YP w s₁.heap →
     s₁.heap.get? fa = some o → o.data = .func (docDef d.name d.params d.body d.scope pm cd doc) → s₁.heap.CodeRec cd d.name → mg d.name = some (.ref fa) →
     s₁.heap.get? a = some { cls := .type "list", data := .seq vs.toArray } → IntsAre vs ns → ns.length ≤ n → s₁.gens = #[] →
     codeAny (model l.prog w) callerA (.call (.ref fa) ⟨[.ref a], []⟩) (fun r s' => r = .ok (.ret (.bool true)) ∧ OldK s₁.heap s'.heap ∧ s'.os = s₁.os ∧ AllBare s'.gens) s₁) :
   WalkO q loose XP YP l.row.toRowW d [] (fun f vs => PySem.call f vs) := by
 intro w s₀ s₁ mg mb G Y fa o pm cd doc dV kV ho hd hcd hD hmg hg args vals as hpre hlay hrd hwl hlo
 obtain rfl : dV = .none := Dflts.none hD hdf
 obtain rfl : kV = .none := Dflts.noKw hD
 obtain ⟨a, vs, ns, rfl, rfl, hobj, hints, hlen⟩ := script_of hn hpre hwl
 refine enter_call (codeAny_mono (call w s₀ s₁ mg mb fa o pm cd doc a vs ns G Y ho (fd_plain hd) hcd hmg hobj hints hlen hg) fun r s' hq => ?_)
 obtain ⟨rfl, h2, h3, h4⟩ := hq
 exact ⟨.inl ⟨.bool true, .bool true, [], rfl, fun _ => rfl, .bool true, post_true l _, fun _ => ⟨List.Pairwise.nil, fun _ hm => (nomatch hm)⟩⟩, h2, h3, h4⟩
end Att
namespace L2
open PySem PySem.Spec PyProof.Rows
theorem vals_ints : ∀ {vs : List Value} {ns : List Int}, IntsAre vs ns → Vals (ns.map V.int) vs
 | _, _, .nil => .nil
 | _, _, .cons n t h => .cons ⟨t, rfl⟩ (vals_ints h)
def Only (H : Hp) : Prop := ∀ b, H b = none ∨ ∃ o xs, H b = some (.frz o (.lst xs))
theorem law_call {P : Program} {w : World} {K : W.Frag} {mg mb : Str → Option Value} {CX : CXT} {k : Nat} {fa a : Addr} {fd : FuncData} {x : Str} {sp : Sp} {s₁ : Shared} {vs : List Value} {ns : List Int}
   (KX : K.In s₁.heap) (hns : s₁.heap.Ns mainGlobals mg) (hb : s₁.heap.Ns builtinsNs mb) (hbb : ∀ x : Str, x ≠ "__name__" → mb x = bootBuiltins x) (hlim : s₁.heap.NoLimit) (hg : s₁.gens = #[])
   (ha : s₁.heap.get? a = some { cls := .type "list", data := .seq vs.toArray }) (hi : IntsAre vs ns) (hl : ns.length ≤ sizeLine) (hr : Room k callerA)
   (F : ∀ base : Heap, K.In base → base.Ns mainGlobals mg → FnOk P w K mg base CX k fa fd [x] sp) (hbind : ∀ (s : Shared) (u : Value), BindsTo s fd ⟨[u], []⟩ [(x, u)])
   (hsp : ∀ H : Hp, Only H → SqL K H a (ns.map V.int) → sp [.ref a] H (fun v _ => v = .bl true) fun _ _ _ => False)
   (hCX : ∀ H e s', CX [] H s₁ (fun _ _ _ => False) e s' → False) :
   codeAny (model P w) callerA (.call (.ref fa) ⟨[.ref a], []⟩) (fun r s' => r = .ok (.ret (.bool true)) ∧ OldK s₁.heap s'.heap ∧ s'.os = s₁.os ∧ AllBare s'.gens) s₁ := by
 have rv := vals_ints hi
 have lenV := hi.length
 have core : ∀ H : Hp, Only H → SqL K H a (ns.map V.int) → HOk P w H s₁.heap → (∀ b, H b ≠ none → b = a) → (H a ≠ none → K.lookup a = none) →
     codeAny (model P w) callerA (.call (.ref fa) ⟨[.ref a], []⟩) (fun r s' => r = .ok (.ret (.bool true)) ∧ OldK s₁.heap s'.heap ∧ s'.os = s₁.os ∧ AllBare s'.gens) s₁ := by
   intro H hO hS hok hA hK
   have base_of : ∀ {b : Addr} {o : Obj}, s₁.heap.get? b = some o → H b = none → (hidT s₁.heap H).get? b = some o := fun e n => hidT_get e n
   have noA : ∀ {b : Addr} {o : Obj} {es : Array DictEntry} {ep : Nat}, s₁.heap.get? b = some o → o.data = .dict es ep → H b = none := fun {b o es ep} e d => by
     cases q : H b with
     | none => rfl
     | some u =>
       have e' : b = a := hA b (by rw [q]; simp)
       subst e'
       rw [ha] at e; cases e
       have d' : Data.seq vs.toArray _ = Data.dict es ep := d
       cases d'
   have nsK : ∀ {b : Addr} {m : Str → Option Value}, s₁.heap.Ns b m → (hidT s₁.heap H).Ns b m := fun {b m} ⟨o, es, ep, e, d, r⟩ => ⟨o, es, ep, base_of e (noA e d), d, r⟩
   have hKb : K.In (hidT s₁.heap H) := fun b o e => base_of (KX b o e) (by
     cases q : H b with
     | none => rfl
     | some u =>
       have e' : b = a := hA b (by rw [q]; simp)
       subst e'
       rw [hK (by rw [q]; simp)] at e; cases e)
   have hM : Mod K mg (hidT s₁.heap H) := ⟨hKb, nsK hns, ⟨mb, nsK hb, hbb⟩, let ⟨mc, h1, h2⟩ := hlim; ⟨mc, nsK h1, h2⟩⟩
   have e0 : Env0 P w K mg (hidT s₁.heap H) callerA [] s₁ H := ⟨rfl, hM, fun b o e => of_hidT e, Nat.le_of_eq (hidT_size _ _), trivial, fun b hb => absurd (show b ∈ ([] : List Addr) from hb) (by simp), hok, .of_eq hg⟩
   refine codeAny_mono ((F _ hKb (nsK hns)).run callerA [] s₁ H ⟨[.ref a], []⟩ [.ref a] [.ref a] _ _ hr e0 (hbind s₁ (.ref a)) (.cons rfl .nil) (hsp H hO hS)) fun r s' h => ?_
   cases r with
   | error e => exact (hCX H e s' h).elim
   | ok fl =>
     cases fl with
     | next => exact False.elim h
     | brk => exact False.elim h
     | cont => exact False.elim h
     | ret u =>
       obtain ⟨v, H', os, bare, un, hok', r', q⟩ := h
       have q' : v = .bl true := q
       subst q'
       obtain rfl : u = Value.bool true := r'
       refine ⟨rfl, OldK.of_keep fun b o e => ?_, os, bare⟩
       cases q : H b with
       | none => exact un.keep b o e q (by intro z; exact absurd (show b ∈ ([] : List Addr) from z) (by simp)) (by simp)
       | some u =>
         rcases hO b with z | ⟨ob, xs, z⟩
         · rw [q] at z; cases z
         · have z2 := un.frzs b ob _ z
           obtain ⟨e1, _⟩ := hok b _ z
           obtain ⟨e2, _⟩ := hok' b _ z2
           rw [e] at e1; cases e1
           exact e2
 cases hk : K.lookup a with
 | some o =>
   have e := KX a o hk
   rw [ha] at e
   cases e
   refine core (fun _ => none) (fun _ => .inl rfl) (.inr ⟨_, vs.toArray, _, hk, rfl, rfl, rfl, by rw [List.size_toArray, lenV]; exact hl, by simpa using rv⟩) (fun b u z => by have z' : (none : Option HO) = some u := z; cases z') (fun b z => absurd rfl z) fun z => absurd rfl z
 | none =>
   refine core (fun b => if b = a then some (.frz { cls := .type "list", data := .seq vs.toArray } (.lst (ns.map V.int))) else none) (fun b => ?_) (.inl (.inr ⟨{ cls := .type "list", data := .seq vs.toArray }, if_pos rfl⟩)) (fun b u z => ?_) (fun b z => ?_) fun _ => hk
   · by_cases hb : b = a
     · exact .inr ⟨_, _, if_pos hb⟩
     · exact .inl (if_neg hb)
   · by_cases hb : b = a
     · have z' := (if_pos hb).symm.trans z
       cases z'
       subst hb
       exact ⟨ha, by rw [List.length_map]; exact hl, vs, _, rv, ha⟩
     · have z' := (if_neg hb).symm.trans z
       cases z'
   · by_cases hb : b = a
     · exact hb
     · exact absurd (if_neg hb) z
end L2
namespace L2
open PySem PySem.Spec PyProof.Rows
theorem walk_of {l : W.OpenLaw} {n k : Nat} {q : Program} {loose : List Str} {XP : (Str → Option Value) → Heap → Prop} {YP : World → Heap → Prop} {d : DefRec} {K : Params → W.Frag} {CX : World → CXT} {sp : World → Sp} {x : Str}
   (hn : l.most = some n) (hn2 : n ≤ sizeLine) (hdf : d.params.defaults = []) (hr : Room k callerA)
   (hY : ∀ (w : World) (h : Heap), YP w h → (K w.params).In h)
   (F : ∀ (w : World) (mg : Str → Option Value) (fa : Addr) (h : Heap), (K w.params).In h → h.Ns mainGlobals mg → mg d.name = some (.ref fa) →
     ∃ fd : FuncData, (∀ (s : Shared) (u : Value), BindsTo s fd ⟨[u], []⟩ [(x, u)]) ∧
       ∀ base : Heap, (K w.params).In base → base.Ns mainGlobals mg → FnOk l.prog w (K w.params) mg base (CX w) k fa fd [x] (sp w))
   (hsp : ∀ (w : World) (H : Hp) (a : Addr) (ns : List Int), ns.length ≤ n → Only H → SqL (K w.params) H a (ns.map V.int) → sp w [.ref a] H (fun v _ => v = .bl true) fun _ _ _ => False)
   (hCX : ∀ (w : World) (H : Hp) (s : Shared) (e : Value) (s' : Shared), CX w [] H s (fun _ _ _ => False) e s' → False) :
   W.WalkO q loose XP YP l.row.toRowW d [] (fun f vs => PySem.call f vs) := by
 refine Att.attach_call hn hdf fun w s₀ s₁ mg mb fa o pm cd doc a vs ns G Y ho hd hcd hmg hobj hints hlen hg => ?_
 have KX := hY w _ Y
 obtain ⟨fd, hb, hF⟩ := F w mg fa _ KX G.T.g hmg
 exact law_call KX G.T.g G.T.b G.T.builtins G.T.nolimit hg hobj hints (Nat.le_trans hlen hn2) hr hF hb (fun H hO hS => hsp w H a ns hlen hO hS) fun H e s' => hCX w H s₁ e s'
end L2
namespace L2
open PySem PySem.Spec PyProof.Rows
def inClass (s : Stmt) (j : Nat) : Stmt := match s with
 | .ClassDef _ _ _ body _ _ _ _ _ _ _ => body.getD j (.Pass ⟨0, 0, 0, 0⟩)
 | _ => .Pass ⟨0, 0, 0, 0⟩
def defArgs (s : Stmt) : Arguments := match s with
 | .FunctionDef _ a _ _ _ _ _ _ _ _ => a
 | _ => { posonlyargs := [], args := [], vararg := none, kwonlyargs := [], kw_defaults := [], kwarg := none, defaults := [] }
def defBody (s : Stmt) : List Stmt := match s with
 | .FunctionDef _ _ b _ _ _ _ _ _ _ => b
 | _ => []
def defScope (s : Stmt) : Scope := match s with
 | .FunctionDef _ _ _ _ _ _ sc _ _ _ => sc
 | _ => { kind := .function, names := [], isGenerator := false, isCoroutine := false }
abbrev CX0 : CXT := fun _ _ _ _ _ _ => False
abbrev E0 : XK := fun _ _ _ => False
theorem pass0 {X : Cx} : Passes CX0 X E0 := fun _ _ _ _ _ _ _ h => h.elim
structure Fun (K : W.Frag) (x qual : Str) (st : Stmt) (f : Addr) (fd : FuncData) : Prop where
 ex : ∃ (oc : Value) (od : Option Addr) (kV doc pm : Value) (an : Option Addr) (cdv ct : Value) (osl : Array (Option Value)),
   fd = W.fnOf x qual (defArgs st) (defBody st) (defScope st) .none kV doc pm an cdv ct ∧ K.lookup f = some ⟨oc, od, .func fd, osl⟩ ∧ W.codeIn K cdv qual = true
 kp : W.keepIn K (.ref f) = true
section
variable {P : Program} {w : World} {K : W.Frag} {mg : Str → Option Value} {base : Heap}
theorem Fun.ok {x qual : Str} {st : Stmt} {f : Addr} {fd : FuncData} {N ps : List Str} {k : Nat} {sp : Sp} (F : Fun K x qual st f fd) (S : FnScope N ps (defScope st)) (len : ∀ vs H Q E, sp vs H Q E → vs.length = ps.length)
   (hbody : ∀ (cdv : Value) (A : Around) (outer : List Env) (s : Shared) (H : Hp) (vs : List V) (Q : VK) (E : XK), Room k (A.deeper (envOfC qual (defScope st) s.heap.objs.size f cdv)) → sp vs H Q E →
     ∃ t, PSs (cxOf CX0 P w K mg base N qual (defScope st) f cdv A outer s H E).nox (defBody st) t ∧ t { nx := fun _ H' => Q .non H', rt := Q } (start N vs) H) : FnOk P w K mg base CX0 (k + 1) f fd ps sp := by
 obtain ⟨oc, od, kV, doc, pm, an, cdv, ct, osl, rfl, lk, hcd⟩ := F.ex
 refine fn_of lk hcd S len fun A outer s H vs Q E hr hsp => ?_
 obtain ⟨t, h, q⟩ := hbody cdv A outer s H vs Q E hr hsp
 exact ⟨t, h.nox, q⟩
theorem Fun.binds {x qual : Str} {st : Stmt} {f : Addr} {fd : FuncData} {ps : List Str} (F : Fun K x qual st f fd)
   (h : ∀ (kV doc pm : Value) (an : Option Addr) (cdv ct : Value) (us : List Value), us.length = ps.length → bindArgs (W.fnOf x qual (defArgs st) (defBody st) (defScope st) .none kV doc pm an cdv ct) ⟨us, []⟩ = pure (ps.zip us)) : Binds K fd ps [] := by
 obtain ⟨oc, od, kV, doc, pm, an, cdv, ct, osl, rfl, lk, hcd⟩ := F.ex
 exact .all (h kV doc pm an cdv ct)
theorem fun_mk {x qual : Str} {st : Stmt} {f : Addr} {oc : Value} {od an : Option Addr} {osl : Array (Option Value)} {kV doc pm cdv ct : Value} (l : K.lookup f = some ⟨oc, od, .func (W.fnOf x qual (defArgs st) (defBody st) (defScope st) .none kV doc pm an cdv ct), osl⟩)
   (c : W.codeIn K cdv qual = true) (k : W.keepIn K (.ref f) = true) : Fun K x qual st f (W.fnOf x qual (defArgs st) (defBody st) (defScope st) .none kV doc pm an cdv ct) := ⟨⟨oc, od, kV, doc, pm, an, cdv, ct, osl, rfl, l, c⟩, k⟩
end
theorem hu_of {A : Around} {k : Nat} (hr : Room k A) : A.units + 1 < cLine := Nat.lt_of_le_of_lt (Nat.add_le_add_left (by decide : 1 ≤ 64) _) hr.units
section
variable {X : Cx}
theorem pv (i : Nat) {x : Str} {pos : Pos} (hN : X.N[i]? = some x := by rfl) (hv : Vis X.env.scope x := by first | exact Or.inl rfl | exact Or.inr (Or.inl rfl) | exact Or.inr (Or.inr rfl)) (hd : (x == ("__debug__" : Str)) = false := by decide)
   (hcd : (x == ("__classdict__" : Str)) = false := by decide) : PE X (.Name x pos) (tVar i) := pe_var hN hv hd hcd
end
theorem iteF {A B : Prop} (h : B) : if false = true then A else B := by
 rw [if_neg Bool.false_ne_true]
 exact h
theorem iteT {A B : Prop} (h : A) : if true = true then A else B := by
 rw [if_pos rfl]
 exact h
theorem ite2 {c A B : Prop} [Decidable c] (h1 : c → A) (h2 : ¬ c → B) : if c then A else B := by
 by_cases h : c
 · rw [if_pos h]
   exact h1 h
 · rw [if_neg h]
   exact h2 h
def Same (H H' : Hp) : Prop := ∀ b o, H b = some o → H' b = some o
theorem Same.refl (H : Hp) : Same H H := fun _ _ h => h
theorem Same.trans {H H1 H2 : Hp} (a : Same H H1) (b : Same H1 H2) : Same H H2 := fun c o h => b c o (a c o h)
theorem Same.free {H H' : Hp} (e : Same H H') {l : Addr} (h : H' l = Option.none) : H l = Option.none := by
 cases q : H l with
 | none => rfl
 | some o =>
   rw [e l o q] at h
   cases h
theorem Same.seq {K : W.Frag} {H H' : Hp} {a : Addr} {xs : List V} (e : Same H H') (h : SqL K H a xs) : SqL K H' a xs := by
 rcases h with (h | ⟨o, h⟩) | h
 · exact .inl (.inl (e _ _ h))
 · exact .inl (.inr ⟨o, e _ _ h⟩)
 · exact .inr h
end L2
set_option maxHeartbeats 4000000
namespace L2
open PySem PySem.Spec PyProof.Rows
def clOf (cells : List (Str × Addr)) : List (Str × NameKind) → List (Str × Addr) → List (Str × Addr)
 | [], acc => acc
 | (n, k) :: r, acc => if k == .free then clOf cells r ((n, (cells.lookup n).getD 0) :: acc) else clOf cells r acc
theorem closure_of {env : Env} {names : List (Str × NameKind)} (h : ∀ n, (n, NameKind.free) ∈ names → ∃ c, env.cells.lookup n = some c) :
   ∀ acc, (forIn names acc fun (x : Str × NameKind) (cs : List (Str × Addr)) => (match x with
     | (name, kind) => if (kind == NameKind.free) = true then do let c ← cellOf env name; pure (ForInStep.yield ((name, c) :: cs)) else pure (ForInStep.yield cs) : Sem (ForInStep (List (Str × Addr))))) = pure (clOf env.cells names acc) := by
 induction names with
 | nil => intro acc; rfl
 | cons x r ih =>
   intro acc
   obtain ⟨n, k⟩ := x
   have ih' := ih fun m hm => h m (List.mem_cons_of_mem _ hm)
   rw [List.forIn_cons]
   by_cases hk : k = .free
   · subst hk
     obtain ⟨c, hc⟩ := h n List.mem_cons_self
     have e : cellOf env n = pure c := by unfold cellOf; rw [hc]
     simp only [beq_self_eq_true, if_true, e, pure_bind]
     rw [ih']
     show _ = pure (clOf env.cells r ((n, (env.cells.lookup n).getD 0) :: acc))
     rw [hc]; rfl
   · have hb : (k == NameKind.free) = false := by simpa using hk
     simp only [hb, Bool.false_eq_true, if_false, pure_bind]
     rw [ih']
     show _ = pure (if (k == NameKind.free) = true then _ else clOf env.cells r acc)
     rw [hb]; rfl
theorem closureFor_of {scope : Scope} {env : Env} (h : ∀ n, (n, NameKind.free) ∈ scope.names → ∃ c, env.cells.lookup n = some c) : closureFor scope env = pure (clOf env.cells scope.names []) := by
 have e := closure_of h []
 unfold closureFor
 simp only [bind_pure_comp] at *
 first
   | exact e
   | (rw [show (forIn scope.names ([] : List (Str × Addr)) _) = _ from e]; rfl)
theorem cl_sub {cells : List (Str × Addr)} : ∀ {names : List (Str × NameKind)} {acc : List (Str × Addr)}, (∀ n, (n, NameKind.free) ∈ names → ∃ c, cells.lookup n = some c) → (∀ x c, acc.lookup x = some c → cells.lookup x = some c) →
   ∀ x c, (clOf cells names acc).lookup x = some c → cells.lookup x = some c
 | [], _, _, ha, x, c, e => ha x c e
 | (n, k) :: r, acc, h, ha, x, c, e => by
   by_cases hk : k = .free
   · subst hk
     obtain ⟨d, hd⟩ := h n List.mem_cons_self
     refine cl_sub (names := r) (acc := (n, (cells.lookup n).getD 0) :: acc) (fun m hm => h m (List.mem_cons_of_mem _ hm)) (fun y z q => ?_) x c e
     rw [List.lookup_cons] at q
     by_cases hy : y = n
     · subst hy
       simp only [beq_self_eq_true, hd, Option.getD_some] at q
       rw [hd]; exact q
     · have hb : (y == n) = false := beq_eq_false_iff_ne.mpr hy
       simp only [hb] at q
       exact ha y z q
   · have hb : (k == NameKind.free) = false := by simpa using hk
     have e' : (clOf cells r acc).lookup x = some c := by
       have : clOf cells ((n, k) :: r) acc = clOf cells r acc := by show (if (k == NameKind.free) = true then _ else _) = _; rw [hb]; rfl
       rw [← this]; exact e
     exact cl_sub (names := r) (fun m hm => h m (List.mem_cons_of_mem _ hm)) ha x c e'
theorem cl_has {cells : List (Str × Addr)} : ∀ {names : List (Str × NameKind)} {acc : List (Str × Addr)} {x : Str}, ((x, NameKind.free) ∈ names ∨ ∃ c, acc.lookup x = some c) → ∃ c, (clOf cells names acc).lookup x = some c
 | [], _, _, h => by
   rcases h with h | h
   · simp at h
   · exact h
 | (n, k) :: r, acc, x, h => by
   by_cases hk : k = .free
   · subst hk
     show ∃ c, (clOf cells r ((n, (cells.lookup n).getD 0) :: acc)).lookup x = some c
     refine cl_has (names := r) ?_
     by_cases hx : x = n
     · subst hx
       exact .inr ⟨_, by rw [List.lookup_cons]; simp only [beq_self_eq_true]; rfl⟩
     · have hb : (x == n) = false := beq_eq_false_iff_ne.mpr hx
       rcases h with h | ⟨c, h⟩
       · rcases List.mem_cons.mp h with q | q
         · exact absurd (Prod.mk.inj q).1 hx
         · exact .inl q
       · exact .inr ⟨c, by rw [List.lookup_cons]; simp only [hb]; exact h⟩
   · have hb : (k == NameKind.free) = false := by simpa using hk
     have : clOf cells ((n, k) :: r) acc = clOf cells r acc := by show (if (k == NameKind.free) = true then _ else _) = _; rw [hb]; rfl
     rw [this]
     refine cl_has (names := r) ?_
     rcases h with h | h
     · rcases List.mem_cons.mp h with q | q
       · exact absurd (Prod.mk.inj q).2.symm hk
       · exact .inl q
     · exact .inr h
def relK (env : Env) (x : Str) (k : NameKind) : NameKind := if (k == NameKind.free && env.scope.kind == .function && env.kindOf x == some .cell) = true then .cell else k
theorem relabel_lookup {env : Env} {x : Str} : ∀ {names : List (Str × NameKind)},
   (names.map fun (n, k) => if (k == NameKind.free && env.scope.kind == .function && env.kindOf n == some .cell) then (n, NameKind.cell) else (n, k)).lookup x = (names.lookup x).map (relK env x)
 | [] => rfl
 | (n, k) :: r => by
   have ih := @relabel_lookup env x r
   show List.lookup x ((if (k == NameKind.free && env.scope.kind == .function && env.kindOf n == some .cell) = true then (n, NameKind.cell) else (n, k)) :: _) = _
   by_cases hx : x = n
   · subst hx
     rw [List.lookup_cons]
     unfold relK
     by_cases hc : (k == NameKind.free && env.scope.kind == .function && env.kindOf x == some .cell) = true
     · rw [if_pos hc, List.lookup_cons]; simp only [beq_self_eq_true, Option.map_some]; rw [if_pos hc]
     · rw [if_neg hc, List.lookup_cons]; simp only [beq_self_eq_true, Option.map_some]; rw [if_neg hc]
   · have hb : (x == n) = false := beq_eq_false_iff_ne.mpr hx
     rw [List.lookup_cons (k := n)]
     by_cases hc : (k == NameKind.free && env.scope.kind == .function && env.kindOf n == some .cell) = true
     · rw [if_pos hc, List.lookup_cons]; simp only [hb]; exact ih
     · rw [if_neg hc, List.lookup_cons]; simp only [hb]; exact ih
theorem mem_of_lookup {κ β : Type} [BEq κ] [LawfulBEq κ] {x : κ} {b : β} : ∀ {l : List (κ × β)}, l.lookup x = some b → (x, b) ∈ l
 | [], h => by simp at h
 | (n, k) :: r, h => by
   rw [List.lookup_cons] at h
   cases hb : x == n with
   | true =>
     rw [hb] at h
     have e1 := LawfulBEq.eq_of_beq hb
     have e2 : k = b := by simpa using h
     subst e1 e2
     exact List.mem_cons_self
   | false =>
     rw [hb] at h
     exact List.mem_cons_of_mem _ (mem_of_lookup h)
def Cx.blk (X : Cx) (scope : Scope) (N' : List Str) (C : Addr) (s₂ : Shared) (H₂ : Hp) (ex : List Addr) : Cx :=
 { X with N := N', s₀ := s₂, H₀ := H₂, env := compEnvC scope (clOf X.env.cells scope.names []) C X.env, outer := X.stack, stack := X.stack, ex := ex, fn := fun _ => false, pn := [], xe := fun _ _ => False }
structure CompScope (X : Cx) (scope : Scope) (N' : List Str) (ix : List (Option Nat)) : Prop where
 kind : scope.kind = .function
 cell : ∀ y ∈ scope.names, y.2 ≠ .cell
 own : ∀ y ∈ scope.names, y.2 = .local → scope.names.lookup y.1 = some .local
 free : ∀ y ∈ scope.names, y.2 = .free → (X.env.kindOf y.1 = some .cell ∨ X.env.kindOf y.1 = some .free)
 once : ∀ x, (x, NameKind.local) ∈ scope.names → (x, NameKind.free) ∈ scope.names → False
 len : ix.length = N'.length
 out : ∀ (i j : Nat), ix[i]? = some (some j) → X.N[j]? = N'[i]? ∧ ∀ x, N'[i]? = some x → (x, NameKind.free) ∈ scope.names ∧ Vis X.env.scope x
def takes (ix : List (Option Nat)) (σ : St) : St := ix.map fun o => o.bind fun j => (σ[j]?).join
section
variable {X : Cx} {pins : List (Addr × Obj)} {σ : St} {H : Hp} {s : Shared} {scope : Scope} {N' : List Str} {ix : List (Option Nat)} {fp : List Addr}
theorem blk_free (I : Inv X pins σ H s) (S : CompScope X scope N' ix) : ∀ n, (n, NameKind.free) ∈ scope.names → ∃ c, X.env.cells.lookup n = some c := fun n hn => I.ok.has n (S.free _ hn rfl)
theorem blk_sub (I : Inv X pins σ H s) (S : CompScope X scope N' ix) : ∀ x c, (clOf X.env.cells scope.names []).lookup x = some c → X.env.cells.lookup x = some c :=
 cl_sub (blk_free I S) fun x c e => by simp at e
theorem blk_has (I : Inv X pins σ H s) (S : CompScope X scope N' ix) {x : Str} (h : (x, NameKind.free) ∈ scope.names) : ∃ c, (clOf X.env.cells scope.names []).lookup x = some c ∧ X.env.cells.lookup x = some c := by
 obtain ⟨c, e⟩ := cl_has (cells := X.env.cells) (acc := []) (.inl h)
 exact ⟨c, e, blk_sub I S x c e⟩
theorem blk_kind {C : Addr} (x : Str) : (compEnvC scope (clOf X.env.cells scope.names []) C X.env).kindOf x = (scope.names.lookup x).map (relK X.env x) := relabel_lookup
theorem blk_ok {C : Addr} (I : Inv X pins σ H s) (S : CompScope X scope N' ix) (hC : s.heap.objs.size ≤ C) (hf : ∀ b ∈ fp, FpOk X pins H b) (hfo : ∀ b ∈ fp, b < C) : (X.blk scope N' C s H fp).Ok where
 mod := I.ok.mod
 kind := S.kind
 glob := I.ok.glob
 blt := I.ok.blt
 above := hC
 inj := fun x y c h1 h2 => I.ok.inj x y c (blk_sub I S x c h1) (blk_sub I S y c h2)
 has := fun x hx => by
   have hx' : (scope.names.lookup x).map (relK X.env x) = some .cell ∨ (scope.names.lookup x).map (relK X.env x) = some .free := by
     rw [← blk_kind (C := C)]; exact hx
   cases e : scope.names.lookup x with
   | none => rw [e] at hx'; rcases hx' with z | z <;> cases z
   | some k =>
     have hm := mem_of_lookup e
     have hk : k = .free := by
       rw [e] at hx'
       have h1 := S.cell _ hm
       unfold relK at hx'
       by_cases hc : (k == NameKind.free && X.env.scope.kind == .function && X.env.kindOf x == some .cell) = true
       · simp only [Bool.and_eq_true, beq_iff_eq] at hc
         exact hc.1.1
       · simp only [Option.map_some, hc, if_false, Bool.false_eq_true] at hx'
         rcases hx' with z | z
         · exact absurd (Option.some.inj z) h1
         · exact Option.some.inj z
     subst hk
     obtain ⟨c, h1, _⟩ := blk_has I S hm
     exact ⟨c, h1⟩
 cab := fun x c h => by cases h
 hd := I.ok.hd
 frames := I.ok.frames
 stk := .inl rfl
 exf := fun b hb => ⟨Nat.ne_of_lt (hfo b hb), fun x c e => (hf b hb).2.2.2.2.1 x c (blk_sub I S x c e)⟩
 bs := I.bs
 bsz := Nat.le_trans I.ok.bsz I.sz
 noex := fun b o e hb => by
   rcases (hf b hb).2.2.2.1 with z | z
   · exact I.ok.noex b o e z
   · exact absurd (Nat.lt_of_lt_of_le (Heap.lt_size e) (Nat.le_trans I.ok.bsz z)) (Nat.lt_irrefl _)
 exfs := fun b hb z => by
   rcases List.mem_cons.mp (I.stkSub b z) with q | q
   · exact (hf b hb).2.1 q
   · exact (hf b hb).2.2.1 q
 funs := I.stack
 frf := I.stkFree
theorem blk_inv {C : Addr} {h' : Heap} {t' : Nat} {m : Str → Option Value} (I : Inv X pins σ H s) (S : CompScope X scope N' ix) (hC : s.heap.objs.size ≤ C) (hf : ∀ b ∈ fp, FpOk X pins H b) (hfo : ∀ b ∈ fp, b < C)
   (k : ∀ b o, s.heap.get? b = some o → h'.get? b = some o) (hn : h'.Ns C m) : Inv (X.blk scope N' C s H fp) [] (takes ix σ) H { s with heap := h', toks := t' } where
 ok := blk_ok I S hC hf hfo
 os := rfl
 bare := I.bare
 base := Un.kept k
 loc := ⟨m, hn, fun i x v e1 e2 e3 => by
   have e2' : (ix[i]?).map (fun o => o.bind fun j => (σ[j]?).join) = some (some v) := by rw [← List.getElem?_map]; exact e2
   cases q : ix[i]? with
   | none => rw [q] at e2'; cases e2'
   | some o =>
     rw [q] at e2'
     cases o with
     | none => cases e2'
     | some j =>
       have e2'' : (σ[j]?).join = some v := by simpa using e2'
       have e4 : σ[j]? = some (some v) := by
         cases z : σ[j]? with
         | none => rw [z] at e2''; cases e2''
         | some y => rw [z] at e2''; exact congrArg some e2''
       obtain ⟨o1, o2⟩ := S.out i j q
       have e1' : N'[i]? = some x := e1
       obtain ⟨o3, o4⟩ := o2 x e1'
       obtain ⟨m0, hn0, hl⟩ := I.loc
       obtain ⟨u, r, l⟩ := hl j x v (o1.trans e1') e4 o4
       refine ⟨u, r, .inr ?_⟩
       obtain ⟨c, c1, c2⟩ := blk_has I S o3
       have fk := S.free _ o3 rfl
       have hcell : h'.IsCell c (some u) := by
         rcases l with ⟨lk, _⟩ | ⟨_, c', lc, lz⟩
         · rcases fk with z | z <;> (rw [lk] at z; cases z)
         · rw [c2] at lc; cases lc
           exact lz.keeps k
       refine ⟨?_, c, c1, hcell⟩
       have hkd : (scope.names.lookup x).map (relK X.env x) = some (relK X.env x ((scope.names.lookup x).getD .free)) := by
         cases z : scope.names.lookup x with
         | none =>
           exfalso
           have : ∀ {l : List (Str × NameKind)}, (x, NameKind.free) ∈ l → l.lookup x ≠ none := by
             intro l
             induction l with
             | nil => intro h; simp at h
             | cons y r ih =>
               intro h
               rw [List.lookup_cons]
               rcases List.mem_cons.mp h with q | q
               · rw [← q]; simp
               · cases hb : x == y.1 with
                 | true => simp
                 | false => exact ih q
           exact this o3 z
         | some k => rfl
       have hvis : Vis (compEnvC scope (clOf X.env.cells scope.names []) C X.env).scope x := e3
       have hkx : (compEnvC scope (clOf X.env.cells scope.names []) C X.env).kindOf x = some .local ∨ (compEnvC scope (clOf X.env.cells scope.names []) C X.env).kindOf x = some .cell ∨ (compEnvC scope (clOf X.env.cells scope.names []) C X.env).kindOf x = some .free := hvis
       rcases hkx with z | z
       · exfalso
         rw [blk_kind] at z
         cases w : scope.names.lookup x with
         | none => rw [w] at z; cases z
         | some k =>
           rw [w] at z
           have z' : relK X.env x k = .local := Option.some.inj z
           unfold relK at z'
           split at z'
           · cases z'
           · subst z'
             have := S.once x (mem_of_lookup w) o3
             exact this
       · exact z⟩
 cell := fun x c e => by
   obtain ⟨v, z⟩ := I.cell x c (blk_sub I S x c e)
   exact ⟨v, z.keeps k⟩
 free := I.hok.fresh hC
 freeC := fun x c e => I.freeC x c (blk_sub I S x c e)
 pin := fun p hp => nomatch hp
 hok := I.hok.kept k
 len := by
   show (takes ix σ).length = N'.length
   unfold takes
   rw [List.length_map]; exact S.len
theorem blk_back {C D : Addr} {h' : Heap} {s' : Shared} {H' : Hp} {σ' : St} {pins' : List (Addr × Obj)} {ys : List V} {its : List Value} {n : Nat} (I : Inv X pins σ H s) (hD : s.heap.objs.size ≤ D) (hDC : D < C) (hf : ∀ b ∈ fp, FpOk X pins H b)
   (I' : Inv (X.blk scope N' C s H (D :: fp)) pins' σ' H' s') (hs : Heap.SameBut C s'.heap h') (hDn : H' D = none) (hl : ys.length ≤ sizeLine) (rv : Vals ys its) (ho : s'.heap.get? D = some { cls := .type "list", data := .seq its.toArray n }) :
   Inv X pins σ (upd H' D (.lst ys)) { s' with heap := h' } := by
 have nD : ∀ b o, s.heap.get? b = some o → b ≠ D := fun b o e => Nat.ne_of_lt (Nat.lt_of_lt_of_le (Heap.lt_size e) hD)
 have nC : ∀ b o, s.heap.get? b = some o → b ≠ C := fun b o e => Nat.ne_of_lt (Nat.lt_trans (Nat.lt_of_lt_of_le (Heap.lt_size e) hD) hDC)
 have nt : ∀ b o, H b = some o → b ≠ D := fun b o e => Nat.ne_of_lt (Nat.lt_of_lt_of_le (I.hok.lt e) hD)
 have nx : ∀ b o, s.heap.get? b = some o → b ∉ fp → b ∉ D :: fp := fun b o e hb z => by
   rcases List.mem_cons.mp z with q | q
   · exact nD b o e q
   · exact hb q
 have ho' : h'.get? D = some { cls := .type "list", data := .seq its.toArray n } := (hs.2 D (Nat.ne_of_lt hDC)).trans ho
 have hbase : Un (frs X.stack) (D :: fp) H H' s.heap s'.heap := I'.base
 have hfreeC : H' C = none := I'.free
 refine I.call' (ch := fp) (s' := { s' with heap := h' }) I'.os ⟨fun b o e n hb hx => ?_, fun b o e n hb hx => ?_, fun b o e n hx => ?_, fun b o e hx => ?_, fun b xs e => ?_, fun b o u e => ?_, fun b ps e => ?_⟩ (fun b u e => ?_) I'.bare (fun b hb => ?_)
 · exact (hs.2 b (nC b o e)).trans (hbase.keep b o e n hb (nx b o e hx))
 · obtain ⟨sl, q⟩ := hbase.slot b o e n hb (nx b o e hx)
   exact ⟨sl, (hs.2 b (nC b o e)).trans q⟩
 · rw [upd_ne (nD b o e)]; exact hbase.free b o e n (nx b o e hx)
 · obtain ⟨o', q⟩ := hbase.there b o e (nx b o e hx)
   exact ⟨o', (hs.2 b (nC b o e)).trans q⟩
 · rw [upd_ne (nt b _ e)]; exact hbase.tups b xs e
 · rw [upd_ne (nt b _ e)]; exact hbase.frzs b o u e
 · rw [upd_ne (nt b _ e)]; exact hbase.tbls b ps e
 · by_cases hb : b = D
   · subst hb
     rw [upd_same] at e; cases e
     exact ⟨hl, its, n, rv, ho'⟩
   · rw [upd_ne hb] at e
     refine (I'.hok b u e).stay (fun c v hc q => (hs.2 c ?_).trans q) (fun c q => ?_) fun c xs q => ?_
     · rintro rfl
       rcases hc with z | z
       · subst z; rw [hfreeC] at e; cases e
       · rw [hfreeC] at z; cases z
     · rw [upd_ne (ne_of_none q hDn)]; exact q
     · rw [upd_ne (ne_of_none q hDn)]; exact q
 · exact ⟨(hf b hb).2.2.2.1, (hf b hb).2.1, (hf b hb).2.2.2.2.1, (hf b hb).2.2.2.2.2⟩
end
def PIfs (X : Cx) (ifs : List Expr) (tc : TT) : Prop :=
 ∀ (pins : List (Addr × Obj)) (s : Shared) (σ : St) (H : Hp) (Q : Bool → Hp → Prop), Inv X pins σ H s → tc σ H Q →
   wpAny (model X.prog X.w) X.A (forIn ifs true fun c r => if r = true then do let ok ← isTrue c X.env (eval c X.env); pure (ForInStep.yield ok) else pure (ForInStep.yield r)) (TP X pins σ Q) X.xe s
def tYes : TT := fun _ H Q => Q true H
theorem pifs_nil {X : Cx} : PIfs X [] tYes := fun _ _ _ H _ I h => wpAny_tests_nil ⟨H, I, h⟩
theorem pifs_one {X : Cx} {c : Expr} {tc : TT} (hc : PT X c tc) : PIfs X [c] tc := fun pins s σ H Q I h => wpAny_tests_one (hc pins s σ H Q I h)
structure TgsOwn (g : TGs) (own : List Nat) : Prop where
 mono : ∀ v σ H (Q Q' : St → Hp → Prop), (∀ σ' H', Q σ' H' → Q' σ' H') → g v σ H Q → g v σ H Q'
 own : ∀ v σ H (Q : St → Hp → Prop), g v σ H Q → g v σ H fun σ' H' => Q σ' H' ∧ σ'.length = σ.length ∧ ∀ k, k ∉ own → σ'[k]? = σ[k]?
def TgOwn (g : TG) (own : List Nat) : Prop := ∀ v σ H (Q : St → Hp → Prop), g v σ H Q → g v σ H fun σ' H' => Q σ' H' ∧ σ'.length = σ.length ∧ ∀ k, k ∉ own → σ'[k]? = σ[k]?
theorem own_name {i : Nat} : TgOwn (gName i) [i] := fun v σ H Q h => ⟨h, List.length_set, fun k hk => List.getElem?_set_ne (fun e => hk (by simp [e]))⟩
theorem owns_nil : TgsOwn gNil [] := ⟨fun _ _ _ _ _ f h => ⟨h.1, f _ _ h.2⟩, fun v σ H Q h => ⟨h.1, h.2, rfl, fun _ _ => rfl⟩⟩
theorem owns_cons {i : Nat} {u : TGs} {own : List Nat} (hu : TgsOwn u own) : TgsOwn (gCons (gName i) u) (i :: own) where
 mono := fun vs σ H Q Q' f ⟨v, r, e, h⟩ => ⟨v, r, e, hu.mono r _ H Q Q' f h⟩
 own := fun vs σ H Q ⟨v, r, e, h⟩ => ⟨v, r, e, hu.mono r _ H _ _ (fun σ' H' q => ⟨q.1, q.2.1.trans List.length_set, fun k hk => by
   have hk' : k ∉ own := fun z => hk (List.mem_cons_of_mem _ z)
   have hki : i ≠ k := fun z => hk (by simp [z])
   rw [q.2.2 k hk', List.getElem?_set_ne hki]⟩) (hu.own r (σ.set i (some v)) H Q h)⟩
theorem own_tup {K : W.Frag} {n : Nat} {t : TGs} {own : List Nat} (ht : TgsOwn t own) : TgOwn (gTup K n t) own := fun v σ H Q ⟨a, xs, e, q, l, h⟩ => ⟨a, xs, e, q, l, ht.own xs σ H Q h⟩
def tComp (wi : TI) (ix : List (Option Nat)) (g : TG) (tc : TT) (te : TE) : TE := fun σ H Q => wi σ H fun J H1 => ∃ (n : Nat) (Pv : Nat → List V → Hp → Prop), n ≤ sizeLine ∧ Pv 0 [] H1 ∧
 (∀ i ys H2, i < n → Pv i ys H2 → J.go i H2 ∧ ∀ x H3, J.yld i H2 x H3 → g x (takes ix σ) H3 fun σ4 H4 => tc σ4 H4 fun b H5 => if b = true then te σ4 H5 fun y H6 => Pv (i + 1) (ys ++ [y]) H6 else Pv (i + 1) ys H5) ∧
 ∀ ys H2, Pv n ys H2 → J.stop n H2 ∧ ∀ D, H2 D = none → Q (.ref D) (upd H2 D (.lst ys))
section
variable {X : Cx} {elt iter tg : Expr} {ifs : List Expr} {scope : Scope} {pos : Pos} {N' : List Str} {ix : List (Option Nat)} {own : List Nat} {wi : TI} {g : TG} {tc : TT} {te : TE}
theorem comp_core {use : Option (Value → Sem Unit)} {QQ : Value → Shared → Prop} (hcalm : X.calm = true) (S : CompScope X scope N' ix) (hown : ∀ k ∈ own, ix[k]? = some none) (hi : PI X tg iter wi)
   (hg : ∀ C s₂ H₂ ex, PG (X.blk scope N' C s₂ H₂ ex) tg g) (hgo : TgOwn g own) (hc : ∀ C s₂ H₂ ex, PIfs (X.blk scope N' C s₂ H₂ ex) ifs tc) (he : ∀ C s₂ H₂ ex, PE (X.blk scope N' C s₂ H₂ ex) elt te)
   (hs : ∀ x, foldedSetIterable iter X.env x = pure x) {pins : List (Addr × Obj)} {s : Shared} {σ : St} {H : Hp} {Q : VK} (I : Inv X pins σ H s) (h : tComp wi ix g tc te σ H Q)
   (hend : ∀ (s2 : Shared) (H2 : Hp) (fp : List Addr) (C D : Addr) (s4 : Shared) (H' : Hp) (ys : List V) (its : List Value) (k : Nat) (pins' : List (Addr × Obj)) (σ' : St), Inv X pins σ H2 s2 → s2.heap.objs.size ≤ D → D < C → (∀ b ∈ fp, FpOk X pins H2 b) →
     Inv (X.blk scope N' C s2 H2 (D :: fp)) pins' σ' H' s4 → H' D = none → ys.length ≤ sizeLine → Vals ys its → s4.heap.get? D = some { cls := .type "list", data := .seq its.toArray k } → Q (.ref D) (upd H' D (.lst ys)) →
     compPost (model X.prog X.w) X.A X.xe use QQ (.ref D) C (.ok .next) s4) (p' : Pos) :
   wpAny (model X.prog X.w) X.A (comprehension (.ListComp elt [⟨tg, iter, ifs, 0⟩] scope pos) scope X.env p' (newList []) false (eval iter X.env) use) QQ X.xe s := by
 refine wpAny_comprehension_free (use := use) (cl := clOf X.env.cells scope.names []) rfl hs (closureFor_of (blk_free I S)) S.kind S.own ?_
 refine thn (hi pins s σ H _ I h) fun v s1 h1 => thn h1 fun itv s2 h2 => ?_
 obtain ⟨it, fp, tn, J, H2, e, I2, T, st2, f2, n, Pv, hn, p0, turn, fin⟩ := h2
 subst e
 refine wpAny_newObj_type (wpAny_newFunctionEnv S.cell (by intro y hy; simp at hy) (fun h₁ hns₁ hsb₁ => ?_) S.kind)
 dsimp only at hns₁ hsb₁ ⊢
 generalize hH2 : s2.heap.push { cls := .type "list", dict := none, data := .seq ([] : List Value).toArray } = G2 at hns₁ hsb₁ ⊢
 have hC : G2.objs.size = s2.heap.objs.size + 1 := by rw [← hH2, Heap.size_push]
 have hDC : s2.heap.objs.size < G2.objs.size := by rw [hC]; exact Nat.lt_succ_self _
 have hCle : s2.heap.objs.size ≤ G2.objs.size := Nat.le_of_lt hDC
 have old : ∀ b o, s2.heap.get? b = some o → h₁.get? b = some o := fun b o e => hsb₁.extBut b o (Nat.ne_of_lt (Nat.lt_trans (Heap.lt_size e) hDC)) (Heap.get?_push_of_some _ (hH2 ▸ Heap.get?_push_of_some _ e))
 have hacc : h₁.get? s2.heap.objs.size = some { cls := .type "list", data := .seq #[] } := hsb₁.extBut _ _ (Nat.ne_of_lt hDC) (Heap.get?_push_of_some _ (hH2 ▸ Heap.get?_push_size _ rfl))
 have hDn : H2 s2.heap.objs.size = none := I2.hok.fresh (Nat.le_refl _)
 have fD : ∀ b ∈ s2.heap.objs.size :: fp, FpOk X pins H2 b := fun b hb => by
   rcases List.mem_cons.mp hb with q | q
   · rw [q]; exact I2.fpOk (Nat.le_refl _) hDn
   · exact f2 b q
 have lfp : ∀ b ∈ fp, b < s2.heap.objs.size := fun b hb => by
   obtain ⟨o, ho, _⟩ := T.obj 0 _ st2 b hb
   exact Heap.lt_size ho
 have lD : ∀ b ∈ s2.heap.objs.size :: fp, b < G2.objs.size := fun b hb => by
   rcases List.mem_cons.mp hb with q | q
   · rw [q]; exact hDC
   · exact Nat.lt_trans (lfp b q) hDC
 have I3 : Inv (X.blk scope N' G2.objs.size s2 H2 (s2.heap.objs.size :: fp)) [] (takes ix σ) H2 { s2 with heap := h₁, toks := s2.toks + ([] : List (Str × Value)).length } := blk_inv I2 S hCle fD lD old hns₁
 have st3 : tn 0 h₁ := T.keep 0 _ _ st2 fun b hb o e => old b o e
 have noxE : ∀ {α : Type} {t : Sem α} {Q' : α → Shared → Prop} {E' : Value → Shared → Prop} {s' : Shared}, wpAny (model X.prog X.w) X.A t Q' (fun _ _ => False) s' → wpAny (model X.prog X.w) X.A t Q' E' s' := fun w => wpAny_mono w (fun _ _ q => q) fun _ _ z => False.elim z
 have fpB : ∀ {H' : Hp} {pins' : List (Addr × Obj)}, (∀ b ∈ s2.heap.objs.size :: fp, H' b = none) → pins' = [] → ∀ b ∈ s2.heap.objs.size :: fp, FpOk (X.blk scope N' G2.objs.size s2 H2 (s2.heap.objs.size :: fp)) pins' H' b := by
   intro H' pins' hn' hp b hb
   subst hp
   have ok := I3.ok
   exact ⟨hn' b hb, (ok.exf b hb).1, ok.exfs b hb, .inl hb, (ok.exf b hb).2, fun p hp => nomatch hp⟩
 have loop : ∀ s3 : Shared, s3 = { s2 with heap := h₁, toks := s2.toks + ([] : List (Str × Value)).length } →
     codeAny (model X.prog X.w) X.A (.compLoop (.ListComp elt [⟨tg, iter, ifs, 0⟩] scope pos) 0 (.ref it) (.ref s2.heap.objs.size) (compEnvC scope (clOf X.env.cells scope.names []) G2.objs.size X.env))
       (compPost (model X.prog X.w) X.A X.xe use QQ (.ref s2.heap.objs.size) G2.objs.size) s3 := by
   rintro s3 rfl
   refine codeAny_loop rfl (fun mm s' => ∃ i ys its k H', mm = n - i ∧ i ≤ n ∧ ys.length ≤ i ∧ Inv (X.blk scope N' G2.objs.size s2 H2 (s2.heap.objs.size :: fp)) [] (takes ix σ) H' s' ∧ tn i s'.heap ∧
       (∀ b ∈ s2.heap.objs.size :: fp, H' b = none) ∧ Vals ys its ∧ s'.heap.get? s2.heap.objs.size = some { cls := .type "list", data := .seq its.toArray k } ∧ Pv i ys H') ?_ n
     ⟨0, [], [], _, H2, rfl, Nat.zero_le _, Nat.le_refl _, I3, st3, fun b hb => (fD b hb).1, .nil, hacc, p0⟩
   rintro mm s' ⟨i, ys, its, k, H', rfl, hin, hyl, I', st', fr', rv, hob, pv⟩
   show wpAny _ X.A ((compTurn (.ListComp elt [⟨tg, iter, ifs, 0⟩] scope pos) 0 (.ref it) (.ref s2.heap.objs.size) (compEnvC scope (clOf X.env.cells scope.names []) G2.objs.size X.env)).onRaise (fun x => do noteFrame x (compEnvC scope (clOf X.env.cells scope.names []) G2.objs.size X.env); theTreesLotGoes x)) _ _ s'
   refine wpAny_noted ?_
   rw [compTurn_list]
   refine wpAny_bind (wpAny_standAt (wpAny_bind ?_))
   have fpT : ∀ b ∈ fp, FpOk (X.blk scope N' G2.objs.size s2 H2 (s2.heap.objs.size :: fp)) [] H' b := fun b hb => fpB fr' rfl b (List.mem_cons_of_mem _ hb)
   by_cases hlt : i < n
   · obtain ⟨go, step⟩ := turn i ys H' hlt pv
     refine noxE (thn (T.item (X.blk scope N' G2.objs.size s2 H2 (s2.heap.objs.size :: fp)) rfl rfl rfl hcalm i [(s2.heap.objs.size, ({ cls := .type "list", data := .seq its.toArray k } : Obj))] s' _ H' (fun _ _ => False) (I'.pins_of fun p hp => ?_) (fun b hb => ?_) st' go) fun r s4 ⟨u, hr, h4⟩ => ?_)
     · obtain rfl := List.mem_singleton.mp hp
       refine ⟨hob, fr' _ List.mem_cons_self, Nat.ne_of_lt hDC, ?_, fun v z => ?_⟩
       · exact I3.ok.exfs _ List.mem_cons_self
       · have z' : Data.seq _ _ = Data.cell v := z
         cases z'
     · obtain ⟨f0, f1, f2', f3, f4, f5⟩ := fpT b hb
       refine ⟨f0, f1, f2', f3, f4, fun p hp => ?_⟩
       obtain rfl := List.mem_singleton.mp hp
       exact Nat.ne_of_gt (lfp b hb)
     · subst hr
       refine wpAny_bind (noxE (thn h4 fun _ s5 ⟨x, H5, I5, r5, y5, st5, fr5⟩ => ?_))
       have D5 := I5.pin (s2.heap.objs.size, ({ cls := .type "list", data := .seq its.toArray k } : Obj)) (by simp [Cx.blk])
       have fr5' : ∀ b ∈ s2.heap.objs.size :: fp, H5 b = none := fun b hb => by
         rcases List.mem_cons.mp hb with q | q
         · rw [q]; exact D5.2.1
         · exact fr5 b q
       have I5' : Inv (X.blk scope N' G2.objs.size s2 H2 (s2.heap.objs.size :: fp)) ([] ++ pinsAt (s2.heap.objs.size :: fp) s5.heap) (takes ix σ) H5 s5 :=
         (I5.pins_of (pins' := []) fun p hp => nomatch hp).pinned (fpB fr5' rfl) fun b hb => by
           rcases List.mem_cons.mp hb with q | q
           · subst q
             exact ⟨_, D5.1, D5.2.2.2.2⟩
           · exact T.obj _ _ st5 b q
       refine wpAny_bind (noxE (thn (hg _ _ _ _ _ s5 _ H5 x u _ I5' r5 (hgo _ _ _ _ (step x H5 y5))) fun _ s6 ⟨σ6, H6, I6, q6, l6, k6⟩ => ?_))
       refine wpAny_bind (noxE (thn (hc _ _ _ _ _ s6 σ6 H6 _ I6 q6) fun ok s7 ⟨H7, I7, q7⟩ => ?_))
       have back : ∀ {H8 : Hp} {s8 : Shared}, Inv (X.blk scope N' G2.objs.size s2 H2 (s2.heap.objs.size :: fp)) ([] ++ pinsAt (s2.heap.objs.size :: fp) s5.heap) σ6 H8 s8 →
           Inv (X.blk scope N' G2.objs.size s2 H2 (s2.heap.objs.size :: fp)) [] (takes ix σ) H8 s8 ∧ tn (i + 1) s8.heap ∧ (∀ b ∈ s2.heap.objs.size :: fp, H8 b = none) ∧ s8.heap.get? s2.heap.objs.size = some { cls := .type "list", data := .seq its.toArray k } := by
         intro H8 s8 I8
         have hp : ∀ b ∈ s2.heap.objs.size :: fp, ∀ o, s5.heap.get? b = some o → s8.heap.get? b = some o ∧ H8 b = none := fun b hb o e =>
           let z := I8.pin (b, o) (List.mem_append_right _ (List.mem_append_right _ (mem_pinsAt hb e)))
           ⟨z.1, z.2.1⟩
         refine ⟨(I8.pins_of (pins' := []) fun p hp => nomatch hp).weak (by rw [l6]) (fun j v ej => ?_), T.keep _ _ _ st5 (fun b hb o e => (hp b (List.mem_cons_of_mem _ hb) o e).1), fun b hb => ?_, (hp _ List.mem_cons_self _ D5.1).1⟩
         · by_cases hj : j ∈ own
           · exfalso
             have e1 : (ix[j]?).map (fun o => o.bind fun j => (σ[j]?).join) = some (some v) := by rw [← List.getElem?_map]; exact ej
             rw [hown j hj] at e1
             cases e1
           · rw [k6 j hj]; exact ej
         · rcases List.mem_cons.mp hb with q | q
           · rw [q]; exact (hp _ List.mem_cons_self _ D5.1).2
           · obtain ⟨o, ho, _⟩ := T.obj _ _ st5 b q
             exact (hp b hb o ho).2
       cases ok with
       | false =>
         have q7' : Pv (i + 1) ys H7 := by simpa using q7
         obtain ⟨b1, b2, b3, b4⟩ := back I7
         exact wpAny_pure ⟨rfl, n - (i + 1), by omega, i + 1, ys, its, k, H7, rfl, hlt, Nat.le_succ_of_le hyl, b1, b2, b3, rv, b4, q7'⟩
       | true =>
         have q7' : te σ6 H7 fun y H6 => Pv (i + 1) (ys ++ [y]) H6 := by simpa using q7
         refine wpAny_bind (wpAny_bind (noxE (thn (he _ _ _ _ _ s7 σ6 H7 _ I7 q7') fun z s8 ⟨y, H8, I8, r8, q8⟩ => ?_)))
         obtain ⟨b1, b2, b3, b4⟩ := back I8
         have hsz : its.toArray.size ≤ sizeLine := by rw [List.size_toArray, ← rv.length]; omega
         refine wpAny_bind (append_at (hsz := hsz) b4 fun h9 hs9 hD9 => ?_)
         · refine wpAny_pure (wpAny_pure ⟨rfl, n - (i + 1), by omega, i + 1, ys ++ [y], its ++ [z], k + 1, H8, rfl, hlt, ?_, ?_, ?_, b3, ?_, ?_, q8⟩)
           · rw [List.length_append, List.length_singleton]; exact Nat.succ_le_succ hyl
           · have fd := fpB b3 rfl _ List.mem_cons_self
             exact b1.turned (t' := s8.toks) (fun b o hb e => hs9.extBut b o hb e) fd.1 fd.2.1 fd.2.2.2.1 fd.2.2.2.2.1 fd.2.2.2.2.2
           · exact T.keep _ _ _ b2 fun b hb o e => hs9.extBut b o (Nat.ne_of_lt (lfp b hb)) e
           · exact rv.append (.cons r8 .nil)
           · rw [hD9]; simp
   · have hieq : i = n := by omega
     subst hieq
     obtain ⟨stop, qf⟩ := fin ys H' pv
     refine noxE (thn (T.done (X.blk scope N' G2.objs.size s2 H2 (s2.heap.objs.size :: fp)) rfl rfl rfl hcalm i [(s2.heap.objs.size, ({ cls := .type "list", data := .seq its.toArray k } : Obj))] s' _ H' (fun _ _ => False) (I'.pins_of fun p hp => ?_) (fun b hb => ?_) st' stop) fun r s4 ⟨hr, I4⟩ => ?_)
     · obtain rfl := List.mem_singleton.mp hp
       refine ⟨hob, fr' _ List.mem_cons_self, Nat.ne_of_lt hDC, ?_, fun v z => ?_⟩
       · exact I3.ok.exfs _ List.mem_cons_self
       · have z' : Data.seq _ _ = Data.cell v := z
         cases z'
     · obtain ⟨f0, f1, f2', f3, f4, f5⟩ := fpT b hb
       refine ⟨f0, f1, f2', f3, f4, fun p hp => ?_⟩
       obtain rfl := List.mem_singleton.mp hp
       exact Nat.ne_of_gt (lfp b hb)
     · subst hr
       have D4 := I4.pin (s2.heap.objs.size, ({ cls := .type "list", data := .seq its.toArray k } : Obj)) (by simp [Cx.blk])
       refine wpAny_pure ?_
       exact hend s2 H2 fp _ _ s4 H' ys its k _ _ I2 (Nat.le_refl _) hDC f2 I4 D4.2.1 (Nat.le_trans hyl hn) rv D4.1 (qf _ D4.2.1)
 refine codeAny_compStart_list (loop _ rfl) (T.self X.A 0 _ _ _ st3 (loop _ rfl))
theorem pe_comp (hcalm : X.calm = true) (S : CompScope X scope N' ix) (hown : ∀ k ∈ own, ix[k]? = some none) (hi : PI X tg iter wi)
   (hg : ∀ C s₂ H₂ ex, PG (X.blk scope N' C s₂ H₂ ex) tg g) (hgo : TgOwn g own) (hc : ∀ C s₂ H₂ ex, PIfs (X.blk scope N' C s₂ H₂ ex) ifs tc) (he : ∀ C s₂ H₂ ex, PE (X.blk scope N' C s₂ H₂ ex) elt te)
   (hs : ∀ x, foldedSetIterable iter X.env x = pure x := by intro _; rfl) :
   PE X (.ListComp elt [⟨tg, iter, ifs, 0⟩] scope pos) (tComp wi ix g tc te) := by
 intro pins s σ H Q I h
 rw [eval_ListComp]
 refine comp_core (use := none) hcalm S hown hi hg hgo hc he hs I h (fun s2 H2 fp C D s4 H' ys its k pins' σ' I2 hD hDC f2 I4 hDn hl rv ho q => ?_) _
 obtain ⟨m4, hn4, _⟩ := id I4.loc
 exact ⟨m4, hn4, fun h' hs' => ⟨.ref D, upd H' D (.lst ys), blk_back I2 hD hDC f2 I4 hs' hDn hl rv ho, rfl, q⟩⟩
theorem ps_comp {i : Nat} {y : Str} {py spos : Pos} (hN : X.N.Nodup) (hyi : X.N[i]? = some y) (hyl : Loc X.env.scope y) (hcalm : X.calm = true) (S : CompScope X scope N' ix) (hown : ∀ k ∈ own, ix[k]? = some none) (hi : PI X tg iter wi)
   (hg : ∀ C s₂ H₂ ex, PG (X.blk scope N' C s₂ H₂ ex) tg g) (hgo : TgOwn g own) (hc : ∀ C s₂ H₂ ex, PIfs (X.blk scope N' C s₂ H₂ ex) ifs tc) (he : ∀ C s₂ H₂ ex, PE (X.blk scope N' C s₂ H₂ ex) elt te)
   (hsw : swapsWith (.ListComp elt [⟨tg, iter, ifs, 0⟩] scope pos) (some (.Name y py)) spos.line X.env = pure true := by rfl)
   (hs : ∀ x, foldedSetIterable iter X.env x = pure x := by intro _; rfl) (hf : X.fn y = true ∨ X.env.scope.names.lookup y = some .local := by first | exact .inl rfl | exact .inr rfl | assumption) :
   PS X (.Assign [.Name y py] (.ListComp elt [⟨tg, iter, ifs, 0⟩] scope pos) spos) (tAsg (tComp wi ix g tc te) (gName i)) := by
 intro pins s σ H D0 I h
 rw [exec_Assign_Name_used _ _ _ _ hsw]
 refine wpAny_bind (wpAny_standAt (wpAny_bind ?_))
 show wpAny _ X.A (do let _ ← comprehension (.ListComp elt [⟨tg, iter, ifs, 0⟩] scope pos) scope X.env _ (newList []) false (eval iter X.env) (some (assign (.Name y py) X.env))) _ _ s
 refine wpAny_bind (wpAny_mono (comp_core (use := some (assign (.Name y py) X.env)) (QQ := fun _ s' => SP X pins D0 .next s') hcalm S hown hi hg hgo hc he hs I h (fun s2 H2 fp C D s4 H' ys its k pins' σ' I2 hD hDC f2 I4 hDn hl rv ho q => ?_) _) (fun _ s' hq => wpAny_pure (wpAny_pure hq)) fun _ _ e => e)
 have J4 : Inv X pins σ (upd H' D (.lst ys)) s4 := blk_back I2 hD hDC f2 I4 (Heap.SameBut.refl C s4.heap) hDn hl rv ho
 obtain ⟨m4, hn4, _⟩ := id I4.loc
 have hCs : s2.heap.objs.size ≤ C := Nat.le_of_lt (Nat.lt_of_le_of_lt hD hDC)
 have cL : C ≠ X.env.locals := Nat.ne_of_gt (Nat.lt_of_lt_of_le I2.lt hCs)
 have cC : ∀ x c, X.env.cells.lookup x = some c → c ≠ C := fun x c e => by
   obtain ⟨v, q⟩ := I2.cell x c e
   exact Nat.ne_of_lt (Nat.lt_of_lt_of_le q.lt hCs)
 have cH : upd H' D (.lst ys) C = none := by rw [upd_ne (Nat.ne_of_gt hDC)]; exact I4.free
 show wpAny _ X.A (assign (.Name y py) X.env (.ref D)) _ _ s4
 refine wpAny_assign_Name (store_ok2 (v := .ref D) J4 hN hyi hyl rfl (fun s5 I5 ⟨a, sb, ha⟩ => ?_) hf)
 have ca : C ≠ a := by
   rcases ha with z | z
   · rw [z]; exact cL
   · exact fun w => cC _ _ z w.symm
 refine ⟨m4, hn4.sameBut sb ca, fun h' hs' => ?_⟩
 refine ⟨σ.set i (some (.ref D)), upd H' D (.lst ys), ?_, q⟩
 exact I5.turned (t' := s5.toks) (fun b o hb e => hs'.extBut b o hb e) cH cL (.inr (Nat.le_trans I2.sz hCs)) cC (fun p hp z => by
   have := Heap.lt_size (I2.pin p hp).1
   rw [z] at this
   exact absurd (Nat.lt_of_lt_of_le this hCs) (Nat.lt_irrefl _))
end
end L2
namespace L2
open PySem PySem.Spec PyProof.Rows
mutual
def Has (H : Hp) : V → PyData → Prop
 | v, .none => v = .non
 | v, .bool b => v = .bl b
 | v, .int i => v = .int i
 | v, .str x => v = .str x
 | v, .list ds => ∃ a xs, v = .ref a ∧ H a = some (.lst xs) ∧ HasL H xs ds
 | v, .tuple ds => ∃ a xs, v = .ref a ∧ H a = some (.tup xs) ∧ HasL H xs ds
 | _, .dict _ => False
def HasL (H : Hp) : List V → List PyData → Prop
 | xs, [] => xs = []
 | xs, d :: ds => ∃ x r, xs = x :: r ∧ Has H x d ∧ HasL H r ds
end
mutual
theorem Has.same {H H' : Hp} (e : Same H H') : ∀ {v : V} {d : PyData}, Has H v d → Has H' v d
 | v, .none, h => by unfold Has at h ⊢; exact h
 | v, .bool b, h => by unfold Has at h ⊢; exact h
 | v, .int i, h => by unfold Has at h ⊢; exact h
 | v, .str x, h => by unfold Has at h ⊢; exact h
 | v, .list ds, h => by
   unfold Has at h ⊢
   obtain ⟨a, xs, h1, h2, h3⟩ := h
   exact ⟨a, xs, h1, e _ _ h2, HasL.same e h3⟩
 | v, .tuple ds, h => by
   unfold Has at h ⊢
   obtain ⟨a, xs, h1, h2, h3⟩ := h
   exact ⟨a, xs, h1, e _ _ h2, HasL.same e h3⟩
 | v, .dict kvs, h => by unfold Has at h; exact h.elim
theorem HasL.same {H H' : Hp} (e : Same H H') : ∀ {xs : List V} {ds : List PyData}, HasL H xs ds → HasL H' xs ds
 | xs, [], h => by unfold HasL at h ⊢; exact h
 | xs, d :: ds, h => by
   unfold HasL at h ⊢
   obtain ⟨x, r, h1, h2, h3⟩ := h
   exact ⟨x, r, h1, Has.same e h2, HasL.same e h3⟩
end
theorem HasL.length {H : Hp} : ∀ {xs : List V} {ds : List PyData}, HasL H xs ds → xs.length = ds.length
 | xs, [], h => by unfold HasL at h; subst h; rfl
 | xs, d :: ds, h => by
   unfold HasL at h
   obtain ⟨x, r, rfl, h2, h3⟩ := h
   simp [HasL.length h3]
theorem HasL.get {H : Hp} : ∀ {xs : List V} {ds : List PyData} {i : Nat} {d : PyData}, HasL H xs ds → ds[i]? = some d → ∃ x, xs[i]? = some x ∧ Has H x d
 | xs, [], i, d, h, e => by simp at e
 | xs, d' :: ds, 0, d, h, e => by
   unfold HasL at h
   obtain ⟨x, r, rfl, h2, h3⟩ := h
   simp at e; subst e
   exact ⟨x, rfl, h2⟩
 | xs, d' :: ds, i + 1, d, h, e => by
   unfold HasL at h
   obtain ⟨x, r, rfl, h2, h3⟩ := h
   obtain ⟨y, h4, h5⟩ := HasL.get (i := i) h3 (by simpa using e)
   exact ⟨y, by simpa using h4, h5⟩
theorem HasL.append {H : Hp} : ∀ {xs ys : List V} {ds es : List PyData}, HasL H xs ds → HasL H ys es → HasL H (xs ++ ys) (ds ++ es)
 | xs, ys, [], es, h, h' => by unfold HasL at h; subst h; simpa using h'
 | xs, ys, d :: ds, es, h, h' => by
   unfold HasL at h
   obtain ⟨x, r, rfl, h2, h3⟩ := h
   show HasL H (x :: (r ++ ys)) (d :: (ds ++ es))
   unfold HasL
   exact ⟨x, r ++ ys, rfl, h2, HasL.append h3 h'⟩
theorem hasL_nil {H : Hp} : HasL H [] [] := by unfold HasL; rfl
theorem hasL_cons {H : Hp} {x : V} {xs : List V} {d : PyData} {ds : List PyData} (h : Has H x d) (t : HasL H xs ds) : HasL H (x :: xs) (d :: ds) := by unfold HasL; exact ⟨x, xs, rfl, h, t⟩
theorem has_int {H : Hp} (i : Int) : Has H (.int i) (.int i) := by unfold Has; rfl
theorem has_str {H : Hp} (x : Str) : Has H (.str x) (.str x) := by unfold Has; rfl
theorem has_lst {H : Hp} {a : Addr} {xs : List V} {ds : List PyData} (h : H a = some (.lst xs)) (t : HasL H xs ds) : Has H (.ref a) (.list ds) := by unfold Has; exact ⟨a, xs, rfl, h, t⟩
theorem has_tup {H : Hp} {a : Addr} {xs : List V} {ds : List PyData} (h : H a = some (.tup xs)) (t : HasL H xs ds) : Has H (.ref a) (.tuple ds) := by unfold Has; exact ⟨a, xs, rfl, h, t⟩
section
variable {X : Cx} {pins : List (Addr × Obj)} {σ : St} {H : Hp} {s : Shared}
mutual
theorem has_reads (I : Inv X pins σ H s) : ∀ {v : V} {d : PyData} {u : Value}, Has H v d → RelV v u → ∃ as, Reads s.heap u d as
 | v, .none, u, h, r => by unfold Has at h; subst h; cases (show u = Value.none from r); exact ⟨_, .none⟩
 | v, .bool b, u, h, r => by unfold Has at h; subst h; cases (show u = Value.bool b from r); exact ⟨_, .bool b⟩
 | v, .int i, u, h, r => by unfold Has at h; subst h; obtain ⟨t, rfl⟩ := r; exact ⟨_, .int i t⟩
 | v, .str x, u, h, r => by unfold Has at h; subst h; obtain ⟨t, rfl⟩ := r; exact ⟨_, .str x t⟩
 | v, .list ds, u, h, r => by
   unfold Has at h
   obtain ⟨a, xs, rfl, h2, h3⟩ := h
   cases (show u = Value.ref a from r)
   obtain ⟨z, its, n, rv, e⟩ := (show ObjOk X.prog X.w H s.heap a (.lst xs) from I.hok a _ h2)
   obtain ⟨as, ra⟩ := hasL_reads I h3 rv
   exact ⟨_, .list e rfl rfl (by simpa using ra)⟩
 | v, .tuple ds, u, h, r => by
   unfold Has at h
   obtain ⟨a, xs, rfl, h2, h3⟩ := h
   cases (show u = Value.ref a from r)
   obtain ⟨z, its, rv, p⟩ := (show ObjOk X.prog X.w H s.heap a (.tup xs) from I.hok a _ h2)
   obtain ⟨o, e, c, n, d⟩ := p
   obtain ⟨as, ra⟩ := hasL_reads I h3 rv
   exact ⟨_, .tuple e c d (by simpa using ra)⟩
 | v, .dict kvs, u, h, r => by unfold Has at h; exact h.elim
theorem hasL_reads (I : Inv X pins σ H s) : ∀ {xs : List V} {ds : List PyData} {us : List Value}, HasL H xs ds → Vals xs us → ∃ as, ReadsAll s.heap us ds as
 | xs, [], us, h, r => by
   unfold HasL at h
   subst h
   cases Vals.zero r
   exact ⟨_, .nil⟩
 | xs, d :: ds, us, h, r => by
   unfold HasL at h
   obtain ⟨x, rr, rfl, h2, h3⟩ := h
   cases r with
   | cons r1 r2 =>
     obtain ⟨as, a1⟩ := has_reads I h2 r1
     obtain ⟨bs, a2⟩ := hasL_reads I h3 r2
     exact ⟨_, .cons a1 a2⟩
end
def rNeD : R2 := fun x y H Q => ∃ d e, Has H x d ∧ Has H y e ∧ SeqAt.shaped d = true ∧ SeqAt.shaped e = true ∧ Q (.bl (!PyData.eqv d e)) H
theorem op_neD (hu : X.A.units + 64 < cLine) : OpR X (compareOp .NotEq) rNeD := by
 rintro pins s σ H x y v u Q I rx ry ⟨d, e, h1, h2, s1, s2, q⟩
 obtain ⟨as, r1⟩ := has_reads I h1 rx
 obtain ⟨bs, r2⟩ := has_reads I h2 ry
 exact ne_dataH r1 r2 s1 s2 hu ⟨.bl _, H, I, rfl, q⟩
end
structure Callee (P : Program) (w : World) (K : W.Frag) (mg : Str → Option Value) (base : Heap) (k : Nat) (x : Str) (ps : List Str) (sp : Sp) : Prop where
 ex : ∃ f fd, FnOk P w K mg base CX0 k f fd ps sp ∧ mg x = some (.ref f) ∧ W.keepIn K (.ref f) = true ∧ Binds K fd ps []
section
variable {X : Cx} {k : Nat} {x : Str} {ps : List Str} {sp : Sp} {e : Expr} {es : List Expr} {t : TA} {p pos : Pos}
theorem pe_fn (C : Callee X.prog X.w X.K X.mg X.base k x ps sp) (hr : Room k X.A) (ha : PA X (e :: es) t) (hg : Gl X x := by rfl) (hdb : (x == ("__debug__" : Str)) = false := by decide)
   (he : starEach (e :: es) X.env = (false, eval e X.env) :: starEach es X.env := by rfl) (hpl : (backTo pos (starEach es X.env)).any (·.1) = false := by rfl) :
   PE X (.Call (.Name x p) (e :: es) [] pos) (tCall sp [] E0 t) := by
 obtain ⟨f, fd, F, hm, hk, hb⟩ := C.ex
 exact pe_call F hr hg hm hk hb .nil pass0 ha hdb he hpl
end
def visB (o : Option NameKind) : Bool := o == some .local || o == some .cell || o == some .free
def compOk (osc : Scope) (ON : List Str) (scope : Scope) (N' : List Str) (ix : List (Option Nat)) : Bool :=
 scope.kind == .function && scope.names.all (fun y => y.2 != .cell) && scope.names.all (fun y => y.2 != .local || scope.names.lookup y.1 == some .local) &&
 scope.names.all (fun y => y.2 != .free || (osc.names.lookup y.1 == some .cell || osc.names.lookup y.1 == some .free)) &&
 scope.names.all (fun y => y.2 != .local || !(scope.names.any fun z => z.1 == y.1 && z.2 == .free)) && ix.length == N'.length &&
 (List.range ix.length).all fun i => match ix[i]? with
   | some (some j) => ON[j]? == N'[i]? && (match N'[i]? with | some x => (scope.names.any fun z => z.1 == x && z.2 == .free) && visB (osc.names.lookup x) | none => true)
   | _ => true
theorem cs_of {X : Cx} {osc : Scope} {ON : List Str} {scope : Scope} {N' : List Str} {ix : List (Option Nat)} (h1 : X.env.scope = osc) (h2 : X.N = ON) (h : compOk osc ON scope N' ix = true) : CompScope X scope N' ix := by
 unfold compOk at h
 simp only [Bool.and_eq_true] at h
 obtain ⟨⟨⟨⟨⟨⟨a1, a2⟩, a3⟩, a4⟩, a5⟩, a6⟩, a7⟩ := h
 rw [List.all_eq_true] at a2 a3 a4 a5 a7
 refine ⟨eq_of_beq a1, fun y hy => by simpa using a2 y hy, fun y hy hl => ?_, fun y hy hl => ?_, fun x h3 h4 => ?_, eq_of_beq a6, fun i j hij => ?_⟩
 · have := a3 y hy
   rw [hl] at this
   simpa using this
 · have := a4 y hy
   rw [hl] at this
   have e : X.env.kindOf y.1 = osc.names.lookup y.1 := by rw [← h1]; rfl
   rw [e]
   simpa using this
 · have := a5 _ h3
   simp only [bne_self_eq_false, Bool.false_or, Bool.not_eq_true'] at this
   rw [List.any_eq_false] at this
   have z := this _ h4
   simp at z
 · have hi : i < ix.length := (List.getElem?_eq_some_iff.mp hij).1
   have := a7 i (List.mem_range.mpr hi)
   rw [hij] at this
   simp only [Bool.and_eq_true] at this
   obtain ⟨b1, b2⟩ := this
   refine ⟨by rw [h2]; exact eq_of_beq b1, fun x hx => ?_⟩
   rw [hx] at b2
   simp only [Bool.and_eq_true] at b2
   obtain ⟨c1, c2⟩ := b2
   obtain ⟨z, hz, hz2⟩ := List.any_eq_true.mp c1
   simp only [Bool.and_eq_true, beq_iff_eq] at hz2
   obtain ⟨z1, z2⟩ := z
   obtain ⟨rfl, rfl⟩ := hz2
   refine ⟨hz, ?_⟩
   unfold visB at c2
   simp only [Bool.or_eq_true, beq_iff_eq] at c2
   unfold Vis
   rw [h1]
   rcases c2 with (c2 | c2) | c2
   · exact .inl c2
   · exact .inr (.inl c2)
   · exact .inr (.inr c2)
theorem Same.new {H : Hp} {p : Addr} {o : HO} (h : H p = none) : Same H (upd H p o) := fun b u e => by rw [upd_ne (ne_of_none e h)]; exact e
theorem Same.tup {K : W.Frag} {H H' : Hp} (e : Same H H') {a : Addr} {xs : List V} (h : SqT K H a xs) : SqT K H' a xs := by
 rcases h with (h | ⟨o, h⟩) | h
 · exact .inl (.inl (e _ _ h))
 · exact .inl (.inr ⟨o, e _ _ h⟩)
 · exact .inr h
theorem SqT.ofT {K : W.Frag} {H : Hp} {a : Addr} {xs : List V} (h : H a = some (.tup xs)) : SqT K H a xs := .inl (.inl h)
theorem SqL.ofL {K : W.Frag} {H : Hp} {a : Addr} {xs : List V} (h : H a = some (.lst xs)) : SqL K H a xs := .inl (.inl h)
theorem rd_yes {σ : St} {H : Hp} {Q : Bool → Hp → Prop} (h : Q true H) : tYes σ H Q := h
theorem rd_name {i : Nat} {v : V} {σ : St} {H : Hp} {Q : St → Hp → Prop} (h : Q (σ.set i (some v)) H) : gName i v σ H Q := h
end L2
namespace L2
open PySem PySem.Spec PyProof.Rows
section
variable {X : Cx}
def rEq0 (K : W.Frag) : R2 := fun x y H Q => ∃ a b xs, x = .ref a ∧ y = .ref b ∧ SqL K H a xs ∧ SqL K H b [] ∧ Q (.bl xs.isEmpty) H
def rNe0 (K : W.Frag) : R2 := fun x y H Q => ∃ a b xs, x = .ref a ∧ y = .ref b ∧ SqL K H a xs ∧ SqL K H b [] ∧ Q (.bl (!xs.isEmpty)) H
theorem op_eq0 (hu : X.A.units < cLine) : OpR X (compareOp .Eq) (rEq0 X.K) := by
 rintro pins s σ H x y v u Q I rx ry ⟨a, b, xs, rfl, rfl, ha, hb, q⟩
 cases rx; cases ry
 obtain ⟨its, r1, p1, _⟩ := I.list ha
 obtain ⟨its2, r2, p2, _⟩ := I.list hb
 cases Vals.zero r2
 by_cases h : xs = []
 · subst h
   cases Vals.zero r1
   exact SeqAt.RcAt.lists (e := fun _ => true) p1.isList p2.isList rfl hu (fun j h1 _ => absurd h1 (by simp)) _ _ _ _ ⟨.bl true, H, I, rfl, q⟩
 · have e : xs.isEmpty = false := by simpa using h
   rw [e] at q
   have hl := r1.length
   refine SeqAt.RcAt.lists_lengths p1.isList p2.isList ?_ hu _ _ _ _ ⟨.bl false, H, I, rfl, q⟩
   have : xs.length ≠ 0 := fun z => h (List.length_eq_zero_iff.mp z)
   simp; intro z; subst z; simp at hl; exact this (by simpa using hl)
theorem op_ne0 (hu : X.A.units < cLine) : OpR X (compareOp .NotEq) (rNe0 X.K) := by
 rintro pins s σ H x y v u Q I rx ry ⟨a, b, xs, rfl, rfl, ha, hb, q⟩
 cases rx; cases ry
 obtain ⟨its, r1, p1, _⟩ := I.list ha
 obtain ⟨its2, r2, p2, _⟩ := I.list hb
 cases Vals.zero r2
 by_cases h : xs = []
 · subst h
   cases Vals.zero r1
   exact SeqAt.RcNeAt.lists (e := fun _ => true) p1.isList p2.isList rfl hu (fun j h1 _ => absurd h1 (by simp)) _ _ _ _ ⟨.bl false, H, I, rfl, q⟩
 · have e : xs.isEmpty = false := by simpa using h
   rw [e] at q
   have hl := r1.length
   refine SeqAt.RcNeAt.lists_lengths p1.isList p2.isList ?_ hu _ _ _ _ ⟨.bl true, H, I, rfl, q⟩
   have : xs.length ≠ 0 := fun z => h (List.length_eq_zero_iff.mp z)
   simp; intro z; subst z; simp at hl; exact this (by simpa using hl)
end
end L2
namespace L2
open PySem PySem.Spec PyProof.Rows
def plainE : Expr → Bool
 | .Starred _ _ => false
 | _ => true
theorem star_of {e : Expr} {es : List Expr} {env : Env} (h : plainE e = true) : starEach (e :: es) env = (false, eval e env) :: starEach es env := by
 cases e <;> first | rfl | (exact absurd (show false = true from h) Bool.false_ne_true)
structure PAs (X : Cx) (es : List Expr) (t : TA) : Prop where
 pa : PA X es t
 st : ∀ env, starEach es env = es.map fun e => (false, eval e env)
section
variable {X : Cx} {e : Expr} {es : List Expr} {te : TE} {t : TA} {pos p : Pos} {x : Str} {k : Nat} {ps : List Str} {sp : Sp} {id T : String} {r : List V → Hp → VK → Prop}
theorem as_nil : PAs X [] tNil := ⟨pa_nil, fun _ => rfl⟩
theorem as_cons (ha : PE X e te) (hr : PAs X es t) (hp : plainE e = true := by rfl) : PAs X (e :: es) (tCons te t) :=
 ⟨pa_cons ha hr.pa (star_of hp), fun env => by rw [star_of hp, hr.st]; rfl⟩
theorem back_any (pos : Pos) (env : Env) : ∀ es : List Expr, (backTo pos (es.map fun e => (false, eval e env))).any (·.1) = false
 | [] => rfl
 | e :: es => by
   show (false || (backTo pos (es.map fun e => (false, eval e env))).any (·.1)) = false
   rw [back_any pos env es]; rfl
theorem PAs.he (h : PAs X (e :: es) t) (ht : ∀ env, starEach es env = es.map fun e => (false, eval e env)) : starEach (e :: es) X.env = (false, eval e X.env) :: starEach es X.env := by
 rw [h.st, ht]; rfl
structure PAt (X : Cx) (e : Expr) (es : List Expr) (t : TA) : Prop where
 all : PAs X (e :: es) t
 tl : ∀ env, starEach es env = es.map fun e => (false, eval e env)
theorem at_cons (ha : PE X e te) (hr : PAs X es t) (hp : plainE e = true := by rfl) : PAt X e es (tCons te t) := ⟨as_cons ha hr hp, hr.st⟩
theorem as_lst (h : PAs X es t) : PE X (.List es pos) (tLst t) := pe_lst h.pa
theorem as_tup {x1} (h : PAs X es t) : PE X (.Tuple es x1 pos) (tTup t) := pe_tup h.pa
theorem as_fn (C : Callee X.prog X.w X.K X.mg X.base k x ps sp) (hr : Room k X.A) (ha : PAt X e es t) (hg : Gl X x := by rfl) (hdb : (x == ("__debug__" : Str)) = false := by decide) :
   PE X (.Call (.Name x p) (e :: es) [] pos) (tCall sp [] E0 t) := pe_fn C hr ha.all.pa hg hdb (ha.all.he ha.tl) (by rw [ha.tl]; exact back_any _ _ _)
theorem as_callB (hc : CallR X (.builtin id) r) (hg : Gl X x) (hm : X.mg x = none) (hv : bootBuiltins x = some (.builtin id)) (ha : PAt X e es t) (hn : x ≠ "__name__" := by decide) (hdb : (x == ("__debug__" : Str)) = false := by decide) :
   PE X (.Call (.Name x p) (e :: es) [] pos) (tCB r t) := pe_callB hc hg hm hv ha.all.pa hn hdb (ha.all.he ha.tl) (by rw [ha.tl]; exact back_any _ _ _)
theorem as_callTy (hc : CallR X (.type T) r) (hg : Gl X x) (hm : X.mg x = none) (hv : bootBuiltins x = some (.type T)) (ha : PAt X e es t) (hn : x ≠ "__name__" := by decide) (hdb : (x == ("__debug__" : Str)) = false := by decide) :
   PE X (.Call (.Name x p) (e :: es) [] pos) (tCB r t) := pe_callTy hc hg hm hv ha.all.pa hn hdb (ha.all.he ha.tl) (by rw [ha.tl]; exact back_any _ _ _)
end
section
variable {X : Cx} {e a : Expr} {te : TE} {tg : Expr} (K : W.Frag)
theorem k_sl_list (h : X.K = K := by rfl) : SlR X (rSlL K) := h ▸ sl_list
theorem k_ix_list (h : X.K = K := by rfl) : IxR X (rIxL K) := h ▸ ix_list
theorem k_ix_tup (h : X.K = K := by rfl) : IxR X (rIxT K) := h ▸ ix_tup
theorem k_in_seq (h : X.K = K := by rfl) : OpR X (compareOp .In) (rIn K false) := h ▸ op_in_seq
theorem k_len_seq (h : X.K = K := by rfl) : CallR X (.builtin "len") (fun xs H Q => ∃ p ys, xs = [.ref p] ∧ (SqL K H p ys ∨ SqT K H p ys) ∧ Q (.int ys.length) H) := h ▸ call_len_seq
theorem k_list_of (h : X.K = K := by rfl) : CallR X (.type "list") (fun xs H Q => ∃ p ys, xs = [.ref p] ∧ (SqL K H p ys ∨ SqT K H p ys) ∧ ∀ l, H l = none → Q (.ref l) (upd H l (.lst ys))) := h ▸ call_list_of
theorem k_eq0 (hu : X.A.units < cLine) (h : X.K = K := by rfl) : OpR X (compareOp .Eq) (rEq0 K) := h ▸ op_eq0 hu
theorem k_ne0 (hu : X.A.units < cLine) (h : X.K = K := by rfl) : OpR X (compareOp .NotEq) (rNe0 K) := h ▸ op_ne0 hu
theorem k_it_list (he : PE X e te) (h : X.K = K := by rfl) : PI X tg e (iList K te) := h ▸ pi_list he
theorem k_fld {f : Str} {pos : Pos} (he : PE X e te) (hb : attributeBase e f X.env (eval e X.env) = eval e X.env) (h : X.K = K := by rfl) : PE X (.Attribute e f pos) (tFld K te f) := h ▸ pe_fld he hb
theorem k_tup {es : List Expr} {k : Nat} {t : TGs} {n : Nat} {pos : Pos} (hc : X.calm = true) (hs : PGs X es t) (h : X.K = K := by rfl)
   (hn : (assignEach es X.env).length = n := by rfl) (hst : (assignEach es X.env).findIdx? (·.1) = none := by rfl) : PG X (.Tuple es k pos) (gTup K n t) := h ▸ pg_tup hc hs hn hst
theorem k_bm {o : Expr} {es : List Expr} {to : TE} {t : TA} {name : Str} {apos cpos : Pos} {T id : String} {r : V → List V → Hp → VK → Prop} (pa : PlainAttrs T) (slot : Slot T name id) (hty : typeOf (.builtin id) = pure (.type "method_descriptor")) (hm : MtR X id r) (ho : PE X o to) (ha : PA X (e :: es) t) (h : X.K = K := by rfl)
   (hbase : attributeBase o name X.env (eval o X.env) = eval o X.env := by rfl)
   (hfew : ((backTo cpos (starEach (e :: es) X.env)).all (fun x => !x.1) && (backToKw cpos (keywordEach [] X.env)).all (fun x => x.1.isSome)
     && decide ((e :: es).length + ([] : List Keyword).length + (if ([] : List Keyword).isEmpty then 0 else 1) < 30)) = true := by rfl)
   (hline : (apos.endLine == cpos.line) = true := by rfl) (hs : starEach (e :: es) X.env = (false, eval e X.env) :: starEach es X.env := by rfl) (hplain : (backTo cpos (starEach es X.env)).any (·.1) = false := by rfl) :
   PE X (.Call (.Attribute o name apos) (e :: es) [] cpos) (tBM K T r to t) := h ▸ pe_bm pa slot hty hm ho ha hbase hfew hline hs hplain
end
end L2
namespace L2
open PySem PySem.Spec PyProof.Rows
section
variable {X : Cx} {pins : List (Addr × Obj)} {σ : St} {H : Hp} {s : Shared}
theorem Inv.track {D : Addr} {o : HO} (I : Inv X pins σ H s) (f : FpOk X pins H D) (ok : ObjOk X.prog X.w (upd H D o) s.heap D o) : Inv X pins σ (upd H D o) s := by
 obtain ⟨f0, f1, f2, f3, f4, f5⟩ := f
 have nt : ∀ b u, H b = some u → b ≠ D := fun b u e => ne_of_none e f0
 have r := I.step (H' := upd H D o) (h' := s.heap) (g' := s.gens) (d' := s.drawn) (t' := s.toks) (ch := [D]) (fun b hb => by
     obtain rfl : b = D := by simpa using hb
     exact ⟨f3, f1, f4, f5⟩) (fun b ob _ _ _ e _ => e) (fun b ob _ _ _ e _ => ⟨ob.slots, e⟩)
   (fun b ob hb _ n => by rw [upd_ne (fun z => hb (by simp [z]))]; exact n) (fun b ob _ e => ⟨ob, e⟩) (fun b xs e => by rw [upd_ne (nt b _ e)]; exact e) (fun b ob u e => by rw [upd_ne (nt b _ e)]; exact e)
   (fun b ps e => ⟨#[], by rw [upd_ne (nt b _ e), e]; simp⟩) (fun m hm => hm) (fun b u e => by
     by_cases hb : b = D
     · subst hb; rw [upd_same] at e; cases e; exact ok
     · rw [upd_ne hb] at e
       exact (I.hok b u e).stay (fun c v _ q => q) (fun c q => by rw [upd_ne (nt c _ q)]; exact q) fun c xs q => by rw [upd_ne (nt c _ q)]; exact q) I.bare
 exact r
end
end L2
namespace L2
open PySem PySem.Spec PyProof.Rows
def Coll (X : Cx) (x : V) (H : Hp) (xs : List V) : Prop :=
 ∀ (pins : List (Addr × Obj)) (s : Shared) (σ : St) (v : Value) (A : Around) (E : Value → Shared → Prop) (Q : List Value → Shared → Prop), Inv X pins σ H s → RelV x v → A.handled = none →
   (∀ vs s', Vals xs vs → Inv X pins σ H s' → Q vs s') → wpAny (model X.prog X.w) A (collect v) Q E s
section
variable {X : Cx}
theorem coll_list {a : Addr} {H : Hp} {xs : List V} (h : SqL X.K H a xs) : Coll X (.ref a) H xs := by
 intro pins s σ v A E Q I r hh hq
 cases r
 obtain ⟨its, rv, pl, hz⟩ := I.list h
 refine collect_list pl.isList (hq its _ rv ?_) (by rw [← rv.length]; exact hz)
 refine I.kept (t' := s.toks) fun b o e => ?_
 have hb : b ≠ s.heap.objs.size := Nat.ne_of_lt (Heap.lt_size e)
 exact (Heap.get?_update_other _ _ (Ne.symm hb)).trans (Heap.get?_push_of_some _ e)
def ValsO (p d : Addr) : HO := .ext fun h => h.IsValuesView p d
def rValues : V → List V → Hp → VK → Prop := fun x vs H Q => ∃ d kvs, x = .ref d ∧ vs = [] ∧ H d = some (.dK kvs) ∧ ∀ p, H p = none → Q (.ref p) (upd H p (ValsO p d))
theorem mt_values : MtM X "dict.values" rValues := by
 intro pins s σ H x vs v us Q I rx rv h
 obtain ⟨d, kvs, rfl, rfl, hd, q⟩ := h
 cases rx
 cases Vals.zero rv
 obtain ⟨hz, lo, ws, rk, hD⟩ := (show ObjOk X.prog X.w H s.heap d (.dK kvs) from I.hok d _ hd)
 refine call_meetsIn PySem.F.slot_dict_values hD.typeIs PySem.F.entry_dict_values (PySem.F.args_dict_values_1 _) (meets_dict_values (mixKind X.prog X.w) d lo) ⟨⟨ws, hD⟩, ?_⟩
 refine ⟨.ref s.heap.objs.size, _, I.laid (t' := s.toks) (o := ValsO s.heap.objs.size d) (fun b u e => Heap.get?_push_of_some _ e) (Nat.le_refl _) ?_, rfl, q _ (I.hok.fresh (Nat.le_refl _))⟩
 have e : (s.heap.push { cls := .type "dict_values", data := .fields #[.ref d] }).get? s.heap.objs.size = some { cls := .type "dict_values", data := .fields #[.ref d] } := Heap.get?_push_size _ rfl
 exact ⟨⟨_, e, rfl, rfl⟩, ⟨_, e⟩, fun h1 h2 ⟨o, e1, c, dd⟩ k => ⟨o, k o e1, c, dd⟩⟩
theorem kv_vals : ∀ {kvs : List (Key × V)} {ws : List (Key × Value)}, KV kvs ws → Vals (kvs.map (·.2)) (ws.map (·.2))
 | _, _, .nil => .nil
 | _, _, .cons r t => .cons r.2 (kv_vals t)
theorem view_at {pins : List (Addr × Obj)} {σ : St} {H : Hp} {s : Shared} {p d : Addr} {kvs : List (Key × V)} (I : Inv X pins σ H s) (hp : H p = some (ValsO p d)) (hd : H d = some (.dK kvs)) :
   ∃ ws ep, KV kvs ws ∧ kvs.length ≤ sizeLine ∧ s.heap.IsValuesView p d ∧ s.heap.DictAt (mixKind X.prog X.w) d ws ep := by
 obtain ⟨hz, lo, ws, rk, hD⟩ := (show ObjOk X.prog X.w H s.heap d (.dK kvs) from I.hok d _ hd)
 obtain ⟨hv, _, _⟩ := (show ObjOk X.prog X.w H s.heap p (ValsO p d) from I.hok p _ hp)
 obtain ⟨ep, hat⟩ := hD.dictAt
 exact ⟨ws, ep, rk, hz, hv, hat⟩
theorem items_vals {ws : List (Key × Value)} {acc : Array Value} (h : ItemsOf (fun i v => ∃ k, ws[i]? = some (k, v)) acc ws.length) : acc.toList = ws.map (·.2) :=
 W.kdl_vals_eq acc.toList (by rw [Array.length_toList]; exact h.1) fun j v e => h.2 j v (by rw [← Array.getElem?_toList]; exact e)
theorem coll_vals {p d : Addr} {H : Hp} {kvs : List (Key × V)} (hp : H p = some (ValsO p d)) (hd : H d = some (.dK kvs)) : Coll X (.ref p) H (kvs.map (·.2)) := by
 intro pins s σ v A E Q I r hh hq
 cases r
 obtain ⟨ws, ep, rk, hz, hv, hat⟩ := view_at I hp hd
 have hl : kvs.length = ws.length := Paired.length rk
 have kp : ∀ b o, s.heap.get? b = some o → (s.heap.push (seqObj "list" #[] 0)).get? b = some o := fun b o e => Heap.get?_push_of_some _ e
 have hv' : (s.heap.push (seqObj "list" #[] 0)).IsValuesView p d := let ⟨o, e, x⟩ := hv; ⟨o, kp _ _ e, x⟩
 have hat' : (s.heap.push (seqObj "list" #[] 0)).DictAt (mixKind X.prog X.w) d ws ep := hat.at' fun o e => kp _ _ e
 have lp : p < s.heap.objs.size := let ⟨o, e, _⟩ := hv; Heap.lt_size e
 have ld : d < s.heap.objs.size := hat.lt_size
 unfold collect
 refine wpAny_bind (wpAny_runValue (codeAny_builtin entry_proto_collect' ?_))
 show wpAny _ _ (do again (.builtin "list.__iadd__" ⟨[← newList [], .ref p], []⟩)) _ _ s
 refine wpAny_bind (wpAny_newList (wpAny_pure ⟨Code.quiet_builtin _ (by decide +kernel), codeAny_builtin entry_list_iadd' ?_⟩))
 show wpAny _ _ (Builtin.List.listExtendWith (.ref s.heap.objs.size) (.ref p) (.ref s.heap.objs.size)) _ _ { s with heap := s.heap.push (seqObj "list" #[] 0) }
 rw [Around.under_plainId (show plainId "list.__iadd__" = true by decide +kernel) _]
 have fin : ∀ s' : Shared, (∃ acc c, s'.heap.get? s.heap.objs.size = some { cls := .type "list", dict := none, data := .seq acc c, slots := #[] } ∧ acc.toList = ws.map (·.2) ∧ Inv X pins σ H s') →
     wpAny (model X.prog X.w) A (do
       let o ← load s.heap.objs.size
       match o.data with
       | .seq xs _ => pure xs.toList
       | _ => unsupported "internal:collect") Q E s' := by
   rintro s' ⟨acc, c, hS, e, I'⟩
   refine wpAny_bind (wpAny_load hS ?_)
   show wpAny _ _ (pure acc.toList) Q E _
   exact wpAny_pure (hq _ _ (by rw [e]; exact kv_vals rk) I')
 refine wpAny_mono (W.kdl_extend (R := fun r s' => r = .ok (.ret (.ref s.heap.objs.size)) ∧ ∃ acc c, s'.heap.get? s.heap.objs.size = some { cls := .type "list", dict := none, data := .seq acc c, slots := #[] } ∧ acc.toList = ws.map (·.2) ∧ Inv X pins σ H s')
   (s := { s with heap := s.heap.push (seqObj "list" #[] 0) }) (W.kdl_values (knd := mixKind X.prog X.w) (kvs := ws) (ep := ep)) hh ⟨hv', hat'⟩ s.heap.objs.size (Nat.ne_of_gt lp) (Nat.ne_of_gt ld) _ 0 (Heap.get?_push_size _ rfl) (fun h' tk acc c hk hS hacc => ?_) (show ws.length ≤ sizeLine by omega))
   (fun fi s' hf => ?_) (fun e s' he => nomatch he.1)
 · exact ⟨rfl, acc, c, hS, items_vals hacc, I.kept fun b o eb => hk b o (Nat.ne_of_lt (Heap.lt_size eb)) (kp b o eb)⟩
 · cases fi with
   | done f =>
     obtain ⟨e, g⟩ := hf
     cases e
     exact fin s' g
   | again c' =>
     refine ⟨hf.1, codeAny_mono hf.2 fun r s2 ⟨e, g⟩ => ?_⟩
     subst e
     exact fin s2 g
end
def spItem (i : Nat) : Sp := fun vs H Q _ => ∃ a x y z, vs = [.ref a] ∧ H a = some (.tup [x, y, z]) ∧ Q ([x, y, z].getD i .non) H
def CollV (K : W.Frag) (x : V) (H : Hp) (xs : List V) : Prop :=
 (∃ a, x = .ref a ∧ SqL K H a xs) ∨ ∃ p d kvs, x = .ref p ∧ H p = some (ValsO p d) ∧ H d = some (.dK kvs) ∧ xs = kvs.map (·.2)
theorem CollV.coll {X : Cx} {x : V} {H : Hp} {xs : List V} (h : CollV X.K x H xs) : Coll X x H xs := by
 rcases h with ⟨a, rfl, h⟩ | ⟨p, d, kvs, rfl, hp, hd, rfl⟩
 · exact coll_list h
 · exact coll_vals hp hd
theorem Vals.back : ∀ {xs : List V} {vs : List Value} {i : Nat} {v : Value}, Vals xs vs → vs[i]? = some v → ∃ x, xs[i]? = some x ∧ RelV x v
 | _, _, _, _, .nil, e => by simp at e
 | _, _, 0, _, .cons r _, e => by simp at e; subst e; exact ⟨_, rfl, r⟩
 | _, _, i + 1, v, .cons _ t, e => by
   obtain ⟨u, h1, h2⟩ := Vals.back (i := i) (v := v) t (by simpa using e)
   exact ⟨u, by simpa using h1, h2⟩
end L2
namespace L2
open PySem
structure Msg where
 n : Int
 t : Str
 x : Str
deriving DecidableEq
def Rise (l : List Msg) : Prop := l.Pairwise fun p q => p.n < q.n
theorem Rise.nil : Rise [] := List.Pairwise.nil
theorem rise_ext : ∀ {l r : List Msg}, Rise l → Rise r → (∀ m, m ∈ l ↔ m ∈ r) → l = r
 | [], [], _, _, _ => rfl
 | [], b :: r, _, _, h => absurd ((h b).mpr List.mem_cons_self) List.not_mem_nil
 | a :: l, [], _, _, h => absurd ((h a).mp List.mem_cons_self) List.not_mem_nil
 | a :: l, b :: r, h1, h2, h => by
   obtain ⟨a1, a2⟩ := List.pairwise_cons.mp h1
   obtain ⟨b1, b2⟩ := List.pairwise_cons.mp h2
   have e : a = b := by
     rcases List.mem_cons.mp ((h a).mp List.mem_cons_self) with e | e
     · exact e
     · rcases List.mem_cons.mp ((h b).mpr List.mem_cons_self) with e' | e'
       · exact e'.symm
       · have := a1 b e'; have := b1 a e; omega
   subst e
   refine congrArg (a :: ·) (rise_ext a2 b2 fun m => ⟨fun hm => ?_, fun hm => ?_⟩)
   · rcases List.mem_cons.mp ((h m).mp (List.mem_cons_of_mem _ hm)) with e | e
     · subst e; have := a1 m hm; omega
     · exact e
   · rcases List.mem_cons.mp ((h m).mpr (List.mem_cons_of_mem _ hm)) with e | e
     · subst e; have := b1 m hm; omega
     · exact e
def Top (ms : List Msg) (m : Msg) : Prop := m ∈ ms ∧ ∀ k ∈ ms, k.t = m.t → k.n ≤ m.n
def Lasts (ms ls : List Msg) : Prop := Rise ls ∧ ∀ m, m ∈ ls ↔ Top ms m
theorem Top.perm {ms ms' : List Msg} {m : Msg} (h : ms.Perm ms') : Top ms m ↔ Top ms' m :=
 ⟨fun ⟨a, b⟩ => ⟨h.mem_iff.mp a, fun k hk => b k (h.mem_iff.mpr hk)⟩, fun ⟨a, b⟩ => ⟨h.mem_iff.mpr a, fun k hk => b k (h.mem_iff.mp hk)⟩⟩
theorem Lasts.perm {ms ms' ls : List Msg} (h : ms.Perm ms') (l : Lasts ms ls) : Lasts ms' ls := ⟨l.1, fun m => (l.2 m).trans (Top.perm h)⟩
theorem Lasts.uniq {ms l r : List Msg} (h1 : Lasts ms l) (h2 : Lasts ms r) : l = r := rise_ext h1.1 h2.1 fun m => (h1.2 m).trans (h2.2 m).symm
def Diff (ms : List Msg) : Prop := (ms.map (·.n)).Nodup
theorem Rise.diff {l : List Msg} (h : Rise l) : Diff l := by
 unfold Diff List.Nodup
 rw [List.pairwise_map]
 exact h.imp fun hlt => Int.ne_of_lt hlt
theorem Diff.perm {l r : List Msg} (h : l.Perm r) (d : Diff l) : Diff r := (h.map _).nodup_iff.mp d
theorem Diff.eq : ∀ {ms : List Msg}, Diff ms → ∀ {a b : Msg}, a ∈ ms → b ∈ ms → a.n = b.n → a = b
 | [], _, a, b, ha, _, _ => absurd ha List.not_mem_nil
 | m :: ms, d, a, b, ha, hb, e => by
   unfold Diff at d
   rw [List.map_cons, List.nodup_cons] at d
   rcases List.mem_cons.mp ha with h1 | h1 <;> rcases List.mem_cons.mp hb with h2 | h2
   · rw [h1, h2]
   · exact absurd (List.mem_map.mpr ⟨b, h2, by rw [← e, h1]⟩) d.1
   · exact absurd (List.mem_map.mpr ⟨a, h1, by rw [e, h2]⟩) d.1
   · exact Diff.eq d.2 h1 h2 e
section
variable {α β : Type}
def putD (D : List (Str × α)) (t : Str) (d : α) : List (Str × α) := if D.any (fun p => decide (p.1 = t)) = true then D.map fun p => if p.1 = t then (p.1, d) else p else D ++ [(t, d)]
theorem len_putD (D : List (Str × α)) (t : Str) (d : α) : (putD D t d).length ≤ D.length + 1 := by
 unfold putD
 split
 · rw [List.length_map]; omega
 · rw [List.length_append]; exact Nat.le_refl _
def puts (D : List (Str × α)) (l : List (Str × α)) : List (Str × α) := l.foldl (fun D p => putD D p.1 p.2) D
theorem puts_snoc (D l : List (Str × α)) (p : Str × α) : puts D (l ++ [p]) = putD (puts D l) p.1 p.2 := by unfold puts; rw [List.foldl_append]; rfl
theorem len_puts : ∀ (l D : List (Str × α)), (puts D l).length ≤ D.length + l.length
 | [], D => by show D.length ≤ _; omega
 | p :: l, D => by
   have h1 := len_puts l (putD D p.1 p.2)
   have h2 := len_putD D p.1 p.2
   show (puts (putD D p.1 p.2) l).length ≤ _
   rw [List.length_cons]; omega
end
def kM (m : Msg) : Str × Msg := (m.t, m)
def newest (ms : List Msg) : List (Str × Msg) := puts [] (ms.map kM)
theorem newest_snoc (ms : List Msg) (m : Msg) : newest (ms ++ [m]) = putD (newest ms) m.t m := by unfold newest; rw [List.map_append, List.map_singleton, puts_snoc]; rfl
theorem newest_len (ms : List Msg) : (newest ms).length ≤ ms.length := by
 have := len_puts (ms.map kM) []
 rw [List.length_map] at this
 simpa [newest] using this
end L2
namespace L2
open PySem PySem.Spec PyProof.Rows PySem.W
section
variable {X : Cx}
theorem k_bm0 (K : W.Frag) {o : Expr} {to : TE} {name : Str} {apos cpos : Pos} {T id : String} {r : V → List V → Hp → VK → Prop} (pa : PlainAttrs T) (slot : Slot T name id) (hty : typeOf (.builtin id) = pure (.type "method_descriptor")) (hm : MtR X id r) (ho : PE X o to) (h : X.K = K := by rfl)
   (hbase : attributeBase o name X.env (eval o X.env) = eval o X.env := by rfl) (hline : (apos.endLine == cpos.line) = true := by rfl) : PE X (.Call (.Attribute o name apos) [] [] cpos) (tBM0 K T r to) := h ▸ pe_bm0 pa slot hty hm ho hbase hline
end
def mD (m : Msg) : PyData := .tuple [.int m.n, .str m.t, .str m.x]
def mT (m : Msg) : HO := .tup [.int m.n, .str m.t, .str m.x]
def mOk (m : Msg) : Prop := PyData.strOk m.t = true ∧ PyData.strOk m.x = true
theorem has_msg {H : Hp} {v : V} {m : Msg} (h : Has H v (mD m)) : ∃ c, v = .ref c ∧ H c = some (mT m) := by
 unfold mD Has at h
 obtain ⟨a, xs, rfl, h1, h2⟩ := h
 unfold HasL at h2
 obtain ⟨x1, r1, rfl, e1, h2⟩ := h2
 unfold HasL at h2
 obtain ⟨x2, r2, rfl, e2, h2⟩ := h2
 unfold HasL at h2
 obtain ⟨x3, r3, rfl, e3, h2⟩ := h2
 unfold HasL at h2
 subst h2
 unfold Has at e1 e2 e3
 subst e1 e2 e3
 exact ⟨a, rfl, h1⟩
theorem msg_has {H : Hp} {c : Addr} {m : Msg} (h : H c = some (mT m)) : Has H (.ref c) (mD m) := has_tup h (hasL_cons (has_int _) (hasL_cons (has_str _) (hasL_cons (has_str _) hasL_nil)))
def Ms (H : Hp) (xs : List V) (ms : List Msg) : Prop := HasL H xs (ms.map mD)
theorem Ms.same {H H' : Hp} {xs : List V} {ms : List Msg} (h : Ms H xs ms) (e : Same H H') : Ms H' xs ms := HasL.same e h
theorem Ms.nil {H : Hp} : Ms H [] [] := hasL_nil
theorem Ms.len {H : Hp} {xs : List V} {ms : List Msg} (h : Ms H xs ms) : xs.length = ms.length := by have := HasL.length h; rw [List.length_map] at this; exact this
theorem Ms.append {H : Hp} {xs ys : List V} {ms ns : List Msg} (h : Ms H xs ms) (h' : Ms H ys ns) : Ms H (xs ++ ys) (ms ++ ns) := by unfold Ms; rw [List.map_append]; exact HasL.append h h'
theorem Ms.one {H : Hp} {c : Addr} {m : Msg} (h : H c = some (mT m)) : Ms H [.ref c] [m] := hasL_cons (msg_has h) hasL_nil
theorem Ms.get {H : Hp} {xs : List V} {ms : List Msg} (h : Ms H xs ms) {i : Nat} (hi : i < ms.length) : ∃ c, xs[i]? = some (.ref c) ∧ H c = some (mT ms[i]) := by
 obtain ⟨x, e, hx⟩ := HasL.get (i := i) (d := mD ms[i]) h (by rw [List.getElem?_map, List.getElem?_eq_getElem hi]; rfl)
 obtain ⟨c, rfl, hc⟩ := has_msg hx
 exact ⟨c, e, hc⟩
theorem Ms.cons_iff {H : Hp} {x : V} {xs : List V} {ms : List Msg} : Ms H (x :: xs) ms ↔ ∃ m r, ms = m :: r ∧ Has H x (mD m) ∧ Ms H xs r := by
 cases ms with
 | nil =>
   constructor
   · intro h; unfold Ms at h; rw [List.map_nil] at h; unfold HasL at h; exact absurd h (by simp)
   · rintro ⟨m, r, e, _⟩; exact absurd e (by simp)
 | cons m r =>
   constructor
   · intro h
     unfold Ms at h; rw [List.map_cons] at h; unfold HasL at h
     obtain ⟨x', r', e, h1, h2⟩ := h
     cases e
     exact ⟨m, r, rfl, h1, h2⟩
   · rintro ⟨m', r', e, h1, h2⟩
     cases e
     exact hasL_cons h1 h2
theorem Ms.head {H : Hp} {x : V} {xs : List V} {m : Msg} {r : List Msg} (h : Ms H (x :: xs) (m :: r)) : Has H x (mD m) ∧ Ms H xs r := by
 obtain ⟨m', r', e, h1, h2⟩ := Ms.cons_iff.mp h
 cases e
 exact ⟨h1, h2⟩
theorem Ms.take {H : Hp} : ∀ {xs : List V} {ms : List Msg} (n : Nat), Ms H xs ms → Ms H (xs.take n) (ms.take n)
 | [], [], n, h => by simpa using Ms.nil
 | [], m :: r, n, h => by have := h.len; simp at this
 | x :: xs, [], n, h => by have := h.len; simp at this
 | x :: xs, m :: r, 0, h => by simpa using Ms.nil
 | x :: xs, m :: r, n + 1, h => hasL_cons h.head.1 (Ms.take n h.head.2)
theorem Ms.drop {H : Hp} : ∀ {xs : List V} {ms : List Msg} (n : Nat), Ms H xs ms → Ms H (xs.drop n) (ms.drop n)
 | [], [], n, h => by simpa using Ms.nil
 | [], m :: r, n, h => by have := h.len; simp at this
 | x :: xs, [], n, h => by have := h.len; simp at this
 | x :: xs, m :: r, 0, h => h
 | x :: xs, m :: r, n + 1, h => Ms.drop n h.head.2
theorem lay_ms : ∀ {ms : List Msg}, (∀ m ∈ ms, mOk m) → PyData.canLayAll0 (ms.map mD) = true
 | [], _ => by simp [PyData.canLayAll0]
 | m :: r, h => by
   obtain ⟨h1, h2⟩ := h m List.mem_cons_self
   simp [PyData.canLayAll0, PyData.canLay0, mD, h1, h2, lay_ms fun k hk => h k (List.mem_cons_of_mem _ hk)]
theorem depth_ms : ∀ ms : List Msg, PyData.depthAll (ms.map mD) ≤ 3
 | [] => by simp [PyData.depthAll]
 | m :: r => by
   have := depth_ms r
   simp only [List.map_cons, PyData.depthAll, PyData.depth, mD]
   omega
theorem shaped_ms {ms : List Msg} (h : ∀ m ∈ ms, mOk m) : SeqAt.shaped (.list (ms.map mD)) = true := by
 have h1 := depth_ms ms
 have h2 : PyData.depth (.list (ms.map mD)) ≤ 64 := by simp only [PyData.depth]; omega
 show (PyData.canLay0 (.list (ms.map mD)) && decide (PyData.depth (.list (ms.map mD)) ≤ 64)) = true
 rw [Bool.and_eq_true]
 exact ⟨by simp only [PyData.canLay0]; exact lay_ms h, decide_eq_true h2⟩
theorem eqv_ms {ms : List Msg} (h : ∀ m ∈ ms, mOk m) : PyData.eqv (.list (ms.map mD)) (.list (ms.map mD)) = true :=
 SeqAt.eqv_refl _ (by simp only [PyData.canLay0]; exact lay_ms h)
theorem ne_ms {H : Hp} {a b : Addr} {xs ys : List V} {ms : List Msg} {Q : VK} (ha : H a = some (.lst xs)) (hx : Ms H xs ms) (hb : H b = some (.lst ys)) (hy : Ms H ys ms) (ok : ∀ m ∈ ms, mOk m) (q : Q (.bl false) H) : rNeD (.ref a) (.ref b) H Q := by
 refine ⟨_, _, has_lst ha hx, has_lst hb hy, shaped_ms ok, shaped_ms ok, ?_⟩
 rw [eqv_ms ok]; exact q
inductive DM (H : Hp) : List (Key × V) → List (Str × Msg) → Prop
 | nil : DM H [] []
 | cons {t : Str} {v : V} {m : Msg} {r : List (Key × V)} {D : List (Str × Msg)} : Has H v (mD m) → DM H r D → DM H ((Sum.inr t, v) :: r) ((t, m) :: D)
theorem DM.same {H H' : Hp} (e : Same H H') : ∀ {kvs : List (Key × V)} {D : List (Str × Msg)}, DM H kvs D → DM H' kvs D
 | _, _, .nil => .nil
 | _, _, .cons h t => .cons (h.same e) (DM.same e t)
theorem DM.len {H : Hp} : ∀ {kvs : List (Key × V)} {D : List (Str × Msg)}, DM H kvs D → kvs.length = D.length
 | _, _, .nil => rfl
 | _, _, .cons _ t => by rw [List.length_cons, List.length_cons, DM.len t]
theorem DM.ms {H : Hp} : ∀ {kvs : List (Key × V)} {D : List (Str × Msg)}, DM H kvs D → Ms H (kvs.map (·.2)) (D.map (·.2))
 | _, _, .nil => Ms.nil
 | _, _, .cons h t => hasL_cons h (DM.ms t)
theorem DM.any {H : Hp} (t : Str) : ∀ {kvs : List (Key × V)} {D : List (Str × Msg)}, DM H kvs D → (kvs.any fun kv => decide (kv.1 = Sum.inr t)) = D.any fun p => decide (p.1 = t)
 | _, _, .nil => rfl
 | _, _, .cons (t := t') h r => by
   rw [List.any_cons, List.any_cons, DM.any t r]
   congr 1
   exact decide_eq_decide.mpr ⟨fun z => Sum.inr.inj z, fun z => congrArg Sum.inr z⟩
theorem DM.repl {H : Hp} (t : Str) {v : V} {m : Msg} (h : Has H v (mD m)) : ∀ {kvs : List (Key × V)} {D : List (Str × Msg)}, DM H kvs D → DM H (kvs.map fun kv => if kv.1 = Sum.inr t then (kv.1, v) else kv) (D.map fun p => if p.1 = t then (p.1, m) else p)
 | _, _, .nil => .nil
 | _, _, .cons (t := t') h' r => by
   rw [List.map_cons, List.map_cons]
   by_cases e : t' = t
   · rw [if_pos (by rw [e]), if_pos e]; exact .cons h (DM.repl t h r)
   · rw [if_neg (fun z => e (by injection z)), if_neg e]; exact .cons h' (DM.repl t h r)
theorem DM.snoc {H : Hp} (t : Str) {v : V} {m : Msg} (h : Has H v (mD m)) : ∀ {kvs : List (Key × V)} {D : List (Str × Msg)}, DM H kvs D → DM H (kvs ++ [(Sum.inr t, v)]) (D ++ [(t, m)])
 | _, _, .nil => .cons h .nil
 | _, _, .cons h' r => .cons h' (DM.snoc t h r)
theorem DM.put {H : Hp} (t : Str) {v : V} {m : Msg} (h : Has H v (mD m)) {kvs : List (Key × V)} {D : List (Str × Msg)} (d : DM H kvs D) : DM H (putK kvs (Sum.inr t) v) (putD D t m) := by
 unfold putK putD
 rw [d.any t]
 split
 · exact d.repl t h
 · exact d.snoc t h
end L2
namespace L2
open PySem PySem.Spec PyProof.Rows PySem.W
theorem Same.put {H H' : Hp} (e : Same H H') {p : Addr} {o : HO} (h : H p = none) : Same H (upd H' p o) := fun b u hb => by
 rw [upd_ne (fun z => by rw [z, h] at hb; cases hb)]; exact e b u hb
theorem flat_strs : ∀ l : List Str, (l.map V.str).all flatV = true
 | [] => rfl
 | _ :: l => by rw [List.map_cons, List.all_cons, flat_strs l]; rfl
theorem in_strs (t : Str) : ∀ l : List Str, inV (.str t) (l.map V.str) = decide (t ∈ l)
 | [] => rfl
 | x :: l => by
   unfold inV
   rw [List.map_cons, List.any_cons]
   have ih := in_strs t l
   unfold inV at ih
   rw [ih]
   have e : eqV (.str x) (.str t) = decide (t = x) := by
     show (x == t) = _
     by_cases h : x = t
     · subst h; simp
     · rw [decide_eq_false (fun z => h z.symm)]; simpa using h
   rw [e]
   by_cases h1 : t = x <;> by_cases h2 : t ∈ l <;> simp [h1, h2]
theorem flt_succ {α : Type} {ms : List α} {i : Nat} (hi : i < ms.length) {b : α → Bool} : (ms.take (i + 1)).filter b = (ms.take i).filter b ++ if b ms[i] = true then [ms[i]] else [] := by
 rw [List.take_add_one, List.getElem?_eq_getElem hi, List.filter_append]
 show _ ++ List.filter b [ms[i]] = _
 rw [List.filter_cons]; rfl
def TopV (K : W.Frag) (H : Hp) (tv : V) (ts : Option (List Str)) : Prop := (tv = .non ∧ ts = none) ∨ ∃ b l, tv = .ref b ∧ SqL K H b (l.map V.str) ∧ ts = some l
theorem TopV.same {K : W.Frag} {H H' : Hp} {tv : V} {ts : Option (List Str)} (h : TopV K H tv ts) (e : Same H H') : TopV K H' tv ts := by
 rcases h with h | ⟨b, l, h1, h2, h3⟩
 · exact .inl h
 · exact .inr ⟨b, l, h1, e.seq h2, h3⟩
def ofT : Option (List Str) → List Msg → List Msg
 | none, ms => ms
 | some l, ms => ms.filter fun m => decide (m.t ∈ l)
def spOfT (K : W.Frag) : Sp := fun vs H Q _ => ∃ a xs ms tv ts, vs = [.ref a, tv] ∧ H a = some (.lst xs) ∧ Ms H xs ms ∧ ms.length < 64 ∧ TopV K H tv ts ∧
 ∀ p ys H', Same H H' → H p = none → H' p = some (.lst ys) → Ms H' ys (ofT ts ms) → Q (.ref p) H'
mutual
def noLst : PyData → Bool
 | .list _ => false
 | .dict _ => false
 | .tuple ds => noLstA ds
 | _ => true
def noLstA : List PyData → Bool
 | [] => true
 | d :: ds => noLst d && noLstA ds
end
theorem noLst_ms : ∀ ms : List Msg, noLstA (ms.map mD) = true
 | [] => by simp [noLstA]
 | m :: r => by simp [noLstA, noLst, mD, noLst_ms r]
end L2
namespace L2
open PySem PySem.Spec PyProof.Rows PySem.W
def Rows (ms : List Msg) : Prop := ∀ i (h : i < ms.length), ms[i].n = (i : Int) + 1
theorem Rows.nil : Rows [] := fun i h => absurd h (by simp)
theorem Rows.snoc {ms : List Msg} {m : Msg} (h : Rows ms) (e : m.n = (ms.length : Int) + 1) : Rows (ms ++ [m]) := by
 intro i hi
 rw [List.length_append, List.length_singleton] at hi
 by_cases hl : i < ms.length
 · rw [List.getElem_append_left hl]; exact h i hl
 · have e' : i = ms.length := by omega
   subst e'
   rw [List.getElem_append_right (Nat.le_refl _)]
   simpa using e
theorem Rows.rise {ms : List Msg} (h : Rows ms) : Rise ms := by
 refine List.pairwise_iff_getElem.mpr fun i j hi hj hij => ?_
 rw [h i hi, h j hj]; omega
end L2
namespace L2
open PySem PySem.Spec PyProof.Rows PySem.W
structure CalleeM (P : Program) (w : World) (K : W.Frag) (mg : Str → Option Value) (base : Heap) (k : Nat) (C : Addr) (m : Str) (ps : List Str) (sp : Sp) : Prop where
 ex : ∃ f fd, FnOk P w K mg base CX0 k f fd ps sp ∧ Meth K C m f ∧ Binds K fd ps []
structure CalleeI (P : Program) (w : World) (K : W.Frag) (mg : Str → Option Value) (base : Heap) (k : Nat) (C : Addr) (ps : List Str) (sp : Sp) : Prop where
 ex : ∃ f fd, FnOk P w K mg base CX0 k f fd ps sp ∧ Mk K C f ∧ Binds K fd ps []
section
variable {X : Cx} {k : Nat} {C : Addr} {m x : Str} {ps : List Str} {sp : Sp} {o e : Expr} {es : List Expr} {ta tv : TE} {t : TA} {p apos pos pos' : Pos}
theorem as_meth {pl : Sem Bool} (M : CalleeM X.prog X.w X.K X.mg X.base k C m ps sp) (c : Cls X.K C) (hr : Room k X.A) (he : PE X o ta) (ha : PAt X e es t)
   (ht : eval (.Call (.Attribute o m apos) (e :: es) [] pos) X.env = (do
     let ov ← eval o X.env
     standAt apos.atName
     let (f, first) ← holding [ov] (getMethod ov m pl)
     callWith pos f first (backTo pos (starEach (e :: es) X.env)) (backToKw pos (keywordEach [] X.env))) := by rfl) :
   PE X (.Call (.Attribute o m apos) (e :: es) [] pos) (tMeth C m sp [] E0 ta t) := by
 obtain ⟨f, fd, F, hm, hb⟩ := M.ex
 exact pe_meth (pl := pl) he c hm F hr hb .nil pass0 ha.all.pa (ha.all.he ha.tl) (by rw [ha.tl]; exact back_any _ _ _) ht
theorem as_meth0 {pl : Sem Bool} (M : CalleeM X.prog X.w X.K X.mg X.base k C m ps sp) (c : Cls X.K C) (hr : Room k X.A) (he : PE X o ta)
   (ht : eval (.Call (.Attribute o m apos) [] [] pos) X.env = (do
     let ov ← eval o X.env
     standAt apos.atName
     let (f, first) ← holding [ov] (getMethod ov m pl)
     callWith pos f first (backTo pos (starEach [] X.env)) (backToKw pos (keywordEach [] X.env))) := by rfl) :
   PE X (.Call (.Attribute o m apos) [] [] pos) (tMeth C m sp [] E0 ta tNil) := by
 obtain ⟨f, fd, F, hm, hb⟩ := M.ex
 exact pe_meth0 (pl := pl) he c hm F hr hb .nil pass0 ht
theorem as_make (M : CalleeI X.prog X.w X.K X.mg X.base k C ps sp) (hr : Room (k + 1) X.A) (hm : X.mg x = some (.ref C)) (ha : PAt X e es t) (hg : Gl X x := by rfl) (hdb : (x == ("__debug__" : Str)) = false := by decide) :
   PE X (.Call (.Name x p) (e :: es) [] pos) (tMake C sp [] E0 t) := by
 obtain ⟨f, fd, F, hM, hb⟩ := M.ex
 exact pe_make hM F hr hg hm hb .nil pass0 ha.all.pa hdb (ha.all.he ha.tl) (by rw [ha.tl]; exact back_any _ _ _)
theorem as_make0 (M : CalleeI X.prog X.w X.K X.mg X.base k C ps sp) (hr : Room (k + 1) X.A) (hm : X.mg x = some (.ref C)) (hg : Gl X x := by rfl) (hdb : (x == ("__debug__" : Str)) = false := by decide) :
   PE X (.Call (.Name x p) [] [] pos) (tMake C sp [] E0 tNil) := by
 obtain ⟨f, fd, F, hM, hb⟩ := M.ex
 exact pe_make0 hM F hr hg hm hb .nil pass0 hdb
theorem k_sfld (K : W.Frag) {value : Expr} {f : Str} (ha : PE X o ta) (hv : PE X value tv) (hs : swapsWith value (some (.Attribute o f pos')) pos.line X.env = pure false) (h : X.K = K := by rfl) : PS X (.Assign [.Attribute o f pos'] value pos) (sFld K ta tv f) := h ▸ ps_fld ha hv hs
end
theorem lk_hit {f : Str} {v : V} {r : List (Str × V)} : List.lookup f ((f, v) :: r) = some v := by simp [List.lookup]
theorem lk_miss {f g : Str} {v : V} {r : List (Str × V)} (h : ¬ f = g) : List.lookup f ((g, v) :: r) = List.lookup f r := by
 have hb : (f == g) = false := beq_eq_false_iff_ne.mpr h
 simp [List.lookup, hb]
theorem pf_hit {f : Str} {v x : V} {r : List (Str × V)} : putF f v ((f, x) :: r) = (f, v) :: r := by
 show (if f = f then _ else _) = _
 rw [if_pos rfl]
theorem pf_miss {f g : Str} {v x : V} {r : List (Str × V)} (h : ¬ g = f) : putF f v ((g, x) :: r) = (g, x) :: putF f v r := by
 show (if g = f then _ else _) = _
 rw [if_neg h]
def Tups (H H' : Hp) : Prop := ∀ c xs, H c = some (.tup xs) → H' c = some (.tup xs)
theorem Same.tups {H H' : Hp} (e : Same H H') : Tups H H' := fun c xs h => e _ _ h
theorem Tups.refl (H : Hp) : Tups H H := fun _ _ h => h
theorem Tups.trans {H H' H'' : Hp} (a : Tups H H') (b : Tups H' H'') : Tups H H'' := fun c xs h => b _ _ (a _ _ h)
theorem Tups.put {H H' : Hp} (a : Tups H H') {g : Addr} {u o : HO} (h : H' g = some u) (hn : ∀ xs, u ≠ .tup xs) : Tups H (upd H' g o) := fun c xs hc => by
 have h1 := a _ _ hc
 rw [upd_ne (fun e => by rw [e, h] at h1; exact hn xs (Option.some.inj h1))]; exact h1
theorem Tups.new {H H' : Hp} (a : Tups H H') {g : Addr} {o : HO} (h : H' g = none) : Tups H (upd H' g o) := fun c xs hc => by
 have h1 := a _ _ hc
 rw [upd_ne (ne_of_none h1 h)]; exact h1
mutual
theorem Has.tups {H H' : Hp} (e : Tups H H') : ∀ {v : V} {d : PyData}, noLst d = true → Has H v d → Has H' v d
 | v, .none, _, h => by unfold Has at h ⊢; exact h
 | v, .bool b, _, h => by unfold Has at h ⊢; exact h
 | v, .int i, _, h => by unfold Has at h ⊢; exact h
 | v, .str x, _, h => by unfold Has at h ⊢; exact h
 | v, .list ds, n, h => by unfold noLst at n; cases n
 | v, .tuple ds, n, h => by
   unfold noLst at n
   unfold Has at h ⊢
   obtain ⟨a, xs, h1, h2, h3⟩ := h
   exact ⟨a, xs, h1, e _ _ h2, HasL.tups e n h3⟩
 | v, .dict kvs, n, h => by unfold noLst at n; cases n
theorem HasL.tups {H H' : Hp} (e : Tups H H') : ∀ {xs : List V} {ds : List PyData}, noLstA ds = true → HasL H xs ds → HasL H' xs ds
 | xs, [], _, h => by unfold HasL at h ⊢; exact h
 | xs, d :: ds, n, h => by
   unfold noLstA at n
   rw [Bool.and_eq_true] at n
   unfold HasL at h ⊢
   obtain ⟨x, r, h1, h2, h3⟩ := h
   exact ⟨x, r, h1, Has.tups e n.1 h2, HasL.tups e n.2 h3⟩
end
theorem Ms.tups {H H' : Hp} {xs : List V} {ms : List Msg} (h : Ms H xs ms) (e : Tups H H') : Ms H' xs ms := HasL.tups e (noLst_ms ms) h
theorem noLst_m (m : Msg) : noLst (mD m) = true := by simp [noLst, noLstA, mD]
theorem DM.tups {H H' : Hp} (e : Tups H H') : ∀ {kvs : List (Key × V)} {D : List (Str × Msg)}, DM H kvs D → DM H' kvs D
 | _, _, .nil => .nil
 | _, _, .cons h t => .cons (h.tups e (noLst_m _)) (DM.tups e t)
def But (ps : List Addr) (H H' : Hp) : Prop := ∀ c o, H c = some o → c ∉ ps → H' c = some o
def lastK (k : Int) (all : List Msg) : List Msg := all.drop (all.length - k.toNat)
theorem lastK_len (k : Int) (all : List Msg) : (lastK k all).length = min all.length k.toNat := by unfold lastK; rw [List.length_drop]; omega
theorem lastK_small {k : Int} {all : List Msg} {m : Msg} (h : all.length + 1 ≤ k.toNat) : lastK k (all ++ [m]) = lastK k all ++ [m] := by
 unfold lastK
 rw [List.length_append, List.length_singleton, show all.length + 1 - k.toNat = 0 by omega, show all.length - k.toNat = 0 by omega]; rfl
theorem lastK_full {k : Int} {all : List Msg} {m : Msg} (h : k.toNat ≤ all.length) : lastK k (all ++ [m]) = (lastK k all ++ [m]).drop 1 := by
 unfold lastK
 rw [List.length_append, List.length_singleton]
 rw [← List.drop_append_of_le_length (by omega), List.drop_drop]
 congr 1
 omega
def tF (k r n : Int) (s d : Addr) : List (Str × V) := [("keep", .int k), ("turn", .int r), ("total", .int n), ("stored", .ref s), ("newest", .ref d)]
section
variable {k r n : Int} {s d : Addr}
theorem tF_keep : (tF k r n s d).lookup ("keep" : Str) = some (V.int k) := lk_hit
theorem tF_total : (tF k r n s d).lookup ("total" : Str) = some (V.int n) := (lk_miss (by decide +kernel)).trans ((lk_miss (by decide +kernel)).trans lk_hit)
theorem tF_stored : (tF k r n s d).lookup ("stored" : Str) = some (V.ref s) := (lk_miss (by decide +kernel)).trans ((lk_miss (by decide +kernel)).trans ((lk_miss (by decide +kernel)).trans lk_hit))
theorem tF_newest : (tF k r n s d).lookup ("newest" : Str) = some (V.ref d) := (lk_miss (by decide +kernel)).trans ((lk_miss (by decide +kernel)).trans ((lk_miss (by decide +kernel)).trans ((lk_miss (by decide +kernel)).trans lk_hit)))
theorem tF_no {f : Str} (h1 : ¬ f = "keep") (h2 : ¬ f = "turn") (h3 : ¬ f = "total") (h4 : ¬ f = "stored") (h5 : ¬ f = "newest") : (tF k r n s d).lookup f = none :=
 (lk_miss h1).trans ((lk_miss h2).trans ((lk_miss h3).trans ((lk_miss h4).trans (lk_miss h5))))
theorem tF_make : putF "newest" (.ref d) (putF "stored" (.ref s) (putF "total" (.int n) (putF "turn" (.int r) (putF "keep" (.int k) [])))) = tF k r n s d := by
 show putF "newest" (.ref d) (putF "stored" (.ref s) (putF "total" (.int n) (putF "turn" (.int r) [("keep", .int k)]))) = _
 rw [pf_miss (by decide +kernel)]
 show putF "newest" (.ref d) (putF "stored" (.ref s) (putF "total" (.int n) [("keep", .int k), ("turn", .int r)])) = _
 rw [pf_miss (by decide +kernel), pf_miss (by decide +kernel)]
 show putF "newest" (.ref d) (putF "stored" (.ref s) [("keep", .int k), ("turn", .int r), ("total", .int n)]) = _
 rw [pf_miss (by decide +kernel), pf_miss (by decide +kernel), pf_miss (by decide +kernel)]
 show putF "newest" (.ref d) [("keep", .int k), ("turn", .int r), ("total", .int n), ("stored", .ref s)] = _
 rw [pf_miss (by decide +kernel), pf_miss (by decide +kernel), pf_miss (by decide +kernel), pf_miss (by decide +kernel)]
 rfl
theorem tF_setTotal {n' : Int} : putF "total" (.int n') (tF k r n s d) = tF k r n' s d := by
 unfold tF
 rw [pf_miss (by decide +kernel), pf_miss (by decide +kernel), pf_hit]
end
structure TAt (C : Addr) (H : Hp) (p : Addr) (k r : Int) (all : List Msg) (s d : Addr) : Prop where
 ob : ∃ dx, H p = some (.ins C dx (tF k r (all.length : Int) s d))
 st : ∃ ys, H s = some (.lst ys) ∧ Ms H ys (lastK k all)
 nw : ∃ kvs, H d = some (.dK kvs) ∧ DM H kvs (newest all)
theorem TAt.same {C : Addr} {H H' : Hp} {p : Addr} {k r : Int} {all : List Msg} {s d : Addr} (h : TAt C H p k r all s d) (e : Same H H') : TAt C H' p k r all s d := by
 obtain ⟨⟨dx, h1⟩, ⟨ys, h2, h3⟩, ⟨kvs, h4, h5⟩⟩ := h
 exact ⟨⟨dx, e _ _ h1⟩, ⟨ys, e _ _ h2, h3.same e⟩, ⟨kvs, e _ _ h4, h5.same e⟩⟩
theorem TAt.but {C : Addr} {H H' : Hp} {p p' : Addr} {k r k' r' : Int} {all all' : List Msg} {s d s' d' : Addr} (h : TAt C H p k r all s d) (h' : TAt C H p' k' r' all' s' d') (hp : p ≠ p') (hs : s ≠ s') (hd : d ≠ d') (e : But [p', s', d'] H H') : TAt C H' p k r all s d := by
 obtain ⟨⟨dx, h1⟩, ⟨ys, h2, h3⟩, ⟨kvs, h4, h5⟩⟩ := h
 obtain ⟨⟨dx', g1⟩, ⟨ys', g2, g3⟩, ⟨kvs', g4, g5⟩⟩ := h'
 have tp : Tups H H' := fun c xs hc => e c _ hc (by
   have a1 := ne_of hc g1 (by intro z; cases z)
   have a2 := ne_of hc g2 (by intro z; cases z)
   have a3 := ne_of hc g4 (by intro z; cases z)
   simp [a1, a2, a3])
 refine ⟨⟨dx, e _ _ h1 ?_⟩, ⟨ys, e _ _ h2 ?_, h3.tups tp⟩, ⟨kvs, e _ _ h4 ?_, h5.tups tp⟩⟩
 · have a2 := ne_of h1 g2 (by intro z; cases z)
   have a3 := ne_of h1 g4 (by intro z; cases z)
   simp [hp, a2, a3]
 · have a1 := ne_of h2 g1 (by intro z; cases z)
   have a3 := ne_of h2 g4 (by intro z; cases z)
   simp [a1, hs, a3]
 · have a1 := ne_of h4 g1 (by intro z; cases z)
   have a2 := ne_of h4 g2 (by intro z; cases z)
   simp [a1, a2, hd]
theorem TAt.tups {C : Addr} {H H' : Hp} {p : Addr} {k r : Int} {all : List Msg} {s d : Addr} (h : TAt C H p k r all s d) (e : But [p, s, d] H H') : Tups H H' := by
 obtain ⟨⟨dx, g1⟩, ⟨ys, g2, g3⟩, ⟨kvs, g4, g5⟩⟩ := h
 exact fun c xs hc => e c _ hc (by
   have a1 := ne_of hc g1 (by intro z; cases z)
   have a2 := ne_of hc g2 (by intro z; cases z)
   have a3 := ne_of hc g4 (by intro z; cases z)
   simp [a1, a2, a3])
structure TellerC (K : W.Frag) (mg : Str → Option Value) (C : Addr) : Prop where
 cl_Teller : Cls K C
 mg_Teller : mg "Teller" = some (.ref C)
 n_keep : NoAttr K C "keep"
 n_turn : NoAttr K C "turn"
 n_total : NoAttr K C "total"
 n_stored : NoAttr K C "stored"
 n_newest : NoAttr K C "newest"
def spInitT (C : Addr) : Sp := fun vs H Q _ => ∃ (p dx : Addr) (k : Int), vs = [.ref p, .int k] ∧ H p = some (.ins C dx []) ∧
 ∀ s d H', H s = none → H d = none → TAt C H' p k 0 [] s d → (∀ b o, H b = some o → b ≠ p → H' b = some o) → Q .non H'
def spTell (C : Addr) : Sp := fun vs H Q _ => ∃ p t x k r all s d, vs = [.ref p, .str t, .str x] ∧ TAt C H p k r all s d ∧ all.length < 60 ∧ 0 ≤ k ∧
 ∀ H', TAt C H' p k r (all ++ [⟨(all.length : Int) + 1, t, x⟩]) s d → But [p, s, d] H H' → Q (.int ((all.length : Int) + 1)) H'
def spTold (C : Addr) : Sp := fun vs H Q _ => ∃ p k r all s d, vs = [.ref p] ∧ TAt C H p k r all s d ∧ Q (.int (all.length : Int)) H
def spOldest (C : Addr) : Sp := fun vs H Q _ => ∃ p k r all s d, vs = [.ref p] ∧ TAt C H p k r all s d ∧ Q (.int ((all.length : Int) - ((lastK k all).length : Int) + 1)) H
def spGreater : Sp := fun vs H Q _ => ∃ a xs ms n, vs = [.ref a, .int n] ∧ H a = some (.lst xs) ∧ Ms H xs ms ∧ ms.length < 64 ∧ ∀ p ys H', Same H H' → H p = none → H' p = some (.lst ys) → Ms H' ys (ms.filter fun m => decide (m.n > n)) → Q (.ref p) H'
def missedF (k n : Int) (all : List Msg) : Int := if (all.length : Int) - ((lastK k all).length : Int) + 1 - 1 - n > 0 then (all.length : Int) - ((lastK k all).length : Int) + 1 - 1 - n else 0
def spBehind (K : W.Frag) (C : Addr) : Sp := fun vs H Q _ => ∃ p n tv ts k r all s d, vs = [.ref p, .int n, tv] ∧ TAt C H p k r all s d ∧ all.length < 64 ∧ 0 ≤ n ∧ n ≤ (all.length : Int) ∧ TopV K H tv ts ∧
 ∀ q l ys H', Same H H' → H q = none → H l = none → H' q = some (.tup [.ref l, .int (missedF k n all)]) → H' l = some (.lst ys) → Ms H' ys (ofT ts ((lastK k all).filter fun m => decide (m.n > n))) → Q (.ref q) H'
theorem putF_len (f : Str) (v : V) : ∀ fs : List (Str × V), (putF f v fs).length ≤ fs.length + 1
 | [] => Nat.le_refl _
 | (g, x) :: r => by
   show (if g = f then (g, v) :: r else (g, x) :: putF f v r).length ≤ _
   have := putF_len f v r
   split
   · simp
   · simp only [List.length_cons]; omega
theorem But.same {ps : List Addr} {H0 H H' : Hp} (e : Same H0 H) (b : But ps H H') (hn : ∀ p ∈ ps, H0 p = none) : Same H0 H' := fun c o h => b c o (e _ _ h) fun hc => by rw [hn c hc] at h; cases h
end L2
namespace L2
open PySem PySem.Spec PyProof.Rows PySem.W
abbrev Cx.held (X : Cx) (e : Value) : Cx := { X with A := X.A.mark (some e), calm := false, xe := fun _ _ => False }
section
variable {X : Cx} {pins : List (Addr × Obj)} {σ : St} {H H' : Hp} {s : Shared} {xe : Value → Shared → Prop} {e : Value}
theorem Inv.held (I : Inv X pins σ H s) : Inv (X.held e) pins σ H s :=
 ⟨⟨I.ok.mod, I.ok.kind, I.ok.glob, I.ok.blt, I.ok.above, I.ok.inj, I.ok.has, I.ok.cab, (fun z => by cases z), I.ok.frames, I.ok.stk, I.ok.exf, I.ok.bs, I.ok.bsz, I.ok.noex, I.ok.exfs, I.ok.funs, I.ok.frf⟩, I.os, I.bare, I.base, I.loc, I.cell, I.free, I.freeC, I.pin, I.hok, I.len⟩
end
end L2
namespace L2
open PySem PySem.Spec PyProof.Rows PySem.W
theorem lay_of {d : PyData} (h : SeqAt.shaped d = true) : d.canLay0 = true := by
 unfold SeqAt.shaped at h
 exact (Bool.and_eq_true_iff.mp h).1
theorem shaped_m {m : Msg} (h : mOk m) : SeqAt.shaped (mD m) = true := by
 obtain ⟨h1, h2⟩ := h
 have d : PyData.depth (mD m) ≤ 64 := by simp [mD, PyData.depth, PyData.depthAll]
 show (PyData.canLay0 (mD m) && decide (PyData.depth (mD m) ≤ 64)) = true
 rw [Bool.and_eq_true]
 exact ⟨by simp [mD, PyData.canLay0, PyData.canLayAll0, h1, h2], decide_eq_true d⟩
end L2
namespace L2
open PySem PySem.Spec PyProof.Rows PySem.W
def Ite (K : W.Frag) (l : Addr) : It :=
 ⟨fun i H => ∃ xs x, SqL K H l xs ∧ xs[i]? = some x, fun i H x H' => ∃ T v, x = .ref T ∧ H T = none ∧ H' = upd H T (.tup [.int i, v]) ∧ ∀ xs, SqL K H l xs → xs[i]? = some v, fun i H => ∃ xs, SqL K H l xs ∧ xs.length = i⟩
section
variable {X : Cx} {pins : List (Addr × Obj)} {σ : St} {H : Hp} {s : Shared}
theorem Inv.turned2 {h' : Heap} {t' : Nat} {e it : Addr} (I : Inv X pins σ H s) (k : ∀ b o, b ≠ e → b ≠ it → s.heap.get? b = some o → h'.get? b = some o) (fe : FpOk X pins H e) (fi : FpOk X pins H it) : Inv X pins σ H { s with heap := h', toks := t' } := by
 obtain ⟨e0, e1, e2, e3, e4, e5⟩ := fe
 obtain ⟨i0, i1, i2, i3, i4, i5⟩ := fi
 have ne : ∀ b, b ∉ [e, it] → b ≠ e ∧ b ≠ it := fun b hb => ⟨fun z => hb (by simp [z]), fun z => hb (by simp [z])⟩
 have nt : ∀ b u, H b = some u → b ≠ e ∧ b ≠ it := fun b u q => ⟨(fun z => by rw [z, e0] at q; cases q), (fun z => by rw [z, i0] at q; cases q)⟩
 refine I.step (g' := s.gens) (d' := s.drawn) (ch := [e, it]) (fun b hb => ?_) (fun b o _ _ hc q _ => k b o (ne b hc).1 (ne b hc).2 q) (fun b o _ _ hc q _ => ⟨o.slots, k b o (ne b hc).1 (ne b hc).2 q⟩) (fun _ _ _ _ n => n) (fun b o hc q => ⟨o, k b o (ne b hc).1 (ne b hc).2 q⟩)
   (fun _ _ q => q) (fun _ _ _ q => q) (fun b ps q => ⟨#[], by rw [q]; simp⟩) (fun m hm => ?_) (fun b u q => ?_) I.bare
 · rcases List.mem_cons.mp hb with z | z
   · rw [z]; exact ⟨e3, e1, e4, e5⟩
   · rw [List.mem_singleton.mp z]; exact ⟨i3, i1, i4, i5⟩
 · obtain ⟨o, es, ep, ho, r⟩ := hm
   exact ⟨o, es, ep, k _ _ (Ne.symm e1) (Ne.symm i1) ho, r⟩
 · refine (I.hok b u q).stay (fun c v hc z => ?_) (fun _ z => z) fun _ _ z => z
   rcases hc with rfl | hc
   · exact k _ _ (nt _ _ q).1 (nt _ _ q).2 z
   · exact k _ _ (nt _ _ hc).1 (nt _ _ hc).2 z
end
theorem turn_enum {P : Program} {w : World} {K : PySem.W.Frag} {elts : List Expr} {k : Nat} {pos : Pos} (l e it : Addr) (hei : e ≠ it) : Turn P w K (.Tuple elts k pos) (Ite K l) [e, it] e (fun i h => (∃ old, IsEnum h e it i old) ∧ h.IsListIter it l i) where
 mem := by simp
 obj := fun i h st b hb => by
   obtain ⟨⟨old, he⟩, o, ho, _, hd⟩ := st
   rcases List.mem_cons.mp hb with z | z
   · rw [z]; exact ⟨_, he, fun v z => by cases z⟩
   · rw [List.mem_singleton.mp z]; exact ⟨o, ho, fun v z => by rw [hd] at z; cases z⟩
 keep := fun i h h' st k => by
   obtain ⟨⟨old, he⟩, o, ho, hr⟩ := st
   exact ⟨⟨old, k e (by simp) _ he⟩, o, k it (by simp) _ ho, hr⟩
 item := by
   intro X hP hw hK hc i pins s σ H E I hf st hg
   subst hP hw hK
   obtain ⟨xs, x, hq, hx⟩ := hg
   obtain ⟨its, rv, p, hz⟩ := I.list hq
   obtain ⟨u, hu, ru⟩ := rv.get hx
   have fe := hf e (by simp)
   have fi := hf it (by simp)
   obtain ⟨⟨old, he⟩, hit⟩ := st
   obtain ⟨ol, hol, hcl, _⟩ := p.isList
   have hli : l ≠ it := fun z => by
     obtain ⟨o, ho, hc', _⟩ := hit
     rw [← z, hol] at ho; cases ho; rw [hcl] at hc'
     injection hc' with h; exact absurd h (by decide)
   have hle : e ≠ l := fun z => by
     have he' : s.heap.get? e = some _ := he
     rw [z, hol] at he'; cases he'
     injection hcl with h; exact absurd h (by decide)
   have D := Draws.list (prog := X.prog) (w := X.w) (A := X.A.in1) (I.ok.hd hc) it l hli its.toArray
   have W := WalksT.enumerateD D e hei (by simp [hei, hle]) (by simp)
   have hin : i < its.toArray.size := by
     have := (List.getElem?_eq_some_iff.mp hu).1
     simpa using this
   refine W.item i s _ _ hin ⟨⟨old, he⟩, hit, p.isList⟩ fun T vals h' tk hPt hT hIs hMid kk => ?_
   obtain ⟨tt, xv, hPx, rfl⟩ := hPt
   have hxv : xv = u := by
     have z : its.toArray[i]? = some xv := hPx
     rw [show its.toArray[i]? = its[i]? by simp, hu] at z
     exact (Option.some.inj z).symm
   subst hxv
   refine ⟨_, rfl, W.go elts k pos i T _ _ _ hMid fun h2 st2 kk2 => ?_⟩
   have kall : ∀ b o, b ≠ e → b ≠ it → s.heap.get? b = some o → h2.get? b = some o := fun b o h1 h3 q => kk2 b o (by simp [h1, h3]) (kk b o (by simp [h1, h3]) q)
   have I2 : Inv X pins σ H { s with heap := h2, toks := tk } := I.turned2 kall fe fi
   have hTe : T ∉ [e, it] := W.apart i T h' hMid
   have hTn : H T = none := I.hok.fresh hT
   obtain ⟨oT, hoT, hcT, nT, hdT⟩ := hIs
   have hoT2 := kk2 T oT hTe hoT
   have I3 := I2.track (D := T) (o := .tup [.int i, x]) (I.fpOk hT hTn) ⟨(show 2 ≤ sizeLine by decide), [.int i tt, xv], .cons ⟨tt, rfl⟩ (.cons ru .nil), oT, hoT2, hcT, nT, hdT⟩
   refine ⟨.ref T, _, I3, rfl, ⟨T, x, rfl, hTn, rfl, fun ys hy => by rw [I.list_inj hy hq]; exact hx⟩, ⟨st2.1, st2.2.1⟩, fun b hb => ?_⟩
   rw [upd_ne (fun z => hTe (by rw [← z]; exact hb))]
   exact (hf b hb).1
 done := by
   intro X hP hw hK hc i pins s σ H E I hf st hg
   subst hP hw hK
   obtain ⟨xs, hq, hx⟩ := hg
   obtain ⟨its, rv, p, hz⟩ := I.list hq
   have fe := hf e (by simp)
   have fi := hf it (by simp)
   obtain ⟨⟨old, he⟩, hit⟩ := st
   obtain ⟨ol, hol, hcl, _⟩ := p.isList
   have hli : l ≠ it := fun z => by
     obtain ⟨o, ho, hc', _⟩ := hit
     rw [← z, hol] at ho; cases ho; rw [hcl] at hc'
     injection hc' with h; exact absurd h (by decide)
   have hle : e ≠ l := fun z => by
     have he' : s.heap.get? e = some _ := he
     rw [z, hol] at he'; cases he'
     injection hcl with h; exact absurd h (by decide)
   have D := Draws.list (prog := X.prog) (w := X.w) (A := X.A.in1) (I.ok.hd hc) it l hli its.toArray
   have W := WalksT.enumerateD D e hei (by simp [hei, hle]) (by simp)
   have hin : its.toArray.size = i := by rw [← hx, rv.length]; simp
   refine W.done s _ _ (by rw [hin]; exact ⟨⟨old, he⟩, hit, p.isList⟩) fun h' tk kk => ⟨rfl, I.turned2 (fun b o h1 h2 q => kk b o (by simp [h1, h2]) q) fe fi⟩
 self := fun A i s Q E st h => by
   obtain ⟨⟨old, he⟩, _⟩ := st
   exact wpAny_pyIter_enum he h
end L2
namespace L2
open PySem PySem.Spec PyProof.Rows PySem.W
def iEnum (K : W.Frag) (te : TE) : TI := fun σ H R => te σ H fun x H1 => ∃ a, x = .ref a ∧ (∃ xs, SqL K H1 a xs) ∧ R (Ite K a) H1
section
variable {X : Cx} {e : Expr} {te : TE} {elts : List Expr} {k : Nat} {tpos p pos : Pos}
theorem pi_enum (K : W.Frag) (hm : X.mg "enumerate" = none) (he : PE X e te) (hK : X.K = K := by rfl) (hg : Gl X "enumerate" := by rfl) (hp : plainE e = true := by rfl) : PI X (.Tuple elts k tpos) (.Call (.Name "enumerate" p) [e] [] pos) (iEnum K te) := by
 subst hK
 intro pins s σ H R I h
 have h' : tCons te tNil σ H (fun vs H1 => match vs with | [x] => ∃ a, x = .ref a ∧ (∃ xs, SqL X.K H1 a xs) ∧ R (Ite X.K a) H1 | _ => False) := h
 have ha := (pa_cons (X := X) he pa_nil (star_of hp)) pos pins s σ H _ I h'
 refine Call_ (ld_blt I hg hm boot_enumerate (PyProof.Rows.callWith_type1 (thn ha fun us s1 ⟨vs, H1, I1, r1, q1⟩ => ?_) (by rw [star_of hp]) rfl))
 match vs, q1, r1 with
 | [x], ⟨a, ea, ⟨xs, hq⟩, q⟩, .cons r rr =>
   cases rr
   subst ea
   cases r
   obtain ⟨its, rv, pl, hz⟩ := I1.list hq
   refine call_enumerate_list pl.isList fun h2 hE hI hsz kk => ?_
   refine wpAny_pyIter_enum hE ?_
   have I2 : Inv X pins σ H1 { s1 with heap := h2 } := I1.kept (t' := s1.toks) kk
   refine ⟨s1.heap.objs.size + 1, [s1.heap.objs.size + 1, s1.heap.objs.size], _, _, H1, rfl, I2, turn_enum a (s1.heap.objs.size + 1) s1.heap.objs.size (Nat.succ_ne_self _), ⟨⟨.none, hE⟩, hI⟩, fun b hb => ?_, q⟩
   have hle : s1.heap.objs.size ≤ b := by
     rcases List.mem_cons.mp hb with z | z
     · rw [z]; omega
     · rw [List.mem_singleton.mp z]; exact Nat.le_refl _
   exact I1.fpOk hle (I1.hok.fresh hle)
end
theorem for_enum {K : PySem.W.Frag} {a : Addr} {xs : List V} {g : TG} {tb : TS} {D : Ends} {σ : St} {H : Hp} (Pv : Nat → St → Hp → Prop) (h0 : Pv 0 σ H) (hl : ∀ i σ H, i ≤ xs.length → Pv i σ H → SqL K H a xs)
   (hs : ∀ i x T σ H, xs[i]? = some x → Pv i σ H → H T = none → g (.ref T) σ (upd H T (.tup [.int i, x])) fun σ2 H2 => tb { D with nx := Pv (i + 1), ct := Pv (i + 1), bk := D.nx } σ2 H2) (hd : ∀ σ H, Pv xs.length σ H → D.nx σ H) :
   ∃ W : Nat → Nat → St → Hp → Prop, (∃ m, W 0 m σ H) ∧ ∀ i m σ H, W i m σ H →
     ((Ite K a).stop i H ∧ D.nx σ H) ∨ ((Ite K a).go i H ∧ ∃ N : St → Hp → Prop, (∀ σ' H', N σ' H' → ∃ m', m' < m ∧ W (i + 1) m' σ' H') ∧ ∀ x H', (Ite K a).yld i H x H' → g x σ H' fun σ2 H2 => tb { D with nx := N, ct := N, bk := D.nx } σ2 H2) := by
 refine ⟨fun i m σ H => m = xs.length - i ∧ i ≤ xs.length ∧ Pv i σ H, ⟨xs.length, (by simp), Nat.zero_le _, h0⟩, fun i m σ H hW => ?_⟩
 obtain ⟨rfl, hi, hp⟩ := hW
 have hq := hl i σ H hi hp
 rcases Nat.lt_or_ge i xs.length with hlt | hge
 · refine .inr ⟨⟨xs, xs[i], hq, (by simp [hlt])⟩, Pv (i + 1), fun σ' H' p' => ⟨xs.length - (i + 1), (by omega), rfl, hlt, p'⟩, fun x H' hy => ?_⟩
   obtain ⟨T, v, rfl, hT, rfl, hv⟩ := hy
   exact hs i v T σ H (hv xs hq) hp hT
 · obtain rfl : i = xs.length := Nat.le_antisymm hi hge
   exact .inl ⟨⟨xs, hq, rfl⟩, hd σ H hp⟩
end L2
namespace L2
open PySem PySem.Spec PyProof.Rows PySem.W
theorem ne_D {H : Hp} {x y : V} {d : PyData} {Q : VK} (hx : Has H x d) (hy : Has H y d) (s : SeqAt.shaped d = true) (q : Q (.bl false) H) : rNeD x y H Q := by
 refine ⟨_, _, hx, hy, s, s, ?_⟩
 rw [SeqAt.eqv_refl _ (lay_of s)]; exact q
end L2
namespace L2
open PySem PySem.Spec PyProof.Rows PySem.W
structure Stp (ps : List Addr) (H : Hp) (ps' : List Addr) (H' : Hp) : Prop where
 but : But ps H H'
 tup : Tups H H'
 new : ∀ c ∈ ps', c ∈ ps ∨ H c = none
theorem Stp.free {ps ps' : List Addr} {H H' : Hp} (s : Stp ps H ps' H') {c : Addr} (h : H' c = none) (hc : c ∉ ps) : H c = none := by
 cases q : H c with
 | none => rfl
 | some o => rw [s.but c o q hc] at h; cases h
theorem Stp.free' {ps ps' : List Addr} {H H' : Hp} (s : Stp ps H ps' H') {c : Addr} (h : H' c = none) : c ∈ ps ∨ H c = none := by
 by_cases hc : c ∈ ps
 · exact .inl hc
 · exact .inr (s.free h hc)
theorem Stp.trans {ps ps' ps'' : List Addr} {H H' H'' : Hp} (s : Stp ps H ps' H') (t : Stp ps' H' ps'' H'') : Stp ps H ps'' H'' := by
 refine ⟨fun c o h hc => t.but c o (s.but c o h hc) fun hc' => ?_, s.tup.trans t.tup, fun c hc => ?_⟩
 · rcases s.new c hc' with z | z
   · exact hc z
   · rw [z] at h; cases h
 · rcases t.new c hc with z | z
   · exact s.new c z
   · exact s.free' z
theorem Stp.refl (ps : List Addr) (H : Hp) : Stp ps H ps H := ⟨fun _ _ h _ => h, Tups.refl H, fun _ h => .inl h⟩
theorem Same.step {H H' : Hp} (e : Same H H') (ps : List Addr) : Stp ps H ps H' := ⟨fun c o h _ => e c o h, e.tups, fun _ h => .inl h⟩
theorem Stp.weak {ps ps' qs qs' : List Addr} {H H' : Hp} (s : Stp ps H ps' H') (h : ∀ c ∈ ps, c ∈ qs) (h' : ∀ c ∈ qs', c ∈ ps' ∨ c ∈ qs) : Stp qs H qs' H' :=
 ⟨fun c o e hc => s.but c o e fun z => hc (h c z), s.tup, fun c hc => by
   rcases h' c hc with z | z
   · rcases s.new c z with y | y
     · exact .inl (h c y)
     · exact .inr y
   · exact .inl z⟩
theorem Stp.same {ps' : List Addr} {H H' : Hp} (s : Stp [] H ps' H') : Same H H' := fun c o h => s.but c o h List.not_mem_nil
theorem Stp.keep {ps ps' : List Addr} {H H' : Hp} (s : Stp ps H ps' H') {c : Addr} {o : HO} (h : H c = some o) (hc : c ∉ ps) : H' c = some o := s.but c o h hc
theorem Stp.out {ps ps' : List Addr} {H H' : Hp} (s : Stp ps H ps' H') {c : Addr} {o : HO} (h : H c = some o) (hc : c ∉ ps) : c ∉ ps' := fun z => by
 rcases s.new c z with y | y
 · exact hc y
 · rw [y] at h; cases h
theorem Stp.put {ps : List Addr} {H : Hp} {p : Addr} {u o : HO} (h : H p = some u) (hn : ∀ xs, u ≠ .tup xs) (hp : p ∈ ps) : Stp ps H ps (upd H p o) :=
 ⟨fun c o' e hc => by rw [upd_ne (fun z => hc (by rw [z]; exact hp))]; exact e, (Tups.refl H).put h hn, fun _ z => .inl z⟩
theorem Stp.make {ps : List Addr} {H : Hp} {p : Addr} {o : HO} (h : H p = none) : Stp ps H (p :: ps) (upd H p o) :=
 ⟨fun c o' e hc => by rw [upd_ne (ne_of_none e h)]; exact e, (Same.new h).tups, fun c z => by
   rcases List.mem_cons.mp z with rfl | z
   · exact .inr h
   · exact .inl z⟩
theorem Ms.step {ps ps' : List Addr} {H H' : Hp} {xs : List V} {ms : List Msg} (h : Ms H xs ms) (s : Stp ps H ps' H') : Ms H' xs ms := h.tups s.tup
theorem Stp.obj {H : Hp} {p dx : Addr} {o o' : HO} (np : H p = none) (nd : H dx = none) : Stp [] H [p] (upd (upd H dx o) p o') := by
 have e : Same H (upd (upd H dx o) p o') := fun b u h => by rw [upd_ne (ne_of_none h np), upd_ne (ne_of_none h nd)]; exact h
 exact ⟨fun c u h _ => e c u h, e.tups, fun c hc => by
   rw [List.mem_singleton] at hc
   rw [hc]; exact .inr np⟩
def tCut (t u : TS) : TS := fun D σ H => ∃ J : St → Hp → Prop, (∀ σ' H', J σ' H' → u D σ' H') ∧ t { D with nx := J } σ H
theorem pss_cut {X : Cx} {st : Stmt} {rest : List Stmt} {t u : TS} (h1 : PS X st t) (h2 : PSs X rest u) : PSs X (st :: rest) (tCut t u) := by
 intro pins s σ H D I h
 obtain ⟨J, hJ, h⟩ := h
 refine wpAny_execs_cons (thn (h1 pins s σ H { D with nx := J } I h) fun f s1 q => ?_)
 cases f with
 | next =>
   obtain ⟨σ', H', I', q⟩ := q
   exact h2 pins s1 σ' H' D I' (hJ _ _ q)
 | ret v => exact q
 | brk => exact q
 | cont => exact q
theorem hasL_ints {H : Hp} : ∀ ns : List Int, HasL H (ns.map V.int) (ns.map PyData.int)
 | [] => hasL_nil
 | n :: r => hasL_cons (has_int n) (hasL_ints r)
theorem lay_ints : ∀ ns : List Int, PyData.canLayAll0 (ns.map PyData.int) = true
 | [] => rfl
 | n :: r => by simp only [List.map_cons, PyData.canLayAll0, PyData.canLay0, lay_ints r, Bool.and_true]
theorem depth_ints : ∀ ns : List Int, PyData.depthAll (ns.map PyData.int) ≤ 3
 | [] => by simp [PyData.depthAll]
 | n :: r => by
   have := depth_ints r
   simp only [List.map_cons, PyData.depthAll, PyData.depth]; omega
theorem shaped_ints (ns : List Int) : SeqAt.shaped (.list (ns.map PyData.int)) = true := by
 have h1 := depth_ints ns
 have h2 : PyData.depth (.list (ns.map PyData.int)) ≤ 64 := by simp only [PyData.depth]; omega
 show (PyData.canLay0 (.list (ns.map PyData.int)) && decide (PyData.depth (.list (ns.map PyData.int)) ≤ 64)) = true
 rw [Bool.and_eq_true]
 exact ⟨by simp only [PyData.canLay0, lay_ints], decide_eq_true h2⟩
theorem eqv_ints (ns : List Int) : PyData.eqv (.list (ns.map PyData.int)) (.list (ns.map PyData.int)) = true :=
 SeqAt.eqv_refl _ (by simp only [PyData.canLay0, lay_ints])
theorem ne_ints {H : Hp} {a b : Addr} {ns : List Int} {Q : VK} (ha : H a = some (.lst (ns.map V.int))) (hb : H b = some (.lst (ns.map V.int))) (q : Q (.bl false) H) : rNeD (.ref a) (.ref b) H Q := by
 refine ⟨_, _, has_lst ha (hasL_ints ns), has_lst hb (hasL_ints ns), shaped_ints ns, shaped_ints ns, ?_⟩
 rw [eqv_ints]; exact q
theorem cut_from {xs : List V} {t : Int} (h0 : 0 ≤ t) : cutV xs (some t) none = xs.drop t.toNat := by
 obtain ⟨k, rfl⟩ : ∃ k : Nat, t = (k : Int) := ⟨t.toNat, by omega⟩
 unfold cutV
 rw [HT.sIx_nat, HT.sIx_none, Int.toNat_natCast]
 rw [List.take_of_length_le (by rw [List.length_drop]; exact Nat.le_refl _)]
 by_cases h : k ≤ xs.length
 · rw [Nat.min_eq_left h]
 · rw [Nat.min_eq_right (by omega), List.drop_of_length_le (Nat.le_refl _), List.drop_of_length_le (by omega)]
theorem cut_to {xs : List V} {t : Int} (h0 : 0 ≤ t) : cutV xs none (some t) = xs.take t.toNat := by
 obtain ⟨k, rfl⟩ : ∃ k : Nat, t = (k : Int) := ⟨t.toNat, by omega⟩
 unfold cutV
 rw [HT.sIx_nat, HT.sIx_none, Int.toNat_natCast, List.drop_zero, Nat.sub_zero]
 by_cases h : k ≤ xs.length
 · rw [Nat.min_eq_left h]
 · rw [Nat.min_eq_right (by omega), List.take_of_length_le (Nat.le_refl _), List.take_of_length_le (by omega)]
def PMap (H : Hp) (ms : List Msg) (f : Msg → V) : Nat → List V → Hp → Prop := fun i ys H2 => H2 = H ∧ ys = (ms.take i).map f
def PFlt (H : Hp) (ms : List Msg) (p : Msg → Bool) : Nat → List V → Hp → Prop := fun i ys H2 => H2 = H ∧ Ms H ys ((ms.take i).filter p)
section
variable {K : W.Frag} {a : Addr} {xs : List V} {ms : List Msg} {g : TG} {tc : TT} {te : TE} {τ : St} {H : Hp} {f : Msg → V} {p : Msg → Bool}
theorem PMap.zero : PMap H ms f 0 [] H := ⟨rfl, by simp⟩
theorem PFlt.zero : PFlt H ms p 0 [] H := ⟨rfl, Ms.nil⟩
theorem szl {n : Nat} (h : n < 1000) : n ≤ sizeLine := by rw [sizeLine_eq]; omega
theorem PMap.step (ha : H a = some (.lst xs)) (hm : Ms H xs ms)
   (hs : ∀ c m (R : VK) (N : Hp → Prop), m ∈ ms → H c = some (mT m) → R (f m) H → g (.ref c) τ H fun σ4 H4 => tc σ4 H4 fun b H5 => if b = true then te σ4 H5 R else N H5) :
   ∀ i ys H2, i < ms.length → PMap H ms f i ys H2 → (Itl K a).go i H2 ∧ ∀ x H3, (Itl K a).yld i H2 x H3 → g x τ H3 fun σ4 H4 => tc σ4 H4 fun b H5 => if b = true then te σ4 H5 fun y H6 => PMap H ms f (i + 1) (ys ++ [y]) H6 else PMap H ms f (i + 1) ys H5 := by
 rintro i ys H2 hi ⟨rfl, rfl⟩
 obtain ⟨c, ec, hc⟩ := hm.get hi
 refine ⟨⟨xs, .ref c, SqL.ofL ha, ec⟩, ?_⟩
 rintro x H3 ⟨rfl, hx⟩
 have hx' := hx xs (SqL.ofL ha)
 rw [ec] at hx'
 obtain rfl := Option.some.inj hx'
 refine hs c _ _ _ (List.getElem_mem hi) hc ⟨rfl, ?_⟩
 rw [List.take_add_one, List.getElem?_eq_getElem hi, List.map_append]; rfl
theorem PMap.done (ha : H a = some (.lst xs)) (hm : Ms H xs ms) {ys : List V} {H2 : Hp} (h : PMap H ms f ms.length ys H2) : (Itl K a).stop ms.length H2 ∧ H = H2 ∧ ys = ms.map f := by
 obtain ⟨rfl, rfl⟩ := h
 rw [List.take_length]
 exact ⟨⟨xs, SqL.ofL ha, by rw [hm.len]; exact Nat.le_refl _⟩, rfl, rfl⟩
theorem PFlt.step (ha : H a = some (.lst xs)) (hm : Ms H xs ms)
   (hs : ∀ c m (R : VK) (N : Hp → Prop), m ∈ ms → H c = some (mT m) → (p m = true → R (.ref c) H) → (p m = false → N H) → g (.ref c) τ H fun σ4 H4 => tc σ4 H4 fun b H5 => if b = true then te σ4 H5 R else N H5) :
   ∀ i ys H2, i < ms.length → PFlt H ms p i ys H2 → (Itl K a).go i H2 ∧ ∀ x H3, (Itl K a).yld i H2 x H3 → g x τ H3 fun σ4 H4 => tc σ4 H4 fun b H5 => if b = true then te σ4 H5 fun y H6 => PFlt H ms p (i + 1) (ys ++ [y]) H6 else PFlt H ms p (i + 1) ys H5 := by
 rintro i ys H2 hi ⟨rfl, hy⟩
 obtain ⟨c, ec, hc⟩ := hm.get hi
 refine ⟨⟨xs, .ref c, SqL.ofL ha, ec⟩, ?_⟩
 rintro x H3 ⟨rfl, hx⟩
 have hx' := hx xs (SqL.ofL ha)
 rw [ec] at hx'
 obtain rfl := Option.some.inj hx'
 refine hs c _ _ _ (List.getElem_mem hi) hc (fun hp => ⟨rfl, ?_⟩) (fun hp => ⟨rfl, ?_⟩)
 · rw [flt_succ hi, if_pos hp]
   exact hy.append (Ms.one hc)
 · rw [flt_succ hi, if_neg (by rw [hp]; decide), List.append_nil]
   exact hy
theorem PFlt.done (ha : H a = some (.lst xs)) (hm : Ms H xs ms) {ys : List V} {H2 : Hp} (h : PFlt H ms p ms.length ys H2) : (Itl K a).stop ms.length H2 ∧ H = H2 ∧ Ms H ys (ms.filter p) := by
 obtain ⟨rfl, hy⟩ := h
 rw [List.take_length] at hy
 exact ⟨⟨xs, SqL.ofL ha, by rw [hm.len]; exact Nat.le_refl _⟩, rfl, hy⟩
end
structure RS where
 rows : List Msg
 out : List Int
 cut : Bool
def rputB (sz : Int) (way : Str) (s : RS) : Bool := if s.cut = true then false else if (s.rows.length : Int) < sz then true else if way = "old" then true else false
def rputS (sz : Int) (way : Str) (s : RS) (m : Msg) : RS :=
 if s.cut = true then { s with out := s.out ++ [m.n] }
 else if (s.rows.length : Int) < sz then { s with rows := s.rows ++ [m] }
 else if way = "old" then { s with rows := s.rows.drop 1 ++ [m], out := s.out ++ (s.rows.take 1).map (·.n) }
 else if way = "new" then { s with out := s.out ++ [m.n] }
 else ⟨[], s.out ++ (s.rows ++ [m]).map (·.n), true⟩
def rF (sz : Int) (way : Str) (r d : Addr) (b : Bool) : List (Str × V) := [("size", .int sz), ("way", .str way), ("row", .ref r), ("dropped", .ref d), ("broken", .bl b)]
section
variable {sz : Int} {way : Str} {r d : Addr} {b : Bool}
theorem rF_size : (rF sz way r d b).lookup ("size" : Str) = some (V.int sz) := lk_hit
theorem rF_way : (rF sz way r d b).lookup ("way" : Str) = some (V.str way) := (lk_miss (by decide +kernel)).trans lk_hit
theorem rF_row : (rF sz way r d b).lookup ("row" : Str) = some (V.ref r) := (lk_miss (by decide +kernel)).trans ((lk_miss (by decide +kernel)).trans lk_hit)
theorem rF_dropped : (rF sz way r d b).lookup ("dropped" : Str) = some (V.ref d) := (lk_miss (by decide +kernel)).trans ((lk_miss (by decide +kernel)).trans ((lk_miss (by decide +kernel)).trans lk_hit))
theorem rF_broken : (rF sz way r d b).lookup ("broken" : Str) = some (V.bl b) := (lk_miss (by decide +kernel)).trans ((lk_miss (by decide +kernel)).trans ((lk_miss (by decide +kernel)).trans ((lk_miss (by decide +kernel)).trans lk_hit)))
theorem rF_no {f : Str} (h1 : ¬ f = "size") (h2 : ¬ f = "way") (h3 : ¬ f = "row") (h4 : ¬ f = "dropped") (h5 : ¬ f = "broken") : (rF sz way r d b).lookup f = none :=
 (lk_miss h1).trans ((lk_miss h2).trans ((lk_miss h3).trans ((lk_miss h4).trans (lk_miss h5))))
theorem rF_make : putF "broken" (.bl b) (putF "dropped" (.ref d) (putF "row" (.ref r) (putF "way" (.str way) (putF "size" (.int sz) [])))) = rF sz way r d b := by
 show putF "broken" (.bl b) (putF "dropped" (.ref d) (putF "row" (.ref r) (putF "way" (.str way) [("size", .int sz)]))) = _
 rw [pf_miss (by decide +kernel)]
 show putF "broken" (.bl b) (putF "dropped" (.ref d) (putF "row" (.ref r) [("size", .int sz), ("way", .str way)])) = _
 rw [pf_miss (by decide +kernel), pf_miss (by decide +kernel)]
 show putF "broken" (.bl b) (putF "dropped" (.ref d) [("size", .int sz), ("way", .str way), ("row", .ref r)]) = _
 rw [pf_miss (by decide +kernel), pf_miss (by decide +kernel), pf_miss (by decide +kernel)]
 show putF "broken" (.bl b) [("size", .int sz), ("way", .str way), ("row", .ref r), ("dropped", .ref d)] = _
 rw [pf_miss (by decide +kernel), pf_miss (by decide +kernel), pf_miss (by decide +kernel), pf_miss (by decide +kernel)]
 rfl
theorem rF_setRow {r' : Addr} : putF "row" (.ref r') (rF sz way r d b) = rF sz way r' d b := by
 unfold rF
 rw [pf_miss (by decide +kernel), pf_miss (by decide +kernel), pf_hit]
theorem rF_setBroken {b' : Bool} : putF "broken" (.bl b') (rF sz way r d b) = rF sz way r d b' := by
 unfold rF
 rw [pf_miss (by decide +kernel), pf_miss (by decide +kernel), pf_miss (by decide +kernel), pf_miss (by decide +kernel), pf_hit]
end
structure RAt (C : Addr) (H : Hp) (p : Addr) (sz : Int) (way : Str) (s : RS) (r d : Addr) : Prop where
 ob : ∃ dx, H p = some (.ins C dx (rF sz way r d s.cut))
 ro : ∃ ys, H r = some (.lst ys) ∧ Ms H ys s.rows
 dr : H d = some (.lst (s.out.map V.int))
 ne : r ≠ d
section
variable {C : Addr} {H H' : Hp} {p : Addr} {sz : Int} {way : Str} {s : RS} {r d : Addr}
theorem RAt.step {ps ps' : List Addr} (h : RAt C H p sz way s r d) (st : Stp ps H ps' H') (hd : ∀ c ∈ [p, r, d], c ∉ ps) : RAt C H' p sz way s r d := by
 obtain ⟨⟨dx, h1⟩, ⟨ys, h2, h3⟩, h4, h5⟩ := h
 exact ⟨⟨dx, st.keep h1 (hd _ (by simp))⟩, ⟨ys, st.keep h2 (hd _ (by simp)), h3.step st⟩, st.keep h4 (hd _ (by simp)), h5⟩
theorem RAt.out {ps ps' : List Addr} (h : RAt C H p sz way s r d) (st : Stp ps H ps' H') (hd : ∀ c ∈ [p, r, d], c ∉ ps) : ∀ c ∈ [p, r, d], c ∉ ps' := by
 obtain ⟨⟨dx, h1⟩, ⟨ys, h2, h3⟩, h4, h5⟩ := h
 intro c hc
 have hc' := hd c hc
 simp only [List.mem_cons, List.not_mem_nil, or_false] at hc
 rcases hc with rfl | rfl | rfl
 · exact st.out h1 hc'
 · exact st.out h2 hc'
 · exact st.out h4 hc'
theorem RAt.same (h : RAt C H p sz way s r d) (e : Same H H') : RAt C H' p sz way s r d := h.step (e.step []) fun _ _ => List.not_mem_nil
theorem RAt.free (h : RAt C H p sz way s r d) {c : Addr} (hc : H c = none) : c ∉ [p, r, d] := by
 obtain ⟨⟨dx, h1⟩, ⟨ys, h2, h3⟩, h4, h5⟩ := h
 simp [(ne_of_none h1 hc).symm, (ne_of_none h2 hc).symm, (ne_of_none h4 hc).symm]
theorem RAt.npr (h : RAt C H p sz way s r d) : p ≠ r := by
 obtain ⟨⟨dx, h1⟩, ⟨ys, h2, h3⟩, h4, h5⟩ := h
 exact ne_of h1 h2 (by intro z; cases z)
theorem RAt.npd (h : RAt C H p sz way s r d) : p ≠ d := by
 obtain ⟨⟨dx, h1⟩, ⟨ys, h2, h3⟩, h4, h5⟩ := h
 exact ne_of h1 h4 (by intro z; cases z)
end
structure RoadC (K : W.Frag) (mg : Str → Option Value) (C : Addr) : Prop where
 cl_Road : Cls K C
 mg_Road : mg "Road" = some (.ref C)
 n_size : NoAttr K C "size"
 n_way : NoAttr K C "way"
 n_row : NoAttr K C "row"
 n_dropped : NoAttr K C "dropped"
 n_broken : NoAttr K C "broken"
theorem Stp.up {ps qs : List Addr} {H H' : Hp} (s : Stp ps H ps H') (h : ∀ c ∈ ps, c ∈ qs) : Stp qs H qs H' := s.weak h fun _ z => .inr z
def spInitR (C : Addr) : Sp := fun vs H Q _ => ∃ (p dx : Addr) (sz : Int) (way : Str), vs = [.ref p, .int sz, .str way] ∧ H p = some (.ins C dx []) ∧
 ∀ r d H', RAt C H' p sz way ⟨[], [], false⟩ r d → Stp [p] H [p, r, d] H' → Q .non H'
def spLeave (C : Addr) : Sp := fun vs H Q _ => ∃ p b xs ms sz way s r d, vs = [.ref p, .ref b] ∧ RAt C H p sz way s r d ∧ H b = some (.lst xs) ∧ Ms H xs ms ∧ ms.length < 64 ∧ s.out.length < 1000 ∧
 ∀ H', RAt C H' p sz way { s with out := s.out ++ ms.map (·.n) } r d → Stp [d] H [d] H' → Q .non H'
def spPut (C : Addr) : Sp := fun vs H Q _ => ∃ p c m sz way s r d, vs = [.ref p, .ref c] ∧ RAt C H p sz way s r d ∧ H c = some (mT m) ∧ s.rows.length < 63 ∧ s.out.length < 1000 ∧
 ∀ r' H', RAt C H' p sz way (rputS sz way s m) r' d → Stp [p, r, d] H [p, r', d] H' → Q (.bl (rputB sz way s)) H'
def spPutW (C : Addr) : Sp := fun vs H Q _ => ∃ p c m sz way s r d, vs = [.ref p, .ref c] ∧ RAt C H p sz way s r d ∧ H c = some (mT m) ∧ s.rows.length < 63 ∧ s.out.length < 1000 ∧ s.cut = false ∧ ¬ (s.rows.length : Int) < sz ∧
 ∀ r' H', RAt C H' p sz way (rputS sz way s m) r' d → Stp [p, r, d] H [p, r', d] H' → Q (.bl (rputB sz way s)) H'
def spTakeR (C : Addr) : Sp := fun vs H Q _ => ∃ p n sz way s r d, vs = [.ref p, .int n] ∧ RAt C H p sz way s r d ∧ 0 ≤ n ∧
 ∀ l ys r' H', RAt C H' p sz way { s with rows := s.rows.drop n.toNat } r' d → Stp [p, r, d] H [p, r', d] H' → H l = none → l ∉ [p, r', d] → H' l = some (.lst ys) → Ms H' ys (s.rows.take n.toNat) → Q (.ref l) H'
def spWait (C : Addr) : Sp := fun vs H Q _ => ∃ p sz way s r d, vs = [.ref p] ∧ RAt C H p sz way s r d ∧ ∀ l ys, H l = none → Ms (upd H l (.lst ys)) ys s.rows → Q (.ref l) (upd H l (.lst ys))
def spMend (C : Addr) : Sp := fun vs H Q _ => ∃ p sz way s r d, vs = [.ref p] ∧ RAt C H p sz way s r d ∧ ∀ H', RAt C H' p sz way { s with cut := false } r d → Stp [p, r, d] H [p, r, d] H' → Q .non H'
end L2
namespace L2
open PySem PySem.Spec PyProof.Rows PySem.W
section
variable {X : Cx}
theorem items_keys {P : Program} {w : World} {kvs : List (Key × V)} : ∀ {ws : List (Key × Value)} {vs : List Value}, KV kvs ws → vs.length = ws.length → (∀ (j : Nat) (v : Value), vs[j]? = some v → ∃ k x, ws[j]? = some (k, x) ∧ (mixKind P w).is k v = true) → Vals (kvs.map fun kv => kV kv.1) vs := by
 induction kvs with
 | nil =>
   intro ws vs r e h
   cases r
   rw [List.eq_nil_of_length_eq_zero e]; exact .nil
 | cons kv kvs ih =>
   intro ws vs r e h
   cases r with
   | @cons _ w1 _ ws r1 r2 =>
     cases vs with
     | nil => simp at e
     | cons v vs =>
       refine .cons ?_ (ih r2 (by simpa using e) fun j u hu => h (j + 1) u (by simpa using hu))
       obtain ⟨k, x, hk, hi⟩ := h 0 v rfl
       have hk' : w1 = (k, x) := Option.some.inj hk
       show RelV (kV kv.1) v
       rw [r1.1, hk']
       have hi' : keyIs k v = true := hi
       rcases keyIs_shape hi' with ⟨i, t, e1, e2⟩ | ⟨y, t, e1, e2⟩
       · rw [e1, e2]; exact ⟨t, rfl⟩
       · rw [e1, e2]; exact ⟨t, rfl⟩
theorem coll_keys {d : Addr} {H : Hp} {kvs : List (Key × V)} (hd : H d = some (.dK kvs)) : Coll X (.ref d) H (kvs.map fun kv => kV kv.1) := by
 intro pins s σ v A E Q I r hh hq
 cases r
 obtain ⟨hz, lo, ws, rk, hD⟩ := dk_of I.hok hd
 obtain ⟨ep, hat⟩ := hD.dictAt
 have hl : kvs.length = ws.length := Paired.length rk
 have grow : ∀ b o, s.heap.get? b = some o → (s.heap.push (seqObj "list" #[] 0)).get? b = some o := fun b o e => Heap.get?_push_of_some _ e
 have hat1 : (s.heap.push (seqObj "list" #[] 0)).DictAt (mixKind X.prog X.w) d ws ep := hat.at' fun o e => grow _ _ e
 have ld : d < s.heap.objs.size := hat.lt_size
 unfold collect
 refine wpAny_bind (wpAny_runValue (codeAny_builtin entry_proto_collect' ?_))
 show wpAny _ _ (do again (.builtin "list.__iadd__" ⟨[← newList [], .ref d], []⟩)) _ _ s
 refine wpAny_bind (wpAny_newList (wpAny_pure ⟨Code.quiet_builtin _ (by decide +kernel), codeAny_builtin entry_list_iadd' ?_⟩))
 show wpAny _ _ (Builtin.List.listExtendWith (.ref s.heap.objs.size) (.ref d) (.ref s.heap.objs.size)) _ _ { s with heap := s.heap.push (seqObj "list" #[] 0) }
 rw [Around.under_plainId (show plainId "list.__iadd__" = true by decide +kernel) _]
 have fin : ∀ s' : Shared, (∃ acc c, s'.heap.get? s.heap.objs.size = some { cls := .type "list", dict := none, data := .seq acc c, slots := #[] } ∧ Vals (kvs.map fun kv => kV kv.1) acc.toList ∧ Inv X pins σ H s') →
     wpAny (model X.prog X.w) A (do
       let o ← load s.heap.objs.size
       match o.data with
       | .seq xs _ => pure xs.toList
       | _ => unsupported "internal:collect") Q E s' := by
   rintro s' ⟨acc, c, hS, e, I'⟩
   refine wpAny_bind (wpAny_load hS ?_)
   show wpAny _ _ (pure acc.toList) Q E _
   exact wpAny_pure (hq _ _ e I')
 refine wpAny_mono (W.kdl_extend (R := fun r s' => r = .ok (.ret (.ref s.heap.objs.size)) ∧ ∃ acc c, s'.heap.get? s.heap.objs.size = some { cls := .type "list", dict := none, data := .seq acc c, slots := #[] } ∧ Vals (kvs.map fun kv => kV kv.1) acc.toList ∧ Inv X pins σ H s')
   (s := { s with heap := s.heap.push (seqObj "list" #[] 0) }) (W.kdl_dict (knd := mixKind X.prog X.w) (kvs := ws) (ep := ep) lo) hh hat1 s.heap.objs.size (Nat.ne_of_gt ld) (Nat.ne_of_gt ld) _ 0 (Heap.get?_push_size _ rfl) (fun h' tk acc c hk hS hacc => ?_) (show ws.length ≤ sizeLine by omega))
   (fun fi s' hf => ?_) (fun e s' he => nomatch he.1)
 · refine ⟨rfl, acc, c, hS, items_keys rk (by rw [Array.length_toList]; exact hacc.1) (fun j u hu => hacc.2 j u (by rw [← Array.getElem?_toList]; exact hu)), I.kept fun b o eb => hk b o (Nat.ne_of_lt (Heap.lt_size eb)) (grow b o eb)⟩
 · cases fi with
   | done f =>
     obtain ⟨e, g⟩ := hf
     cases e
     exact fin s' g
   | again c' =>
     refine ⟨hf.1, codeAny_mono hf.2 fun r s2 ⟨e, g⟩ => ?_⟩
     subst e
     exact fin s2 g
theorem ints_are : ∀ {ns : List Int} {us : List Value}, Vals (ns.map V.int) us → IntsAre us ns := fun r => intsAre_of r
theorem are_ints : ∀ {us : List Value} {ns : List Int}, IntsAre us ns → Vals (ns.map V.int) us
 | _, _, .nil => .nil
 | _, _, .cons n t r => .cons ⟨t, rfl⟩ (are_ints r)
def IntSrc (K : W.Frag) (x : V) (H : Hp) (ns : List Int) : Prop := (∃ a, x = .ref a ∧ SqL K H a (ns.map V.int)) ∨ ∃ d kvs, x = .ref d ∧ H d = some (.dK kvs) ∧ kvs.map (·.1) = ns.map Sum.inl
theorem IntSrc.coll {x : V} {H : Hp} {ns : List Int} (h : IntSrc X.K x H ns) : Coll X x H (ns.map V.int) := by
 rcases h with ⟨a, rfl, h⟩ | ⟨d, kvs, rfl, h, e⟩
 · exact coll_list h
 · have z := coll_keys (X := X) h
   have e2 : kvs.map (fun kv => kV kv.1) = ns.map V.int := by
     have : kvs.map (fun kv => kV kv.1) = (kvs.map (·.1)).map kV := by rw [List.map_map]; rfl
     rw [this, e, List.map_map]; rfl
   rw [e2] at z
   exact z
def rSortI (K : W.Frag) : List V → Hp → VK → Prop := fun xs H Q => ∃ x ns, xs = [x] ∧ IntSrc K x H ns ∧ ns.length < 64 ∧ ∀ p, H p = none → Q (.ref p) (upd H p (.lst ((sortI ns).map V.int)))
theorem call_sortI (hc : X.calm = true) : CallR X (.builtin "sorted") (rSortI X.K) := by
 intro pins s σ H xs us Q I r h
 obtain ⟨x, ns, rfl, hx, h64, q⟩ := h
 obtain ⟨u, rfl, ru⟩ := vals1 r
 refine Calls.call_function_entry kind_sorted plain_sorted entry_sorted (args_sorted1 _) ?_
 unfold Builtin.«sorted»
 refine wpAny_bind (m := checkCount "sorted" 1 1 _) (wpAny_pure ?_)
 refine wpAny_bind (hx.coll pins s σ u _ _ _ I ru (I.ok.hd hc) fun vs s1 rv I1 => ?_)
 have hl := rv.length
 rw [List.length_map] at hl
 refine wpAny_bind (wpAny_newList ?_ (by rw [sizeLine_eq]; omega))
 have I2 : Inv X pins σ H { s1 with heap := s1.heap.push (seqObj "list" vs.toArray 0) } := I1.kept (t' := s1.toks) fun b o e => Heap.get?_push_of_some _ e
 have fD : FpOk X pins H s1.heap.objs.size := I1.fpOk (Nat.le_refl _) (I1.hok.fresh (Nat.le_refl _))
 have hoL : (s1.heap.push (seqObj "list" vs.toArray 0)).get? s1.heap.objs.size = some (seqObj "list" vs.toArray 0) := Heap.get?_push_size _ rfl
 refine wpAny_bind (wpAny_holding (wpAny_call_entry slot_list_sort ⟨_, hoL, rfl⟩ entry_list_sort ?body (args_list_sort _)))
 case body =>
   refine list_sort_tree (s := { s1 with heap := s1.heap.push (seqObj "list" vs.toArray 0) }) hoL (ints_are rv) (by omega) fun out ns' hI hp hr => ⟨_, rfl, ?_⟩
   have e : ns' = sortI ns := eq_sortI hp hr
   subst e
   obtain ⟨c, hat⟩ := sortedHeap_at (out := out) hoL
   refine wpAny_pure ⟨_, rfl, .ref s1.heap.objs.size, upd H s1.heap.objs.size (.lst ((sortI ns).map V.int)), ?_, rfl, q _ fD.1⟩
   have I3 : Inv X pins σ H { s1 with heap := sortedHeap (s1.heap.push (seqObj "list" vs.toArray 0)) s1.heap.objs.size vs out } := I1.kept (t' := s1.toks) fun b o e => by
     have hb : b ≠ s1.heap.objs.size := Nat.ne_of_lt (Heap.lt_size e)
     rw [sortedHeap_old hb (by rw [Heap.size_push]; exact Nat.lt_succ_of_lt (Heap.lt_size e))]
     exact Heap.get?_push_of_some _ e
   refine I3.track fD ⟨?_, out.toList, c, are_ints hI, ?_⟩
   · rw [List.length_map, (sortI_perm ns).length_eq, sizeLine_eq]; omega
   · simpa [seqObj] using hat
theorem k_sortI (K : W.Frag) (hc : X.calm = true) (h : X.K = K := by rfl) : CallR X (.builtin "sorted") (rSortI K) := h ▸ call_sortI hc
def rRng : List V → Hp → VK → Prop := fun xs H Q => ∃ i j : Int, xs = [.int i, .int j] ∧ (-(2 ^ 62) ≤ i ∧ i < 2 ^ 62 ∧ -(2 ^ 62) ≤ j ∧ j < 2 ^ 62) ∧ ∀ p, H p = none → Q (.ref p) (upd H p (.rng i j))
theorem call_rng : CallR X (.type "range") rRng := by
 intro pins s σ H xs us Q I r h
 obtain ⟨i, j, rfl, hb, q⟩ := h
 obtain ⟨u, u', rfl, ⟨t, rfl⟩, ⟨t', rfl⟩⟩ := vals2 r
 refine call_range_2 ?_
 refine ⟨.ref s.heap.objs.size, upd H s.heap.objs.size (.rng i j), I.laid (fun b o e => Heap.get?_push_of_some _ e) (Nat.le_refl _) ?_, rfl, q _ (I.hok.fresh (Nat.le_refl _))⟩
 exact ⟨_, _, _, IsRange.new ..⟩
def rgs (lo : Int) (n : Nat) : List Int := (List.range n).map fun (i : Nat) => lo + (i : Int)
theorem rgs_len (lo : Int) (n : Nat) : (rgs lo n).length = n := by unfold rgs; rw [List.length_map, List.length_range]
def rListRng : List V → Hp → VK → Prop := fun xs H Q => ∃ r i j, xs = [.ref r] ∧ H r = some (.rng i j) ∧ (-(2 ^ 62) ≤ i ∧ i < 2 ^ 62 ∧ -(2 ^ 62) ≤ j ∧ j < 2 ^ 62) ∧ (j - i).toNat ≤ 1000 ∧ ∀ p, H p = none → Q (.ref p) (upd H p (.lst ((rgs i (j - i).toNat).map V.int)))
theorem items_rgs {lo : Int} : ∀ {n : Nat} {vs : List Value}, vs.length = n → (∀ (j : Nat) (v : Value), vs[j]? = some v → ∃ t, v = .int (lo + (j : Int) * 1) t) → Vals ((rgs lo n).map V.int) vs := by
 intro n vs hl h
 have : ∀ (n : Nat) (f : Nat → Int) (vs : List Value), vs.length = n → (∀ (j : Nat) (v : Value), vs[j]? = some v → ∃ t, v = .int (f j) t) → Vals (((List.range n).map f).map V.int) vs := by
   intro n
   induction n with
   | zero => intro f vs hl _; rw [List.eq_nil_of_length_eq_zero hl]; exact .nil
   | succ n ih =>
     intro f vs hl h
     cases vs with
     | nil => simp at hl
     | cons v vs =>
       rw [List.range_succ_eq_map, List.map_cons, List.map_cons, List.map_map (l := List.range n) (g := f)]
       exact .cons (h 0 v rfl) (ih (f ∘ Nat.succ) vs (by simpa using hl) fun j u hu => h (j + 1) u (by simpa using hu))
 refine this n _ vs hl fun j v e => ?_
 obtain ⟨t, rfl⟩ := h j v e
 exact ⟨t, by rw [Int.mul_one]⟩
theorem call_list_rng (hc : X.calm = true) : CallR X (.type "list") rListRng := by
 intro pins s σ H xs us Q I r h
 obtain ⟨a, i, j, rfl, ha, ⟨b1, b2, b3, b4⟩, hz, q⟩ := h
 obtain ⟨u, rfl, ru⟩ := vals1 r
 cases ru
 obtain ⟨t1, t2, t3, hr⟩ := (show ObjOk X.prog X.w H s.heap a (.rng i j) from I.hok a _ ha)
 have fD : FpOk X pins H s.heap.objs.size := I.fpOk (Nat.le_refl _) (I.hok.fresh (Nat.le_refl _))
 refine call_list_range (n := (j - i).toNat) (I.ok.hd hc) hr (small_one b1 b2 b3 b4) (by rw [rangeSize_one]; split <;> omega) (by omega) fun h' tk acc c hk hD hacc => ?_
 have I1 : Inv X pins σ H { s with heap := h', toks := tk } := I.kept hk
 refine ⟨.ref s.heap.objs.size, _, I1.track (o := .lst ((rgs i (j - i).toNat).map V.int)) fD ⟨by rw [List.length_map, rgs_len, sizeLine_eq]; omega, acc.toList, c, items_rgs (by rw [Array.length_toList]; exact hacc.1) (fun k v e => hacc.2 k v (by rw [← Array.getElem?_toList]; exact e)), ?_⟩, rfl, q _ fD.1⟩
 simpa using hD
section
variable {prog : Program} {w : World} {A : Around} {I : Addr} {fp wr : List Addr} {G : Array GenState → Array GenState → Prop} {n : Nat} {P : Nat → Value → Prop} {St : Nat → Shared → Prop} {R : Result → Shared → Prop} {kw : List (Str × Value)}
theorem mx_turns (W : WalksS prog w A.in1 I fp wr G n P St) (lt : Nat → Nat → Bool) (hlt : CmpOf prog w A.in1 .Gt P lt) (B : Addr) (hB : B ∉ fp) :
   ∀ (m k : Nat) (s : Shared) (top : Value) (c : Nat), n - (k + 1) = m → k + 1 ≤ n → St (k + 1) s → P (argBest lt k) top →
   s.heap.get? B = some { cls := .type "list", dict := none, data := .seq #[top, top] c, slots := #[] } →
   (∀ v z, P (argBest lt (n - 1)) v → Moved (B :: wr) G s z → R (.ok (.ret v)) z) → codeAny (model prog w) A (.builtin "max.loop" ⟨[.ref I, .none, .ref B], kw⟩) R s := by
 have hBw : B ∉ wr := fun z => hB (W.sub _ z)
 have up : ∀ b ∈ wr, b ∈ B :: wr := fun b z => List.mem_cons_of_mem _ z
 have nm : (toString "max" ++ toString ".loop" : String) = "max.loop" := by decide
 have ne : ∀ {b : Addr}, b ∉ B :: wr → B ≠ b := fun z e => z (by rw [e]; exact List.mem_cons_self)
 intro m
 induction m with
 | zero =>
   intro k s top c hm hk st hP hS fin
   have last : k + 1 = n := by omega
   refine codeAny_builtin F.entry_max_loop ?_
   rw [Around.under_plainId F.plain_max_loop _]
   show wpAny _ A.in1 (seqItems? (.ref B) >>= _) _ _ s
   refine wpAny_bind (wpAny_seqItems hS rfl ?_)
   show wpAny _ A.in1 (tryCatch (pyNext (.ref I)) _ >>= _) _ _ s
   refine wpAny_bind (wpAny_tryCatch (W.done s _ _ (last ▸ st) fun z mv => ?_))
   have hz := mv.heap B _ hBw hS
   show wpAny _ A.in1 (updateSeq B (fun _ => #[]) >>= _) _ _ _
   refine wpAny_bind (wpAny_updateSeq hz rfl (wpAny_bind (wpAny_letGo (wpAny_pure ?_))))
   exact fin top _ (by rw [← last]; exact hP) ((mv.mono up).then_heap (tk := z.toks) (Nat.le_refl _) fun b o hb e => (Heap.get?_update_other _ _ (ne hb)).trans e)
 | succ m ih =>
   intro k s top c hm hk st hP hS fin
   have more : k + 1 < n := by omega
   refine codeAny_builtin F.entry_max_loop ?_
   rw [Around.under_plainId F.plain_max_loop _]
   show wpAny _ A.in1 (seqItems? (.ref B) >>= _) _ _ s
   refine wpAny_bind (wpAny_seqItems hS rfl ?_)
   show wpAny _ A.in1 (tryCatch (pyNext (.ref I)) _ >>= _) _ _ s
   refine wpAny_bind (wpAny_tryCatch (W.item (k + 1) s _ _ more st fun v z hv st' mv => ?_))
   have hz := mv.heap B _ hBw hS
   show wpAny _ A.in1 (tryCatch (holding [v, v] (richCompare .Gt v top >>= _)) _ >>= _) _ _ _
   refine wpAny_bind (wpAny_tryCatch (wpAny_holding (wpAny_bind (hlt (k + 1) (argBest lt k) v top _ _ _ hv hP ?_))))
   refine wpAny_bind (wpAny_holding (wpAny_truthy_bool (wpAny_bind (wpAny_letGo (wpAny_pure ?_)))))
   cases hb : lt (k + 1) (argBest lt k) with
   | true =>
     simp only [if_true]
     refine wpAny_bind (wpAny_updateSeq hz rfl (wpAny_bind (wpAny_letGo ?_)))
     rw [nm]
     refine wpAny_pure ⟨plainId_quiet F.plain_max_loop _, ih (k + 1) _ v _ (by omega) more (W.frame _ z _ z.toks st' (Nat.le_refl _) fun b hbf o e => ?_) (by simp only [argBest, hb, if_true]; exact hv) (Heap.get?_update_self _ hz rfl) fun v' z' hv' mv' => ?_⟩
     · exact (Heap.get?_update_other _ _ (fun x : B = b => hB (by rw [x]; exact hbf))).trans e
     · exact fin v' z' hv' (Moved.trans W.gtrans ((mv.mono up).then_heap (Nat.le_refl _) fun b o hb e => (Heap.get?_update_other _ _ (ne hb)).trans e) mv')
   | false =>
     simp only [Bool.false_eq_true, if_false]
     refine wpAny_bind (wpAny_letGo ?_)
     rw [nm]
     refine wpAny_pure ⟨plainId_quiet F.plain_max_loop _, ih (k + 1) _ top c (by omega) more st' (by simp only [argBest, hb, Bool.false_eq_true, if_false]; exact hP) hz fun v' z' hv' mv' => ?_⟩
     exact fin v' z' hv' (Moved.trans W.gtrans (mv.mono up) mv')
theorem mx_first (W : WalksS prog w A.in1 I fp wr G n P St) (lt : Nat → Nat → Bool) (hlt : CmpOf prog w A.in1 .Gt P lt) (B : Addr) (hB : B ∉ fp) (hn : 0 < n) {s : Shared} {c : Nat} (st : St 0 s)
   (hS : s.heap.get? B = some { cls := .type "list", dict := none, data := .seq #[] c, slots := #[] })
   (fin : ∀ v z, P (argBest lt (n - 1)) v → Moved (B :: wr) G s z → R (.ok (.ret v)) z) : codeAny (model prog w) A (.builtin "max.loop" ⟨[.ref I, .none, .ref B], kw⟩) R s := by
 have hBw : B ∉ wr := fun z => hB (W.sub _ z)
 have up : ∀ b ∈ wr, b ∈ B :: wr := fun b z => List.mem_cons_of_mem _ z
 have nm : (toString "max" ++ toString ".loop" : String) = "max.loop" := by decide
 have ne : ∀ {b : Addr}, b ∉ B :: wr → B ≠ b := fun z e => z (by rw [e]; exact List.mem_cons_self)
 refine codeAny_builtin F.entry_max_loop ?_
 rw [Around.under_plainId F.plain_max_loop _]
 show wpAny _ A.in1 (seqItems? (.ref B) >>= _) _ _ s
 refine wpAny_bind (wpAny_seqItems hS rfl ?_)
 show wpAny _ A.in1 (tryCatch (pyNext (.ref I)) _ >>= _) _ _ s
 refine wpAny_bind (wpAny_tryCatch (W.item 0 s _ _ hn st fun v z hv st' mv => ?_))
 have hz := mv.heap B _ hBw hS
 show wpAny _ A.in1 (updateSeq B (fun _ => #[v, v]) >>= _) _ _ _
 refine wpAny_bind (wpAny_updateSeq hz rfl ?_)
 rw [nm]
 refine wpAny_pure ⟨plainId_quiet F.plain_max_loop _, mx_turns W lt hlt B hB _ 0 _ v _ rfl hn (W.frame _ z _ z.toks st' (Nat.le_refl _) fun b hbf o e => ?_) hv (Heap.get?_update_self _ hz rfl) fun v' z' hv' mv' => ?_⟩
 · exact (Heap.get?_update_other _ _ (fun x : B = b => hB (by rw [x]; exact hbf))).trans e
 · exact fin v' z' hv' (Moved.trans W.gtrans ((mv.mono up).then_heap (Nat.le_refl _) fun b o hb e => (Heap.get?_update_other _ _ (ne hb)).trans e) mv')
theorem mx_none (W : WalksS prog w A.in1 I fp wr G n P St) (h0 : n = 0) (B : Addr) (hB : B ∉ fp) {s : Shared} {c : Nat} {d : Value} {x : Str} (st : St 0 s)
   (hS : s.heap.get? B = some { cls := .type "list", dict := none, data := .seq #[] c, slots := #[] })
   (fin : ∀ z, Moved wr G s z → R (.ok (.ret d)) z) : codeAny (model prog w) A (.builtin "max.loop" ⟨[.ref I, .none, .ref B], [(x, d)]⟩) R s := by
 refine codeAny_builtin F.entry_max_loop ?_
 rw [Around.under_plainId F.plain_max_loop _]
 show wpAny _ A.in1 (seqItems? (.ref B) >>= _) _ _ s
 refine wpAny_bind (wpAny_seqItems hS rfl ?_)
 show wpAny _ A.in1 (tryCatch (pyNext (.ref I)) _ >>= _) _ _ s
 refine wpAny_bind (wpAny_tryCatch (W.done s _ _ (h0 ▸ st) fun z mv => ?_))
 show wpAny _ A.in1 (rule _ >>= _) _ _ _
 refine wpAny_bind (wpAny_rule (wpAny_pure ?_))
 exact fin z mv
end
theorem args_maxD (a v : Value) : argsOk "max" ⟨[a], [(Str.ofString "default", v)]⟩ := by unfold argsOk; kernel_rfl
theorem max_default {prog : Program} {w : World} {A : Around} {E : Value → Shared → Prop} {s : Shared} {l : Addr} {vs : List Value} {ns : List Int} {d : Value} {Q : Value → Shared → Prop} (hh : A.handled = none) (hl : s.heap.IsList l vs.toArray) (hi : IntsAre vs ns)
   (q0 : ns = [] → ∀ h' tk, (∀ b o, s.heap.get? b = some o → h'.get? b = some o) → Q d { s with heap := h', toks := tk })
   (q1 : ∀ M (t : Tok) h' tk, (∀ b o, s.heap.get? b = some o → h'.get? b = some o) → M ∈ ns → (∀ a ∈ ns, a ≤ M) → Q (.int M t) { s with heap := h', toks := tk }) :
   wpAny (model prog w) A (call (.builtin "max") [.ref l] [(Str.ofString "default", d)]) Q E s := by
 obtain ⟨xs, e⟩ := hi.allInts.items
 have hns : ns = xs.toList.map (·.1) := by rw [← hi.numsOf, ← nums_intItems, ← e]
 rw [e] at hl
 have nm : (toString "max" ++ toString ".loop" : String) = "max.loop" := by decide
 refine kmk_tree PySem.F.kind_max PySem.F.plain_max PySem.F.entry_max (args_maxD _ _) ?_
 show wpAny _ A.in1 (Builtin.Builtins.bindParams "max" ["key", "default"] 0 ⟨[], [(Str.ofString "default", d)]⟩ >>= _) _ _ s
 refine wpAny_bind (wpAny_of_eq (show Builtin.Builtins.bindParams "max" ["key", "default"] 0 ⟨[], [(Str.ofString "default", d)]⟩ = pure [none, some d] from rfl) ?_)
 refine wpAny_bind (wpAny_pure ?_)
 refine wpAny_bind (iter_intList hl fun s₂ e2 st hfp hlI => ?_)
 subst e2
 have W := (Walks.list (prog := prog) (w := w) (A := A.in1) hh _ l hlI (intItems xs)).toS
 refine wpAny_bind (wpAny_newList ?_ (Nat.zero_le _))
 rw [nm]
 have hB : (s.heap.push { cls := .type "list_iterator", data := .fields #[.ref l, .int 0 0] }).objs.size ∉ [s.heap.objs.size, l] := fun z => Nat.lt_irrefl _ (hfp _ z)
 have st' := W.frame 0 _ ((s.heap.push { cls := .type "list_iterator", data := .fields #[.ref l, .int 0 0] }).push { cls := .type "list", data := .seq #[] }) s.toks st (Nat.le_refl _) fun b _ o e => Heap.get?_push_of_some _ e
 have back : ∀ {z : Shared} {ws : List Addr}, (∀ b ∈ ws, b = s.heap.objs.size ∨ b = (s.heap.push { cls := .type "list_iterator", data := .fields #[.ref l, .int 0 0] }).objs.size) → (∀ b o, b ∉ ws → ((s.heap.push { cls := .type "list_iterator", data := .fields #[.ref l, .int 0 0] }).push { cls := .type "list", data := .seq #[] }).get? b = some o → z.heap.get? b = some o) → ∀ b o, s.heap.get? b = some o → z.heap.get? b = some o := by
   intro z ws hw h b o e
   have lb := Heap.lt_size e
   refine h b o (fun hb => ?_) (Heap.get?_push_of_some _ (Heap.get?_push_of_some _ e))
   rcases hw b hb with rfl | rfl
   · exact Nat.lt_irrefl _ lb
   · rw [Heap.size_push] at lb; exact Nat.lt_irrefl _ (Nat.lt_trans (Nat.lt_succ_self _) lb)
 by_cases h0 : 0 < xs.size
 · refine wpAny_pure ⟨plainId_quiet F.plain_max_loop _, mx_first W _ (CmpOf.ints_gt (numAt xs) (fun _ _ => intItems_at)) _ hB (by simpa [intItems] using h0) st' (Heap.get?_push_size _ rfl) fun v z hv mv => ?_⟩
   obtain ⟨t, rfl⟩ := intItems_at hv
   obtain ⟨h1, h2⟩ := argBest_gt (numAt xs) (xs.size - 1)
   have hsz : (intItems xs).size = xs.size := by simp [intItems]
   rw [hsz]
   have ez : z = { s with heap := z.heap, toks := z.toks } := by
     obtain ⟨zh, zg, zd, zt, zo⟩ := z
     have g1 : zg = s.gens := mv.gens
     have g2 : zd = s.drawn := mv.drawn
     have g3 : zo = s.os := mv.os
     rw [g1, g2, g3]
   show Q _ z
   rw [ez]
   refine q1 _ t _ _ (back (ws := [(s.heap.push { cls := .type "list_iterator", data := .fields #[.ref l, .int 0 0] }).objs.size, s.heap.objs.size]) (by simp [or_comm]) mv.heap) ?_ fun a ha => ?_
   · rw [hns, numAt_eq]; exact getD_mem (by rw [List.length_map, Array.length_toList]; omega)
   · rw [hns] at ha
     obtain ⟨j, hj, rfl⟩ := mem_getD ha
     rw [List.length_map, Array.length_toList] at hj
     rw [← numAt_eq]; exact h2 j (by omega)
 · have x0 : xs = #[] := by
     have : xs.size = 0 := by omega
     exact Array.eq_empty_of_size_eq_zero this
   subst x0
   refine wpAny_pure ⟨plainId_quiet F.plain_max_loop _, mx_none W (by simp [intItems]) _ hB st' (Heap.get?_push_size _ rfl) fun z mv => ?_⟩
   have ez : z = { s with heap := z.heap, toks := z.toks } := by
     obtain ⟨zh, zg, zd, zt, zo⟩ := z
     have g1 : zg = s.gens := mv.gens
     have g2 : zd = s.drawn := mv.drawn
     have g3 : zo = s.os := mv.os
     rw [g1, g2, g3]
   show Q d z
   rw [ez]
   exact q0 (by rw [hns]; rfl) _ _ (back (ws := [s.heap.objs.size]) (by simp) mv.heap)
def rMaxD (K : W.Frag) (c : Int) (x : V) (H : Hp) (Q : VK) : Prop := ∃ l ns, x = .ref l ∧ SqL K H l (ns.map V.int) ∧ (ns = [] → Q (.int c) H) ∧ ∀ M ∈ ns, (∀ a ∈ ns, a ≤ M) → Q (.int M) H
theorem k_maxD (K : W.Frag) {e : Expr} {te : TE} {c : Int} {jc : Nat} {p p2 kpos pos : Pos} (hc : X.calm = true) (he : PE X e te) (hm : X.mg "max" = none) (h : X.K = K := by rfl) (hg : Gl X "max" := by rfl) (hp : plainE e = true := by rfl) :
   PE X (.Call (.Name "max" p) [e] [⟨some "default", .Constant (.int c) jc p2, kpos⟩] pos) (tUn (rMaxD K c) te) := by
 subst h
 intro pins s σ H Q I hw
 refine wpAny_Call_Name_kw (ld_blt I hg hm boot_max ?_)
 refine callWith_kw ?_ (by rw [star_of hp]; rfl) (by rw [star_of hp]; rfl)
 rw [star_of hp]
 show wpAny _ _ (spliced ((false, eval e X.env) :: backTo pos (starEach [] X.env))) _ _ s
 refine Calls.spliced_cons (thn (he pins s σ H _ I hw) fun u s1 ⟨xv, H1, I1, r1, q1⟩ => Calls.spliced_nil ?_)
 have hkv := pk_cons (nm := some "default") (kpos := kpos) (pe_int (X := X) (i := c) (j := jc) (pos := p2)) (pk_nil (X := X)) pos pins s1 σ H1 (fun zs H2 => zs = [.int c] ∧ H2 = H1) I1 ⟨rfl, rfl⟩
 refine thn hkv fun ws s2 ⟨zs, H2, I2, rz, e1, e2⟩ => ?_
 subst e1 e2
 obtain ⟨w1, rfl, rw1⟩ := rz.one
 obtain ⟨l, ns, rfl, hl, q0, q2⟩ := q1
 cases r1
 obtain ⟨its, rv, pl, hz⟩ := I2.list hl
 refine max_default (I2.ok.hd hc) pl.isList (ints_are rv) (fun h0 h' tk kp => ⟨_, _, I2.kept kp, rw1, q0 h0⟩) (fun M t h' tk kp hM hmx => ⟨.int M, _, I2.kept kp, ⟨t, rfl⟩, q2 M hM hmx⟩)
def rMaxL (K : W.Frag) : List V → Hp → VK → Prop := fun xs H Q => ∃ l ns, xs = [.ref l] ∧ SqL K H l (ns.map V.int) ∧ ns ≠ [] ∧ ∀ M ∈ ns, (∀ a ∈ ns, a ≤ M) → Q (.int M) H
theorem call_maxL (hc : X.calm = true) : CallR X (.builtin "max") (rMaxL X.K) := by
 intro pins s σ H xs us Q I r h
 obtain ⟨l, ns, rfl, hl, hne, q⟩ := h
 obtain ⟨u, rfl, ru⟩ := vals1 r
 cases ru
 obtain ⟨its, rv, pl, hz⟩ := I.list hl
 have hi := ints_are rv
 obtain ⟨xs, e⟩ := hi.allInts.items
 have hns : ns = xs.toList.map (·.1) := by rw [← hi.numsOf, ← nums_intItems, ← e]
 have pl' := pl.isList
 rw [e] at pl'
 have h0 : 0 < xs.size := by
   have := List.length_pos_iff.mpr hne
   rw [hns, List.length_map, Array.length_toList] at this; exact this
 refine max_intList (I.ok.hd hc) pl' h0 fun v h' tk hv hk => ?_
 obtain ⟨t, rfl⟩ := intItems_at hv
 obtain ⟨h1, h2⟩ := argBest_gt (numAt xs) (xs.size - 1)
 refine ⟨.int _, _, I.kept hk, ⟨t, rfl⟩, q _ ?_ fun a ha => ?_⟩
 · rw [hns, numAt_eq]; exact getD_mem (by rw [List.length_map, Array.length_toList]; omega)
 · rw [hns] at ha
   obtain ⟨j, hj, rfl⟩ := mem_getD ha
   rw [List.length_map, Array.length_toList] at hj
   rw [← numAt_eq]; exact h2 j (by omega)
theorem k_maxL (K : W.Frag) (hc : X.calm = true) (h : X.K = K := by rfl) : CallR X (.builtin "max") (rMaxL K) := h ▸ call_maxL hc
end
end L2
namespace L2
open PySem PySem.Spec PyProof.Rows PySem.W
structure HS where
 heard : List Msg
 held : List Msg
 lost : List Int
def HS.next (s : HS) : Int := (s.heard.length : Int) + (s.lost.length : Int) + 1
def hasN (ms : List Msg) (n : Int) : Bool := ms.any fun m => decide (m.n = n)
def findN (ms : List Msg) (n : Int) : Option Msg := ms.find? fun m => decide (m.n = n)
def dropN (ms : List Msg) (n : Int) : List Msg := ms.filter fun m => decide (m.n ≠ n)
def putM (ms : List Msg) (m : Msg) : List Msg := if hasN ms m.n = true then ms.map (fun x => if x.n = m.n then m else x) else ms ++ [m]
theorem findN_some {ms : List Msg} {n : Int} {m : Msg} (h : findN ms n = some m) : m ∈ ms ∧ m.n = n := ⟨List.mem_of_find?_eq_some h, by simpa using List.find?_some h⟩
theorem findN_none {ms : List Msg} {n : Int} : findN ms n = none ↔ ∀ m ∈ ms, m.n ≠ n := by
 unfold findN
 rw [List.find?_eq_none]
 constructor
 · intro h m hm; simpa using h m hm
 · intro h m hm; simpa using h m hm
theorem hasN_iff {ms : List Msg} {n : Int} : hasN ms n = true ↔ ∃ m ∈ ms, m.n = n := by
 unfold hasN
 rw [List.any_eq_true]
 constructor
 · rintro ⟨m, hm, e⟩; exact ⟨m, hm, of_decide_eq_true e⟩
 · rintro ⟨m, hm, e⟩; exact ⟨m, hm, decide_eq_true e⟩
theorem dropN_mem {ms : List Msg} {n : Int} {m : Msg} : m ∈ dropN ms n ↔ m ∈ ms ∧ m.n ≠ n := by
 unfold dropN
 rw [List.mem_filter]
 simp
theorem dropN_lt {ms : List Msg} {m : Msg} (h : m ∈ ms) : (dropN ms m.n).length < ms.length := by
 unfold dropN
 exact List.length_filter_lt_length_iff_exists.mpr ⟨m, h, by simp⟩
theorem dropN_diff {ms : List Msg} {n : Int} (d : Diff ms) : Diff (dropN ms n) := (List.filter_sublist.map Msg.n).nodup d
theorem dropN_len {ms : List Msg} (d : Diff ms) {m : Msg} (h : m ∈ ms) : (dropN ms m.n).length + 1 = ms.length := by
 induction ms with
 | nil => cases h
 | cons x r ih =>
   have d' : Diff r := (List.nodup_cons.mp d).2
   have hx : x.n ∉ r.map (·.n) := (List.nodup_cons.mp d).1
   by_cases e : x.n = m.n
   · have : dropN (x :: r) m.n = r := by
       unfold dropN
       rw [List.filter_cons_of_neg (by simp [e])]
       refine List.filter_eq_self.mpr fun y hy => ?_
       refine decide_eq_true fun z => hx ?_
       rw [e, ← z]
       exact List.mem_map_of_mem hy
     rw [this]; rfl
   · have hm : m ∈ r := by
       rcases List.mem_cons.mp h with rfl | z
       · exact absurd rfl e
       · exact z
     have : dropN (x :: r) m.n = x :: dropN r m.n := by
       unfold dropN
       rw [List.filter_cons_of_pos (by simp [e])]
     rw [this, List.length_cons, List.length_cons, ← ih d' hm]
theorem putM_new {ms : List Msg} {m : Msg} (h : ∀ x ∈ ms, x.n ≠ m.n) : putM ms m = ms ++ [m] := by
 unfold putM
 rw [if_neg]
 intro z
 obtain ⟨x, hx, e⟩ := hasN_iff.mp z
 exact h x hx e
theorem putM_old {ms : List Msg} {m : Msg} (h : m ∈ ms) (hs : ∀ x ∈ ms, x.n = m.n → x = m) : putM ms m = ms := by
 unfold putM
 rw [if_pos (hasN_iff.mpr ⟨m, h, rfl⟩)]
 have : ms.map (fun x => if x.n = m.n then m else x) = ms.map id := List.map_congr_left fun x hx => by
   show (if x.n = m.n then m else x) = x
   by_cases e : x.n = m.n
   · rw [if_pos e, hs x hx e]
   · rw [if_neg e]
 rw [this, List.map_id]
theorem putM_case {ms : List Msg} {m : Msg} (hs : ∀ x ∈ ms, x.n = m.n → x = m) : (m ∈ ms ∧ putM ms m = ms) ∨ ((∀ x ∈ ms, x.n ≠ m.n) ∧ putM ms m = ms ++ [m]) := by
 by_cases h : m ∈ ms
 · exact .inl ⟨h, putM_old h hs⟩
 · have h' : ∀ x ∈ ms, x.n ≠ m.n := fun x hx e => h (hs x hx e ▸ hx)
   exact .inr ⟨h', putM_new h'⟩
theorem putM_mem {ms : List Msg} {m x : Msg} (hs : ∀ x ∈ ms, x.n = m.n → x = m) : x ∈ putM ms m ↔ x ∈ ms ∨ x = m := by
 rcases putM_case hs with ⟨h, e⟩ | ⟨h, e⟩
 · rw [e]
   constructor
   · exact .inl
   · rintro (z | rfl)
     · exact z
     · exact h
 · rw [e, List.mem_append, List.mem_singleton]
theorem putM_diff {ms : List Msg} {m : Msg} (hs : ∀ x ∈ ms, x.n = m.n → x = m) (d : Diff ms) : Diff (putM ms m) := by
 rcases putM_case hs with ⟨h, e⟩ | ⟨h, e⟩
 · rw [e]; exact d
 · rw [e]
   unfold Diff
   rw [List.map_append]
   refine List.nodup_append.mpr ⟨d, by simp, fun a ha b hb => ?_⟩
   obtain ⟨x, hx, rfl⟩ := List.mem_map.mp ha
   simp only [List.map_cons, List.map_nil, List.mem_singleton] at hb
   rw [hb]; exact h x hx
theorem putM_len {ms : List Msg} {m : Msg} : (putM ms m).length ≤ ms.length + 1 := by
 unfold putM
 split
 · rw [List.length_map]; omega
 · rw [List.length_append]; exact Nat.le_refl _
def hearS (s : HS) : HS :=
 match h : findN s.held s.next with
 | none => s
 | some m => hearS ⟨s.heard ++ [m], dropN s.held m.n, s.lost⟩
termination_by s.held.length
decreasing_by exact dropN_lt (findN_some h).1
theorem hearS_none {s : HS} (h : findN s.held s.next = none) : hearS s = s := by
 rw [hearS]
 split
 · rfl
 · rename_i m e; rw [h] at e; cases e
theorem hearS_some {s : HS} {m : Msg} (h : findN s.held s.next = some m) : hearS s = hearS ⟨s.heard ++ [m], dropN s.held m.n, s.lost⟩ := by
 rw [hearS]
 split
 · rename_i e; rw [h] at e; cases e
 · rename_i m' e
   rw [h] at e
   cases e; rfl
theorem hearS_ind {P : HS → Prop} (hs : ∀ s m, P s → findN s.held s.next = some m → P ⟨s.heard ++ [m], dropN s.held m.n, s.lost⟩) : ∀ s, P s → P (hearS s) ∧ findN (hearS s).held (hearS s).next = none
 | s, h => by
   cases e : findN s.held s.next with
   | none => rw [hearS_none e]; exact ⟨h, e⟩
   | some m =>
     rw [hearS_some e]
     exact hearS_ind hs ⟨s.heard ++ [m], dropN s.held m.n, s.lost⟩ (hs s m h e)
termination_by s => s.held.length
decreasing_by exact dropN_lt (findN_some e).1
theorem hearS_lost (s : HS) : (hearS s).lost = s.lost := (hearS_ind (P := fun t => t.lost = s.lost) (fun _ _ h _ => h) s rfl).1
theorem next_snoc {h : List Msg} {d : List Msg} {l : List Int} {m : Msg} : HS.next ⟨h ++ [m], d, l⟩ = HS.next ⟨h, d, l⟩ + 1 := by
 show ((h ++ [m]).length : Int) + l.length + 1 = (h.length : Int) + l.length + 1 + 1
 rw [List.length_append]; show ((h.length + 1 : Nat) : Int) + _ + 1 = _; omega
theorem hearS_next (s : HS) : s.next ≤ (hearS s).next := (hearS_ind (P := fun t => s.next ≤ t.next) (fun t m h _ => by rw [next_snoc]; exact Int.le_trans h (by show t.next ≤ t.next + 1; omega)) s (Int.le_refl _)).1
def lose (s : HS) : HS := ⟨s.heard, s.held, s.lost ++ [s.next]⟩
theorem lose_next (s : HS) : (lose s).next = s.next + 1 := by
 show (s.heard.length : Int) + ((s.lost ++ [s.next]).length : Int) + 1 = (s.heard.length : Int) + s.lost.length + 1 + 1
 rw [List.length_append]; show _ + ((s.lost.length + 1 : Nat) : Int) + 1 = _; omega
def giveS (n : Int) (s : HS) : HS := if s.next < n then giveS n (hearS (lose s)) else s
termination_by (n - s.next).toNat
decreasing_by
 have h1 := hearS_next (lose s)
 rw [lose_next] at h1
 omega
theorem giveS_lt {n : Int} {s : HS} (h : s.next < n) : giveS n s = giveS n (hearS (lose s)) := by rw [giveS, if_pos h]
theorem giveS_ge {n : Int} {s : HS} (h : ¬ s.next < n) : giveS n s = s := by rw [giveS, if_neg h]
def addS (s : HS) (m : Msg) : HS := if m.n ≥ s.next then ⟨s.heard, putM s.held m, s.lost⟩ else s
def takeS (s : HS) (ms : List Msg) : HS := hearS (ms.foldl addS s)
theorem addS_next (s : HS) (m : Msg) : (addS s m).next = s.next := by unfold addS; split <;> rfl
theorem addS_heard (s : HS) (m : Msg) : (addS s m).heard = s.heard := by unfold addS; split <;> rfl
theorem addS_lost (s : HS) (m : Msg) : (addS s m).lost = s.lost := by unfold addS; split <;> rfl
theorem adds_heard : ∀ (ms : List Msg) (s : HS), (ms.foldl addS s).heard = s.heard
 | [], _ => rfl
 | m :: r, s => by rw [List.foldl_cons, adds_heard r, addS_heard]
theorem adds_lost : ∀ (ms : List Msg) (s : HS), (ms.foldl addS s).lost = s.lost
 | [], _ => rfl
 | m :: r, s => by rw [List.foldl_cons, adds_lost r, addS_lost]
theorem adds_next (ms : List Msg) (s : HS) : (ms.foldl addS s).next = s.next := by unfold HS.next; rw [adds_heard, adds_lost]
def Fits (s : HS) (ms : List Msg) : Prop := (∀ m ∈ ms, ∀ x, x ∈ s.heard ∨ x ∈ s.held → x.n = m.n → x = m) ∧ ∀ m ∈ ms, ∀ x ∈ ms, x.n = m.n → x = m
inductive DI (H : Hp) : List (Key × V) → List Msg → Prop
 | nil : DI H [] []
 | cons {v : V} {m : Msg} {r : List (Key × V)} {ms : List Msg} : Has H v (mD m) → DI H r ms → DI H ((Sum.inl m.n, v) :: r) (m :: ms)
theorem DI.same {H H' : Hp} (e : Same H H') : ∀ {kvs : List (Key × V)} {ms : List Msg}, DI H kvs ms → DI H' kvs ms
 | _, _, .nil => .nil
 | _, _, .cons h t => .cons (h.same e) (DI.same e t)
theorem DI.tups {H H' : Hp} (e : Tups H H') : ∀ {kvs : List (Key × V)} {ms : List Msg}, DI H kvs ms → DI H' kvs ms
 | _, _, .nil => .nil
 | _, _, .cons h t => .cons (h.tups e (noLst_m _)) (DI.tups e t)
theorem DI.len {H : Hp} : ∀ {kvs : List (Key × V)} {ms : List Msg}, DI H kvs ms → kvs.length = ms.length
 | _, _, .nil => rfl
 | _, _, .cons _ t => by rw [List.length_cons, List.length_cons, DI.len t]
theorem DI.any {H : Hp} (n : Int) : ∀ {kvs : List (Key × V)} {ms : List Msg}, DI H kvs ms → (kvs.any fun kv => decide (kv.1 = Sum.inl n)) = hasN ms n
 | _, _, .nil => rfl
 | _, _, .cons (m := m') h r => by
   unfold hasN
   rw [List.any_cons, List.any_cons, DI.any n r]
   congr 1
   exact decide_eq_decide.mpr ⟨fun z => Sum.inl.inj z, fun z => congrArg Sum.inl z⟩
theorem DI.repl {H : Hp} {v : V} {m : Msg} (h : Has H v (mD m)) : ∀ {kvs : List (Key × V)} {ms : List Msg}, DI H kvs ms → DI H (kvs.map fun kv => if kv.1 = Sum.inl m.n then (kv.1, v) else kv) (ms.map fun x => if x.n = m.n then m else x)
 | _, _, .nil => .nil
 | _, _, .cons (m := m') h' r => by
   rw [List.map_cons, List.map_cons]
   by_cases e : m'.n = m.n
   · rw [if_pos (by rw [e]), if_pos e]
     show DI H ((Sum.inl m'.n, v) :: _) _
     rw [e]; exact .cons h (DI.repl h r)
   · rw [if_neg (fun z => e (Sum.inl.inj z)), if_neg e]; exact .cons h' (DI.repl h r)
theorem DI.snoc {H : Hp} {v : V} {m : Msg} (h : Has H v (mD m)) : ∀ {kvs : List (Key × V)} {ms : List Msg}, DI H kvs ms → DI H (kvs ++ [(Sum.inl m.n, v)]) (ms ++ [m])
 | _, _, .nil => .cons h .nil
 | _, _, .cons h' r => .cons h' (DI.snoc h r)
theorem DI.put {H : Hp} {v : V} {m : Msg} (h : Has H v (mD m)) {kvs : List (Key × V)} {ms : List Msg} (d : DI H kvs ms) : DI H (putK kvs (Sum.inl m.n) v) (putM ms m) := by
 unfold putK putM
 rw [d.any m.n]
 split
 · exact d.repl h
 · exact d.snoc h
theorem DI.drop {H : Hp} (n : Int) : ∀ {kvs : List (Key × V)} {ms : List Msg}, DI H kvs ms → DI H (dropK kvs (Sum.inl n)) (dropN ms n)
 | _, _, .nil => .nil
 | _, _, .cons (m := m') h r => by
   unfold dropK dropN
   by_cases e : m'.n = n
   · rw [List.filter_cons_of_neg (by simp [e]), List.filter_cons_of_neg (by simp [e])]
     exact DI.drop n r
   · rw [List.filter_cons_of_pos (by simpa using e), List.filter_cons_of_pos (by simpa using e)]
     exact .cons h (DI.drop n r)
theorem DI.none {H : Hp} (n : Int) : ∀ {kvs : List (Key × V)} {ms : List Msg}, DI H kvs ms → findN ms n = none → valV kvs (Sum.inl n) = none
 | _, _, .nil, _ => rfl
 | _, _, .cons (m := m') h r, e => by
   have e' := findN_none.mp e
   rw [valV_neg (by intro z; exact e' m' (by simp) (Sum.inl.inj z))]
   exact DI.none n r (findN_none.mpr fun x hx => e' x (by simp [hx]))
theorem DI.some {H : Hp} (n : Int) {m : Msg} : ∀ {kvs : List (Key × V)} {ms : List Msg}, DI H kvs ms → findN ms n = some m → ∃ c, valV kvs (Sum.inl n) = some (.ref c) ∧ H c = some (mT m)
 | _, _, .nil, e => by cases e
 | _, _, .cons (m := m') h r, e => by
   by_cases z : m'.n = n
   · unfold findN at e
     rw [List.find?_cons_of_pos (by simp [z])] at e
     cases e
     obtain ⟨c, rfl, hc⟩ := has_msg h
     exact ⟨c, valV_pos (by rw [z]), hc⟩
   · unfold findN at e
     rw [List.find?_cons_of_neg (by simp [z])] at e
     obtain ⟨c, h1, h2⟩ := DI.some n r e
     exact ⟨c, by rw [valV_neg (by intro y; exact z (Sum.inl.inj y))]; exact h1, h2⟩
theorem hasN_find {ms : List Msg} {n : Int} : hasN ms n = (findN ms n).isSome := by
 cases e : findN ms n with
 | none =>
   have := findN_none.mp e
   rw [show hasN ms n = false from Bool.eq_false_iff.mpr fun z => by obtain ⟨m, hm, en⟩ := hasN_iff.mp z; exact this m hm en]; rfl
 | some m => exact hasN_iff.mpr ⟨m, (findN_some e).1, (findN_some e).2⟩
theorem DI.isSome {H : Hp} {kvs : List (Key × V)} {ms : List Msg} (d : DI H kvs ms) (n : Int) : (valV kvs (Sum.inl n)).isSome = hasN ms n := by
 rw [hasN_find]
 cases e : findN ms n with
 | none => rw [d.none n e]; rfl
 | some m => obtain ⟨c, hc, _⟩ := d.some n e; rw [hc]; rfl
theorem rgs_succ (lo : Int) (n : Nat) : rgs lo (n + 1) = rgs lo n ++ [lo + (n : Int)] := by unfold rgs; rw [List.range_succ, List.map_append]; rfl
def hF (nx : Int) (q h k g : Addr) (ex : List (Str × V)) : List (Str × V) := ("next_number", .int nx) :: ("past", .ref q) :: ("held", .ref h) :: ("known", .ref k) :: ("given_up", .ref g) :: ex
section
variable {nx : Int} {q h k g : Addr} {ex : List (Str × V)}
theorem hF_next : (hF nx q h k g ex).lookup ("next_number" : Str) = some (V.int nx) := lk_hit
theorem hF_past : (hF nx q h k g ex).lookup ("past" : Str) = some (V.ref q) := (lk_miss (by decide +kernel)).trans lk_hit
theorem hF_held : (hF nx q h k g ex).lookup ("held" : Str) = some (V.ref h) := (lk_miss (by decide +kernel)).trans ((lk_miss (by decide +kernel)).trans lk_hit)
theorem hF_known : (hF nx q h k g ex).lookup ("known" : Str) = some (V.ref k) := (lk_miss (by decide +kernel)).trans ((lk_miss (by decide +kernel)).trans ((lk_miss (by decide +kernel)).trans lk_hit))
theorem hF_given : (hF nx q h k g ex).lookup ("given_up" : Str) = some (V.ref g) := (lk_miss (by decide +kernel)).trans ((lk_miss (by decide +kernel)).trans ((lk_miss (by decide +kernel)).trans ((lk_miss (by decide +kernel)).trans lk_hit)))
theorem hF_no {f : Str} (h1 : ¬ f = "next_number") (h2 : ¬ f = "past") (h3 : ¬ f = "held") (h4 : ¬ f = "known") (h5 : ¬ f = "given_up") : (hF nx q h k g ex).lookup f = ex.lookup f :=
 (lk_miss h1).trans ((lk_miss h2).trans ((lk_miss h3).trans ((lk_miss h4).trans (lk_miss h5))))
theorem hF_make : putF "given_up" (.ref g) (putF "known" (.ref k) (putF "held" (.ref h) (putF "past" (.ref q) (putF "next_number" (.int nx) [])))) = hF nx q h k g [] := by
 show putF "given_up" (.ref g) (putF "known" (.ref k) (putF "held" (.ref h) (putF "past" (.ref q) [("next_number", .int nx)]))) = _
 rw [pf_miss (by decide +kernel)]
 show putF "given_up" (.ref g) (putF "known" (.ref k) (putF "held" (.ref h) [("next_number", .int nx), ("past", .ref q)])) = _
 rw [pf_miss (by decide +kernel), pf_miss (by decide +kernel)]
 show putF "given_up" (.ref g) (putF "known" (.ref k) [("next_number", .int nx), ("past", .ref q), ("held", .ref h)]) = _
 rw [pf_miss (by decide +kernel), pf_miss (by decide +kernel), pf_miss (by decide +kernel)]
 show putF "given_up" (.ref g) [("next_number", .int nx), ("past", .ref q), ("held", .ref h), ("known", .ref k)] = _
 rw [pf_miss (by decide +kernel), pf_miss (by decide +kernel), pf_miss (by decide +kernel), pf_miss (by decide +kernel)]
 rfl
theorem hF_setNext {nx' : Int} : putF "next_number" (.int nx') (hF nx q h k g ex) = hF nx' q h k g ex := by
 unfold hF
 rw [pf_hit]
end
structure HearC (K : W.Frag) (C : Addr) : Prop where
 cl_Hearer : Cls K C
 n_next_number : NoAttr K C "next_number"
 n_past : NoAttr K C "past"
 n_held : NoAttr K C "held"
 n_known : NoAttr K C "known"
 n_given_up : NoAttr K C "given_up"
structure HA where
 p : Addr
 q : Addr
 h : Addr
 k : Addr
 g : Addr
def HA.fp (a : HA) : List Addr := [a.p, a.q, a.h, a.k, a.g]
def KnowN (H : Hp) (k : Addr) (s : HS) : Prop := ∃ kvs ms, H k = some (.dK kvs) ∧ DI H kvs ms ∧ Diff ms ∧ ms.length ≤ s.heard.length + s.held.length ∧ ∀ m, m ∈ ms ↔ m ∈ s.heard ∨ m ∈ s.held
structure HAt (C : Addr) (H : Hp) (a : HA) (s : HS) (ex : List (Str × V)) : Prop where
 ob : ∃ dx, H a.p = some (.ins C dx (hF s.next a.q a.h a.k a.g ex))
 pa : ∃ ys, H a.q = some (.lst ys) ∧ Ms H ys s.heard
 he : ∃ kvs, H a.h = some (.dK kvs) ∧ DI H kvs s.held
 kn : KnowN H a.k s
 lo : H a.g = some (.lst (s.lost.map V.int))
 nqg : a.q ≠ a.g
 nhk : a.h ≠ a.k
 exn : ∀ f : Str, ¬ f = "keep" → ex.lookup f = none
 exl : ex.length < 100
theorem hF_len {nx : Int} {q h k g : Addr} {ex : List (Str × V)} (hx : ex.length < 100) : (hF nx q h k g ex).length < 1000 := by show ex.length + 1 + 1 + 1 + 1 + 1 < 1000; omega
section
variable {C : Addr} {H H' : Hp} {a : HA} {s : HS} {ex : List (Str × V)}
theorem KnowN.tups {k : Addr} (h : KnowN H k s) (e : H' k = H k) (t : Tups H H') : KnowN H' k s := by
 obtain ⟨kvs, ms, h1, h2, h3, h4, h5⟩ := h
 exact ⟨kvs, ms, by rw [e]; exact h1, h2.tups t, h3, h4, h5⟩
theorem HAt.live (h : HAt C H a s ex) : ∀ c ∈ a.fp, ∃ o, H c = some o := by
 obtain ⟨⟨dx, h1⟩, ⟨ys, h2, _⟩, ⟨kvs, h3, _⟩, ⟨kvs', _, h4, _⟩, h5, _, _, _, _⟩ := h
 intro c hc
 simp only [HA.fp, List.mem_cons, List.not_mem_nil, or_false] at hc
 rcases hc with rfl | rfl | rfl | rfl | rfl
 · exact ⟨_, h1⟩
 · exact ⟨_, h2⟩
 · exact ⟨_, h3⟩
 · exact ⟨_, h4⟩
 · exact ⟨_, h5⟩
theorem HAt.step {ps ps' : List Addr} (h : HAt C H a s ex) (st : Stp ps H ps' H') (hd : ∀ c ∈ a.fp, c ∉ ps) : HAt C H' a s ex := by
 have hd' : ∀ c, c ∈ a.fp → c ∉ ps := hd
 obtain ⟨⟨dx, h1⟩, ⟨ys, h2, h3⟩, ⟨kvs, h4, h5⟩, hk, h6, h7, h8, h9, h10⟩ := id h
 have e : ∀ c ∈ a.fp, H' c = H c := fun c hc => by
   obtain ⟨o, ho⟩ := h.live c hc
   rw [ho]; exact st.keep ho (hd c hc)
 exact ⟨⟨dx, by rw [e _ (by simp [HA.fp])]; exact h1⟩, ⟨ys, by rw [e _ (by simp [HA.fp])]; exact h2, h3.step st⟩, ⟨kvs, by rw [e _ (by simp [HA.fp])]; exact h4, h5.tups st.tup⟩, hk.tups (e _ (by simp [HA.fp])) st.tup, by rw [e _ (by simp [HA.fp])]; exact h6, h7, h8, h9, h10⟩
theorem HAt.same (h : HAt C H a s ex) (e : Same H H') : HAt C H' a s ex := h.step (e.step []) fun _ _ => List.not_mem_nil
theorem HAt.out {ps ps' : List Addr} (h : HAt C H a s ex) (st : Stp ps H ps' H') (hd : ∀ c ∈ a.fp, c ∉ ps) : ∀ c ∈ a.fp, c ∉ ps' := fun c hc => by
 obtain ⟨o, ho⟩ := h.live c hc
 exact st.out ho (hd c hc)
theorem HAt.free (h : HAt C H a s ex) {c : Addr} (hc : H c = none) : c ∉ a.fp := fun z => by
 obtain ⟨o, ho⟩ := h.live c z
 rw [ho] at hc; cases hc
theorem HAt.apart (h : HAt C H a s ex) : a.p ≠ a.q ∧ a.p ≠ a.h ∧ a.p ≠ a.k ∧ a.p ≠ a.g ∧ a.q ≠ a.h ∧ a.q ≠ a.k ∧ a.q ≠ a.g ∧ a.h ≠ a.k ∧ a.h ≠ a.g ∧ a.k ≠ a.g := by
 obtain ⟨⟨dx, h1⟩, ⟨ys, h2, _⟩, ⟨kvs, h3, _⟩, ⟨kvs', _, h4, _⟩, h5, h6, h7, _, _⟩ := h
 exact ⟨ne_of h1 h2 (by intro z; cases z), ne_of h1 h3 (by intro z; cases z), ne_of h1 h4 (by intro z; cases z), ne_of h1 h5 (by intro z; cases z), ne_of h2 h3 (by intro z; cases z), ne_of h2 h4 (by intro z; cases z), h6, h7, ne_of h3 h5 (by intro z; cases z), ne_of h4 h5 (by intro z; cases z)⟩
end
def HS.small (s : HS) : Prop := s.heard.length + s.held.length + s.lost.length < 3000
def hs0 : HS := ⟨[], [], []⟩
section
variable (C : Addr) (ex : List (Str × V))
def spInitH : Sp := fun vs H Q _ => ∃ (p dx : Addr), vs = [.ref p] ∧ H p = some (.ins C dx []) ∧ ∀ a H', a.p = p → HAt C H' a hs0 [] → Stp [p] H a.fp H' → Q .non H'
def spExpects : Sp := fun vs H Q _ => ∃ a s ex, vs = [.ref (HA.p a)] ∧ HAt C H a s ex ∧ Q (.int s.next) H
def spHear : Sp := fun vs H Q _ => ∃ a s ex, vs = [.ref (HA.p a)] ∧ HAt C H a s ex ∧ Diff s.held ∧ s.small ∧
 ∀ l ys found H', HAt C H' a (hearS s) ex → (hearS s).heard = s.heard ++ found → Stp a.fp H (l :: a.fp) H' → H l = none → l ∉ a.fp → H' l = some (.lst ys) → Ms H' ys found → Q (.ref l) H'
def spRefuse : Sp := fun vs H Q _ => ∃ a s ex b xs ms, vs = [.ref (HA.p a), .ref b] ∧ HAt C H a s ex ∧ H b = some (.lst xs) ∧ Ms H xs ms ∧ ms.length < 1000 ∧ Fits s ms ∧ (∀ m ∈ ms, mOk m) ∧ ∀ H', Same H H' → Q .non H'
def spTakeAll : Sp := fun vs H Q _ => ∃ a s ex b xs ms, vs = [.ref (HA.p a), .ref b] ∧ HAt C H a s ex ∧ H b = some (.lst xs) ∧ Ms H xs ms ∧ ms.length < 1000 ∧ Fits s ms ∧ (∀ m ∈ ms, mOk m) ∧ Diff s.held ∧ s.heard.length + s.held.length + s.lost.length < 1000 ∧
 ∀ l ys found H', HAt C H' a (takeS s ms) ex → (takeS s ms).heard = s.heard ++ found → Stp a.fp H (l :: a.fp) H' → H l = none → l ∉ a.fp → H' l = some (.lst ys) → Ms H' ys found → Q (.ref l) H'
def spHeard : Sp := fun vs H Q _ => ∃ a s ex, vs = [.ref (HA.p a)] ∧ HAt C H a s ex ∧ ∀ l ys, H l = none → Ms (upd H l (.lst ys)) ys s.heard → Q (.ref l) (upd H l (.lst ys))
def spLost : Sp := fun vs H Q _ => ∃ a s ex, vs = [.ref (HA.p a)] ∧ HAt C H a s ex ∧ ∀ l, H l = none → Q (.ref l) (upd H l (.lst (s.lost.map V.int)))
def spGive : Sp := fun vs H Q _ => ∃ a s ex n, vs = [.ref (HA.p a), .int n] ∧ HAt C H a s ex ∧ Diff s.held ∧ s.heard.length + s.held.length < 500 ∧ s.lost.length < 500 ∧ n < 500 ∧
 ∀ l ys found H', HAt C H' a (giveS n s) ex → (giveS n s).heard = s.heard ++ found → Stp a.fp H (l :: a.fp) H' → H l = none → l ∉ a.fp → H' l = some (.lst ys) → Ms H' ys found → Q (.ref l) H'
end
end L2
namespace L2
open PySem PySem.Spec PyProof.Rows PySem.W
theorem Rows.at {R : List Msg} (h : Rows R) {m : Msg} (hm : m ∈ R) : ∃ (i : Nat) (hi : i < R.length), R[i] = m ∧ m.n = (i : Int) + 1 := by
 obtain ⟨i, hi, e⟩ := List.getElem_of_mem hm
 exact ⟨i, hi, e, by rw [← e]; exact h i hi⟩
theorem Rows.uniq {R : List Msg} (h : Rows R) {a b : Msg} (ha : a ∈ R) (hb : b ∈ R) (e : a.n = b.n) : a = b := h.rise.diff.eq ha hb e
theorem rgs_mem {lo : Int} {n : Nat} {x : Int} : x ∈ rgs lo n ↔ lo ≤ x ∧ x < lo + (n : Int) := by
 unfold rgs
 rw [List.mem_map]
 constructor
 · rintro ⟨i, hi, rfl⟩
   rw [List.mem_range] at hi; omega
 · rintro ⟨h1, h2⟩
   exact ⟨(x - lo).toNat, List.mem_range.mpr (by omega), by omega⟩
theorem rgs_rise (lo : Int) : ∀ n : Nat, (rgs lo n).Pairwise (· < ·)
 | 0 => .nil
 | n + 1 => by
   rw [rgs_succ]
   refine List.pairwise_append.mpr ⟨rgs_rise lo n, List.pairwise_singleton _ _, fun a ha b hb => ?_⟩
   rw [rgs_mem] at ha
   rw [List.mem_singleton] at hb
   omega
theorem rgs_nodup (lo : Int) (n : Nat) : (rgs lo n).Nodup := (rgs_rise lo n).imp fun h => Int.ne_of_lt h
theorem sort_rgs {ns : List Int} {lo : Int} {n : Nat} (hd : ns.Nodup) (h : ∀ x, x ∈ ns ↔ lo ≤ x ∧ x < lo + (n : Int)) : sortI ns = rgs lo n :=
 (eq_sortI ((List.perm_ext_iff_of_nodup (rgs_nodup lo n) hd).mpr fun x => rgs_mem.trans (h x).symm) ((rgs_rise lo n).imp fun h => Int.le_of_lt h)).symm
theorem hear_len {s : HS} (d : Diff s.held) : (hearS s).heard.length + (hearS s).held.length = s.heard.length + s.held.length := by
 refine ((hearS_ind (P := fun t => Diff t.held ∧ t.heard.length + t.held.length = s.heard.length + s.held.length) ?_ s ⟨d, rfl⟩).1).2
 rintro t m ⟨h1, h2⟩ e
 refine ⟨dropN_diff h1, ?_⟩
 have := dropN_len h1 (findN_some e).1
 show (t.heard ++ [m]).length + (dropN t.held m.n).length = _
 rw [List.length_append, List.length_singleton]; omega
structure HearK (K : W.Frag) (mg : Str → Option Value) (C : Addr) : Prop extends HearC K C where
 mg_Hearer : mg "Hearer" = some (.ref C)
end L2
namespace L2
open PySem PySem.Spec PyProof.Rows PySem.W
structure Hw0 (R : List Msg) (s : HS) : Prop where
 sub : ∀ m, m ∈ s.heard ∨ m ∈ s.held → m ∈ R
 dh : Diff s.held
 ge : ∀ m ∈ s.held, s.next ≤ m.n
 rise : Rise s.heard
 lt : ∀ m ∈ s.heard, m.n < s.next
 cov : ∀ n : Int, 1 ≤ n → n < s.next → (∃ m ∈ s.heard, m.n = n) ∨ n ∈ s.lost
 lr : s.lost.Pairwise (· < ·)
 ll : ∀ n ∈ s.lost, 1 ≤ n ∧ n < s.next ∧ n ≤ (R.length : Int) ∧ ∀ m ∈ s.heard, m.n ≠ n
structure Hw (R : List Msg) (s : HS) : Prop extends Hw0 R s where
 gt : ∀ m ∈ s.held, s.next < m.n
theorem HS.next_pos (s : HS) : 1 ≤ s.next := by unfold HS.next; omega
theorem Hw.start (R : List Msg) : Hw R hs0 where
 sub := fun m h => by rcases h with h | h <;> exact absurd h List.not_mem_nil
 dh := List.nodup_nil
 ge := fun m h => absurd h List.not_mem_nil
 rise := .nil
 lt := fun m h => absurd h List.not_mem_nil
 cov := fun n h1 h2 => by have : hs0.next = 1 := rfl; omega
 lr := .nil
 ll := fun n h => absurd h List.not_mem_nil
 gt := fun m h => absurd h List.not_mem_nil
theorem Hw0.more {R R' : List Msg} {s : HS} (h : Hw0 R s) (hs : ∀ m ∈ R, m ∈ R') (hl : R.length ≤ R'.length) : Hw0 R' s :=
 ⟨fun m hm => hs m (h.sub m hm), h.dh, h.ge, h.rise, h.lt, h.cov, h.lr, fun n hn => by obtain ⟨a, b, c, d⟩ := h.ll n hn; exact ⟨a, b, by omega, d⟩⟩
theorem Hw.more {R R' : List Msg} {s : HS} (h : Hw R s) (hs : ∀ m ∈ R, m ∈ R') (hl : R.length ≤ R'.length) : Hw R' s := ⟨h.toHw0.more hs hl, h.gt⟩
theorem Hw0.hear {R : List Msg} {s : HS} (h : Hw0 R s) : Hw R (hearS s) := by
 have ⟨h1, e⟩ := hearS_ind (P := fun s => Hw0 R s) (fun t m h e => by
   obtain ⟨hm, hn⟩ := findN_some e
   have hx : HS.next ⟨t.heard ++ [m], dropN t.held m.n, t.lost⟩ = t.next + 1 := next_snoc
   refine ⟨fun x hx => ?_, dropN_diff h.dh, fun x hx' => ?_, ?_, fun x hx' => ?_, fun n h1 h2 => ?_, h.lr, fun n hn' => ?_⟩
   · rcases hx with z | z
     · rcases List.mem_append.mp z with y | y
       · exact h.sub x (.inl y)
       · rw [List.mem_singleton] at y; rw [y]; exact h.sub m (.inr hm)
     · exact h.sub x (.inr (dropN_mem.mp z).1)
   · obtain ⟨a, b⟩ := dropN_mem.mp hx'
     have := h.ge x a
     rw [hx]; omega
   · refine List.pairwise_append.mpr ⟨h.rise, List.pairwise_singleton _ _, fun x hx' y hy => ?_⟩
     rw [List.mem_singleton] at hy
     rw [hy]; have := h.lt x hx'; omega
   · rw [hx]
     rcases List.mem_append.mp hx' with y | y
     · have := h.lt x y; omega
     · rw [List.mem_singleton] at y; rw [y]; omega
   · rw [hx] at h2
     by_cases z : n = t.next
     · exact .inl ⟨m, List.mem_append.mpr (.inr (by simp)), by omega⟩
     · rcases h.cov n h1 (by omega) with ⟨x, a, b⟩ | y
       · exact .inl ⟨x, List.mem_append.mpr (.inl a), b⟩
       · exact .inr y
   · obtain ⟨a, b, c, d⟩ := h.ll n hn'
     refine ⟨a, by rw [hx]; omega, c, fun x hx' => ?_⟩
     rcases List.mem_append.mp hx' with y | y
     · exact d x y
     · rw [List.mem_singleton] at y; rw [y]; omega) s h
 refine ⟨h1, fun m hm => ?_⟩
 have a := h1.ge m hm
 have b := findN_none.mp e m hm
 omega
theorem Hw.lose {R : List Msg} {s : HS} (h : Hw R s) (hn : s.next ≤ (R.length : Int)) : Hw0 R (lose s) := by
 have hx := lose_next s
 refine ⟨h.sub, h.dh, fun m hm => ?_, h.rise, fun m hm => ?_, fun n h1 h2 => ?_, ?_, fun n hn' => ?_⟩
 · rw [hx]; have := h.gt m hm; omega
 · rw [hx]; have := h.lt m hm; omega
 · rw [hx] at h2
   by_cases z : n = s.next
   · exact .inr (List.mem_append.mpr (.inr (by rw [z]; simp)))
   · rcases h.cov n h1 (by omega) with y | y
     · exact .inl y
     · exact .inr (List.mem_append.mpr (.inl y))
 · refine List.pairwise_append.mpr ⟨h.lr, List.pairwise_singleton _ _, fun a ha b hb => ?_⟩
   rw [List.mem_singleton] at hb
   rw [hb]; exact (h.ll a ha).2.1
 · rw [hx]
   rcases List.mem_append.mp hn' with y | y
   · obtain ⟨a, b, c, d⟩ := h.ll n y
     exact ⟨a, by omega, c, d⟩
   · rw [List.mem_singleton] at y
     have := s.next_pos
     exact ⟨by omega, by omega, by omega, fun m hm => by have := h.lt m hm; omega⟩
theorem Hw0.add {R : List Msg} (hR : Rows R) {s : HS} (h : Hw0 R s) {m : Msg} (hm : m ∈ R) : Hw0 R (addS s m) := by
 unfold addS
 by_cases z : m.n ≥ s.next
 · rw [if_pos z]
   have hs : ∀ x ∈ s.held, x.n = m.n → x = m := fun x hx e => hR.uniq (h.sub x (.inr hx)) hm e
   refine ⟨fun x hx => ?_, putM_diff hs h.dh, fun x hx => ?_, h.rise, h.lt, h.cov, h.lr, h.ll⟩
   · rcases hx with y | y
     · exact h.sub x (.inl y)
     · rcases (putM_mem hs).mp y with w | w
       · exact h.sub x (.inr w)
       · rw [w]; exact hm
   · rcases (putM_mem hs).mp hx with w | w
     · exact h.ge x w
     · rw [w]; exact z
 · rw [if_neg z]; exact h
theorem Hw0.adds {R : List Msg} (hR : Rows R) : ∀ (ms : List Msg) {s : HS}, Hw0 R s → (∀ m ∈ ms, m ∈ R) → Hw0 R (ms.foldl addS s)
 | [], _, h, _ => h
 | m :: r, s, h, hm => by rw [List.foldl_cons]; exact Hw0.adds hR r (h.add hR (hm m (by simp))) fun x hx => hm x (by simp [hx])
theorem Hw.take {R : List Msg} (hR : Rows R) {s : HS} (h : Hw R s) {ms : List Msg} (hm : ∀ m ∈ ms, m ∈ R) : Hw R (takeS s ms) := (h.toHw0.adds hR ms hm).hear
theorem Hw0.fits {R : List Msg} (hR : Rows R) {s : HS} (h : Hw0 R s) {ms : List Msg} (hm : ∀ m ∈ ms, m ∈ R) : Fits s ms :=
 ⟨fun m hm' x hx e => hR.uniq (h.sub x hx) (hm m hm') e, fun m hm' x hx e => hR.uniq (hm x hx) (hm m hm') e⟩
theorem hear_mem2 {s : HS} (d : Diff s.held) : ∀ m, (m ∈ (hearS s).heard ∨ m ∈ (hearS s).held) ↔ (m ∈ s.heard ∨ m ∈ s.held) := by
 refine ((hearS_ind (P := fun t => Diff t.held ∧ ∀ m, (m ∈ t.heard ∨ m ∈ t.held) ↔ (m ∈ s.heard ∨ m ∈ s.held)) ?_ s ⟨d, fun _ => Iff.rfl⟩).1).2
 rintro t m ⟨h1, h3⟩ e
 obtain ⟨hm, hn⟩ := findN_some e
 refine ⟨dropN_diff h1, fun x => ?_⟩
 rw [← h3 x]
 show (x ∈ t.heard ++ [m] ∨ x ∈ dropN t.held m.n) ↔ _
 rw [List.mem_append, List.mem_singleton, dropN_mem]
 constructor
 · rintro ((z | rfl) | ⟨z, _⟩)
   · exact .inl z
   · exact .inr hm
   · exact .inr z
 · rintro (z | z)
   · exact .inl (.inl z)
   · by_cases ee : x.n = m.n
     · exact .inl (.inr (h1.eq z hm ee))
     · exact .inr ⟨z, ee⟩
theorem Hw.take_mem {R : List Msg} (hR : Rows R) {s : HS} (h : Hw R s) {ms : List Msg} (hm : ∀ m ∈ ms, m ∈ R) : ∀ x, (x ∈ (takeS s ms).heard ∨ x ∈ (takeS s ms).held) ↔ (x ∈ s.heard ∨ x ∈ s.held ∨ (x ∈ ms ∧ s.next ≤ x.n)) := by
 have key : ∀ (ms : List Msg) {s : HS}, Hw0 R s → (∀ m ∈ ms, m ∈ R) → ∀ x, (x ∈ (ms.foldl addS s).heard ∨ x ∈ (ms.foldl addS s).held) ↔ (x ∈ s.heard ∨ x ∈ s.held ∨ (x ∈ ms ∧ s.next ≤ x.n)) := by
   intro ms
   induction ms with
   | nil => intro s _ _ x; simp
   | cons m r ih =>
     intro s h hm x
     rw [List.foldl_cons, ih (h.add hR (hm m (by simp))) (fun y hy => hm y (by simp [hy])) x, addS_heard, addS_next]
     have hs : ∀ x ∈ s.held, x.n = m.n → x = m := fun x hx e => hR.uniq (h.sub x (.inr hx)) (hm m (by simp)) e
     have e : x ∈ (addS s m).held ↔ x ∈ s.held ∨ (x = m ∧ s.next ≤ x.n) := by
       unfold addS
       by_cases z : m.n ≥ s.next
       · rw [if_pos z]
         show x ∈ putM s.held m ↔ _
         rw [putM_mem hs]
         exact or_congr Iff.rfl ⟨fun y => ⟨y, by rw [y]; exact z⟩, fun y => y.1⟩
       · rw [if_neg z]
         exact ⟨.inl, fun y => by rcases y with y | ⟨rfl, y⟩; exact y; exact absurd y z⟩
     rw [e, List.mem_cons]
     constructor
     · rintro (z | (z | z) | z)
       · exact .inl z
       · exact .inr (.inl z)
       · exact .inr (.inr ⟨.inl z.1, z.2⟩)
       · exact .inr (.inr ⟨.inr z.1, z.2⟩)
     · rintro (z | z | ⟨z | z, y⟩)
       · exact .inl z
       · exact .inr (.inl (.inl z))
       · exact .inr (.inl (.inr ⟨z, y⟩))
       · exact .inr (.inr ⟨z, y⟩)
 intro x
 unfold takeS
 rw [hear_mem2 (h.toHw0.adds hR ms hm).dh]
 exact key ms h.toHw0 hm x
theorem take_lost (s : HS) (ms : List Msg) : (takeS s ms).lost = s.lost := by unfold takeS; rw [hearS_lost, adds_lost]
theorem take_next (s : HS) (ms : List Msg) : s.next ≤ (takeS s ms).next := by unfold takeS; have := hearS_next (ms.foldl addS s); rw [adds_next] at this; exact this
theorem giveS_ind {P : HS → Prop} {n : Int} (hs : ∀ s, P s → s.next < n → P (hearS (lose s))) : ∀ s, P s → P (giveS n s)
 | s, h => by
   by_cases z : s.next < n
   · rw [giveS_lt z]
     exact giveS_ind hs (hearS (lose s)) (hs s h z)
   · rw [giveS_ge z]; exact h
termination_by s => (n - s.next).toNat
decreasing_by
 have h1 := hearS_next (lose s)
 rw [lose_next] at h1
 omega
theorem giveS_end (n : Int) (s : HS) : n ≤ (giveS n s).next := by
 have key : ∀ (k : Nat) (s : HS), (n - s.next).toNat ≤ k → n ≤ (giveS n s).next := by
   intro k
   induction k with
   | zero => intro s hk; rw [giveS_ge (by omega)]; omega
   | succ k ih =>
     intro s hk
     by_cases z : s.next < n
     · rw [giveS_lt z]
       have h1 := hearS_next (lose s)
       rw [lose_next] at h1
       exact ih _ (by omega)
     · rw [giveS_ge z]; omega
 exact key _ s (Nat.le_refl _)
theorem Hw.give {R : List Msg} {s : HS} (h : Hw R s) {n : Int} (hn : n ≤ (R.length : Int) + 1) : Hw R (giveS n s) := giveS_ind (P := Hw R) (fun t ht hlt => (ht.lose (by omega)).hear) s h
theorem give_next (n : Int) (s : HS) : s.next ≤ (giveS n s).next := giveS_ind (P := fun t => s.next ≤ t.next) (fun t ht _ => by have := hearS_next (lose t); rw [lose_next] at this; omega) s (Int.le_refl _)
theorem give_mem {n : Int} {s : HS} (d : Diff s.held) : Diff (giveS n s).held ∧ (∀ m, (m ∈ (giveS n s).heard ∨ m ∈ (giveS n s).held) ↔ (m ∈ s.heard ∨ m ∈ s.held)) ∧ (giveS n s).heard.length + (giveS n s).held.length = s.heard.length + s.held.length := by
 refine giveS_ind (P := fun t => Diff t.held ∧ (∀ m, (m ∈ t.heard ∨ m ∈ t.held) ↔ (m ∈ s.heard ∨ m ∈ s.held)) ∧ t.heard.length + t.held.length = s.heard.length + s.held.length) (fun t ⟨h1, h2, h3⟩ _ => ?_) s ⟨d, fun _ => Iff.rfl, rfl⟩
 have hl : Diff (lose t).held := h1
 refine ⟨(hearS_ind (P := fun u => Diff u.held) (fun u m hu _ => dropN_diff hu) (lose t) hl).1, fun m => (hear_mem2 hl m).trans (h2 m), ?_⟩
 rw [hear_len hl]; exact h3
theorem give_lost_new {n : Int} {s : HS} : ∀ x ∈ (giveS n s).lost, x ∈ s.lost ∨ (s.next ≤ x ∧ x < n) := by
 refine (giveS_ind (P := fun t => s.next ≤ t.next ∧ ∀ x ∈ t.lost, x ∈ s.lost ∨ (s.next ≤ x ∧ x < n)) (fun t ⟨h1, h2⟩ hlt => ?_) s ⟨Int.le_refl _, fun _ h => .inl h⟩).2
 refine ⟨by have := hearS_next (lose t); rw [lose_next] at this; omega, fun x hx => ?_⟩
 rw [hearS_lost] at hx
 rcases List.mem_append.mp hx with z | z
 · exact h2 x z
 · rw [List.mem_singleton] at z; exact .inr ⟨by omega, by omega⟩
theorem give_lost_old {n : Int} {s : HS} : ∀ x ∈ s.lost, x ∈ (giveS n s).lost := by
 refine giveS_ind (P := fun t => ∀ x ∈ s.lost, x ∈ t.lost) (fun t h _ x hx => ?_) s fun _ h => h
 rw [hearS_lost]
 exact List.mem_append.mpr (.inl (h x hx))
theorem Hw.give_lost {R : List Msg} {s : HS} (h : Hw R s) {n : Int} (hn : n ≤ (R.length : Int) + 1) (x : Int) : x ∈ (giveS n s).lost ↔ x ∈ s.lost ∨ (s.next ≤ x ∧ x < n ∧ ∀ m ∈ s.held, m.n ≠ x) := by
 have h' := h.give hn
 obtain ⟨_, hm, _⟩ := give_mem (n := n) h.dh
 have he := giveS_end n s
 have hp := s.next_pos
 constructor
 · intro hx
   rcases give_lost_new x hx with z | ⟨z1, z2⟩
   · exact .inl z
   · refine .inr ⟨z1, z2, fun m hm' e => ?_⟩
     obtain ⟨_, a, _, b⟩ := h'.ll x hx
     rcases (hm m).mpr (.inr hm') with y | y
     · exact b m y e
     · have := h'.gt m y; omega
 · rintro (z | ⟨z1, z2, z3⟩)
   · exact give_lost_old x z
   · rcases h'.cov x (by omega) (by omega) with ⟨m, hm', e⟩ | y
     · rcases (hm m).mp (.inl hm') with w | w
       · have := h.lt m w; omega
       · exact absurd e (z3 m w)
     · exact y
def catchS (k : Int) (all : List Msg) (s : HS) : HS :=
 takeS (if missedF k (s.next - 1) all > 0 then giveS ((all.length : Int) - ((lastK k all).length : Int) + 1) s else s) ((lastK k all).filter fun m => decide (m.n > s.next - 1))
theorem lastK_mem {k : Int} {all : List Msg} (h : Rows all) {m : Msg} (hm : m ∈ all) (hn : (all.length : Int) - ((lastK k all).length : Int) + 1 ≤ m.n) : m ∈ lastK k all := by
 unfold lastK
 rw [lastK_len] at hn
 obtain ⟨i, hi, e, en⟩ := h.at hm
 rw [List.mem_drop_iff_getElem]
 refine ⟨i - (all.length - k.toNat), by omega, ?_⟩
 subst e
 congr 1
 omega
theorem Hw.catch {k : Int} {all : List Msg} (hR : Rows all) (hk : 0 ≤ k) {s : HS} (h : Hw all s) (hn : s.next ≤ (all.length : Int) + 1) :
   Hw all (catchS k all s) ∧ (catchS k all s).next = (all.length : Int) + 1 ∧ (catchS k all s).held = [] ∧
   (∀ x, x ∈ (catchS k all s).lost ↔ x ∈ s.lost ∨ (s.next ≤ x ∧ x < (all.length : Int) - ((lastK k all).length : Int) + 1 ∧ ∀ m ∈ s.held, m.n ≠ x)) := by
 have hll := lastK_len k all
 generalize hold : (all.length : Int) - ((lastK k all).length : Int) + 1 = old at *
 have hfR : ∀ m ∈ (lastK k all).filter (fun m => decide (m.n > s.next - 1)), m ∈ all := fun m hm => List.mem_of_mem_drop (List.mem_filter.mp hm).1
 have hms : missedF k (s.next - 1) all > 0 ↔ s.next < old := by
   have e : (all.length : Int) - ((lastK k all).length : Int) + 1 - 1 - (s.next - 1) = old - s.next := by omega
   unfold missedF
   rw [e]
   split <;> omega
 have hole : old ≤ (all.length : Int) + 1 := by omega
 unfold catchS
 rw [hold]
 generalize hs1 : (if missedF k (s.next - 1) all > 0 then giveS old s else s) = s1
 have f1 : Hw all s1 ∧ old ≤ s1.next ∧ s.next ≤ s1.next ∧ (∀ x, x ∈ s1.lost ↔ x ∈ s.lost ∨ (s.next ≤ x ∧ x < old ∧ ∀ m ∈ s.held, m.n ≠ x)) := by
   by_cases z : missedF k (s.next - 1) all > 0
   · rw [← hs1, if_pos z]
     exact ⟨h.give hole, giveS_end old s, give_next old s, h.give_lost hole⟩
   · rw [← hs1, if_neg z]
     have z' : ¬ s.next < old := fun y => z (hms.mpr y)
     exact ⟨h, by omega, Int.le_refl _, fun x => ⟨.inl, fun y => by rcases y with y | ⟨a, b, _⟩; exact y; omega⟩⟩
 obtain ⟨hw1, ho1, hn1, hl1⟩ := f1
 have hw2 := hw1.take hR hfR
 have hmem := hw1.take_mem hR hfR
 have hnx := take_next s1 ((lastK k all).filter fun m => decide (m.n > s.next - 1))
 have hlo := take_lost s1 ((lastK k all).filter fun m => decide (m.n > s.next - 1))
 generalize takeS s1 ((lastK k all).filter fun m => decide (m.n > s.next - 1)) = s2 at hw2 hmem hnx hlo
 have up : s2.next ≤ (all.length : Int) + 1 := by
   have hp := s2.next_pos
   by_cases z : s2.next = 1
   · omega
   · rcases hw2.cov (s2.next - 1) (by omega) (by omega) with ⟨m, hm, e⟩ | y
     · obtain ⟨i, hi, _, en⟩ := hR.at (hw2.sub m (.inl hm)); omega
     · have := (hw2.ll _ y).2.2.1; omega
 have dn : ¬ s2.next ≤ (all.length : Int) := fun z => by
   have hp := s2.next_pos
   have hi : (s2.next - 1).toNat < all.length := by omega
   have en := hR _ hi
   have hmR := List.getElem_mem hi
   have : all[(s2.next - 1).toNat] ∈ s2.heard ∨ all[(s2.next - 1).toNat] ∈ s2.held := by
     rw [hmem]
     refine .inr (.inr ⟨List.mem_filter.mpr ⟨lastK_mem hR hmR (by omega), decide_eq_true (by omega)⟩, by omega⟩)
   rcases this with y | y
   · have := hw2.lt _ y; omega
   · have := hw2.gt _ y; omega
 refine ⟨hw2, by omega, ?_, fun x => by rw [hlo]; exact hl1 x⟩
 cases q : s2.held with
 | nil => rfl
 | cons m r =>
   have hm : m ∈ s2.held := by rw [q]; simp
   have := hw2.gt m hm
   obtain ⟨i, hi, _, en⟩ := hR.at (hw2.sub m (.inr hm))
   omega
theorem Hw0.up {R : List Msg} (hR : Rows R) {s : HS} (h : Hw0 R s) : s.next ≤ (R.length : Int) + 1 := by
 have hp := s.next_pos
 by_cases z : s.next = 1
 · omega
 · rcases h.cov (s.next - 1) (by omega) (by omega) with ⟨m, hm, e⟩ | y
   · obtain ⟨i, hi, _, en⟩ := hR.at (h.sub m (.inl hm)); omega
   · have := (h.ll _ y).2.2.1; omega
theorem Hw.all_sorted {R : List Msg} (hR : Rows R) {s : HS} (h : Hw R s) : sortI (s.heard.map (·.n) ++ s.lost) = rgs 1 (s.next - 1).toNat := by
 have hp := s.next_pos
 refine sort_rgs ?_ fun x => ?_
 · refine List.nodup_append.mpr ⟨h.rise.diff, h.lr.imp Int.ne_of_lt, fun a ha b hb e => ?_⟩
   obtain ⟨m, hm, rfl⟩ := List.mem_map.mp ha
   exact (h.ll b hb).2.2.2 m hm e
 · rw [List.mem_append, List.mem_map]
   constructor
   · rintro (⟨m, hm, rfl⟩ | y)
     · have := h.lt m hm
       obtain ⟨i, hi, _, en⟩ := hR.at (h.sub m (.inl hm)); omega
     · have := h.ll x y; omega
   · rintro ⟨h1, h2⟩
     rcases h.cov x h1 (by omega) with ⟨m, hm, e⟩ | y
     · exact .inl ⟨m, hm, e⟩
     · exact .inr y
end L2
namespace L2
open PySem PySem.Spec PyProof.Rows PySem.W
theorem TAt.stp {C : Addr} {H H' : Hp} {p : Addr} {k r : Int} {all : List Msg} {s d : Addr} {ps ps' : List Addr} (h : TAt C H p k r all s d) (st : Stp ps H ps' H') (hd : ∀ c ∈ [p, s, d], c ∉ ps) : TAt C H' p k r all s d := by
 obtain ⟨⟨dx, h1⟩, ⟨ys, h2, h3⟩, ⟨kvs, h4, h5⟩⟩ := h
 exact ⟨⟨dx, st.keep h1 (hd _ (by simp))⟩, ⟨ys, st.keep h2 (hd _ (by simp)), h3.step st⟩, ⟨kvs, st.keep h4 (hd _ (by simp)), h5.tups st.tup⟩⟩
theorem TAt.live {C : Addr} {H : Hp} {p : Addr} {k r : Int} {all : List Msg} {s d : Addr} (h : TAt C H p k r all s d) : ∀ c ∈ [p, s, d], ∃ o, H c = some o := by
 obtain ⟨⟨dx, h1⟩, ⟨ys, h2, h3⟩, ⟨kvs, h4, h5⟩⟩ := h
 intro c hc
 simp only [List.mem_cons, List.not_mem_nil, or_false] at hc
 rcases hc with rfl | rfl | rfl
 · exact ⟨_, h1⟩
 · exact ⟨_, h2⟩
 · exact ⟨_, h4⟩
theorem TAt.out {C : Addr} {H H' : Hp} {p : Addr} {k r : Int} {all : List Msg} {s d : Addr} {ps ps' : List Addr} (h : TAt C H p k r all s d) (st : Stp ps H ps' H') (hd : ∀ c ∈ [p, s, d], c ∉ ps) : ∀ c ∈ [p, s, d], c ∉ ps' := fun c hc => by
 obtain ⟨o, ho⟩ := h.live c hc
 exact st.out ho (hd c hc)
end L2
namespace L2
open PySem PySem.Spec PyProof.Rows PySem.W
def IFlt (H : Hp) (ns : List Int) (p : Int → Bool) (f : Int → V) : Nat → List V → Hp → Prop := fun i ys H2 => H2 = H ∧ ys = ((ns.take i).filter p).map f
section
variable {K : W.Frag} {a : Addr} {ns : List Int} {g : TG} {tc : TT} {te : TE} {τ : St} {H : Hp} {f : Int → V} {p : Int → Bool}
theorem IFlt.zero : IFlt H ns p f 0 [] H := ⟨rfl, by simp⟩
theorem IFlt.next {i : Nat} (hi : i < ns.length) {ys : List V} (h : ys = ((ns.take i).filter p).map f) : (p ns[i] = true → ys ++ [f ns[i]] = ((ns.take (i + 1)).filter p).map f) ∧ (p ns[i] = false → ys = ((ns.take (i + 1)).filter p).map f) := by
 subst h
 rw [List.take_add_one, List.getElem?_eq_getElem hi]
 refine ⟨fun hp => ?_, fun hp => ?_⟩
 · rw [Option.toList_some, List.filter_append, List.map_append, List.filter_cons_of_pos hp]; rfl
 · rw [Option.toList_some, List.filter_append, List.map_append, List.filter_cons_of_neg (by rw [hp]; decide)]; simp
theorem IFlt.step (ha : H a = some (.lst (ns.map V.int)))
   (hs : ∀ n (R : VK) (N : Hp → Prop), n ∈ ns → (p n = true → R (f n) H) → (p n = false → N H) → g (.int n) τ H fun σ4 H4 => tc σ4 H4 fun b H5 => if b = true then te σ4 H5 R else N H5) :
   ∀ i ys H2, i < ns.length → IFlt H ns p f i ys H2 → (Itl K a).go i H2 ∧ ∀ x H3, (Itl K a).yld i H2 x H3 → g x τ H3 fun σ4 H4 => tc σ4 H4 fun b H5 => if b = true then te σ4 H5 fun y H6 => IFlt H ns p f (i + 1) (ys ++ [y]) H6 else IFlt H ns p f (i + 1) ys H5 := by
 rintro i ys H2 hi ⟨rfl, hy⟩
 have ec : (ns.map V.int)[i]? = some (V.int ns[i]) := by rw [List.getElem?_map, List.getElem?_eq_getElem hi]; rfl
 refine ⟨⟨_, .int ns[i], SqL.ofL ha, ec⟩, ?_⟩
 rintro x H3 ⟨rfl, hx⟩
 have hx' := hx _ (SqL.ofL ha)
 rw [ec] at hx'
 obtain rfl := Option.some.inj hx'
 obtain ⟨n1, n2⟩ := IFlt.next (p := p) (f := f) hi hy
 exact hs _ _ _ (List.getElem_mem hi) (fun hp => ⟨rfl, n1 hp⟩) (fun hp => ⟨rfl, n2 hp⟩)
theorem IFlt.done (ha : H a = some (.lst (ns.map V.int))) {ys : List V} {H2 : Hp} (h : IFlt H ns p f ns.length ys H2) : (Itl K a).stop ns.length H2 ∧ H = H2 ∧ ys = (ns.filter p).map f := by
 obtain ⟨rfl, rfl⟩ := h
 rw [List.take_length]
 exact ⟨⟨_, SqL.ofL ha, by rw [List.length_map]; exact Nat.le_refl _⟩, rfl, rfl⟩
end
end L2
namespace L2
open PySem PySem.Spec PyProof.Rows PySem.W
theorem inV_ints {n : Int} : ∀ {ns : List Int}, inV (.int n) (ns.map V.int) = true ↔ n ∈ ns
 | [] => by simp [inV]
 | a :: ns => by
   have h := inV_ints (n := n) (ns := ns)
   unfold inV at h ⊢
   rw [List.map_cons, List.any_cons, Bool.or_eq_true, h, List.mem_cons]
   show (a == n) = true ∨ _ ↔ _
   rw [beq_iff_eq]
   exact ⟨fun z => z.elim (fun y => .inl y.symm) .inr, fun z => z.elim (fun y => .inl y.symm) .inr⟩
theorem inV_no {n : Int} {ns : List Int} (h : n ∉ ns) : inV (.int n) (ns.map V.int) = false := by
 cases e : inV (.int n) (ns.map V.int) with
 | false => rfl
 | true => exact absurd (inV_ints.mp e) h
structure WS where
 room : Int
 way : List Msg
 rows : List Msg
 arr : Int
end L2
namespace L2
open PySem PySem.Spec PyProof.Rows PySem.W
theorem Stp.fr {f f' g : List Addr} {H H' : Hp} (st : Stp f H f' H') : Stp (f ++ g) H (f' ++ g) H' :=
 st.weak (fun c h => List.mem_append_left _ h) fun c h => (List.mem_append.mp h).elim .inl fun z => .inr (List.mem_append_right _ z)
theorem Stp.tl {f f' : List Addr} {l : Addr} {H H' : Hp} (st : Stp f H (l :: f') H') : Stp f H f' H' := ⟨st.1, st.2, fun c hc => st.3 c (List.mem_cons_of_mem _ hc)⟩
end L2
namespace L2
open PySem PySem.Spec PyProof.Rows PySem.W
def Itz (K : W.Frag) (l1 l2 : Addr) : It :=
 ⟨fun i H => ∃ xs ys x y, SqL K H l1 xs ∧ SqL K H l2 ys ∧ xs[i]? = some x ∧ ys[i]? = some y,
  fun i H v H' => ∃ T x y, v = .ref T ∧ H T = none ∧ H' = upd H T (.tup [x, y]) ∧ (∀ xs, SqL K H l1 xs → xs[i]? = some x) ∧ (∀ ys, SqL K H l2 ys → ys[i]? = some y),
  fun i H => ∃ xs ys, SqL K H l1 xs ∧ SqL K H l2 ys ∧ min xs.length ys.length = i⟩
section
variable {X : Cx} {pins : List (Addr × Obj)} {σ : St} {H : Hp} {s : Shared}
theorem Inv.turnedL {h' : Heap} {t' : Nat} {ch : List Addr} (I : Inv X pins σ H s) (k : ∀ b o, b ∉ ch → s.heap.get? b = some o → h'.get? b = some o) (hf : ∀ b ∈ ch, FpOk X pins H b) : Inv X pins σ H { s with heap := h', toks := t' } := by
 have nt : ∀ b u, H b = some u → b ∉ ch := fun b u q z => by rw [(hf b z).1] at q; cases q
 refine I.step (g' := s.gens) (d' := s.drawn) (ch := ch) (fun b hb => ?_) (fun b o _ _ hc q _ => k b o hc q) (fun b o _ _ hc q _ => ⟨o.slots, k b o hc q⟩) (fun _ _ _ _ n => n) (fun b o hc q => ⟨o, k b o hc q⟩)
   (fun _ _ q => q) (fun _ _ _ q => q) (fun b ps q => ⟨#[], by rw [q]; simp⟩) (fun m hm => ?_) (fun b u q => ?_) I.bare
 · obtain ⟨e0, e1, e2, e3, e4, e5⟩ := hf b hb
   exact ⟨e3, e1, e4, e5⟩
 · obtain ⟨o, es, ep, ho, r⟩ := hm
   exact ⟨o, es, ep, k _ _ (fun z => (hf _ z).2.1 rfl) ho, r⟩
 · refine (I.hok b u q).stay (fun c v hc z => ?_) (fun _ z => z) fun _ _ z => z
   rcases hc with rfl | hc
   · exact k _ _ (nt _ _ q) z
   · exact k _ _ (nt _ _ hc) z
end
theorem addr_ne {a b : Nat} (h : a < b ∨ b < a) : @Ne Addr a b := fun e => by
 have : a = b := e
 omega
def ZipSt (z TI TO i1 i2 l1 l2 : Addr) (i : Nat) (h : Heap) : Prop := IsZip h z TI TO .none ∧ IsPair h TI (.ref i1) (.ref i2) ∧ (∃ a b, IsPair h TO a b) ∧ h.IsListIter i1 l1 i ∧ h.IsListIter i2 l2 i
theorem turn_zip {P : Program} {w : World} {K : PySem.W.Frag} {elts : List Expr} {k : Nat} {pos : Pos} (z TI TO i1 i2 l1 l2 : Addr) (D : ZipApart z TI TO i1 i2 l1 l2) : Turn P w K (.Tuple elts k pos) (Itz K l1 l2) [z, TI, TO, i1, i2] z (ZipSt z TI TO i1 i2 l1 l2) where
 mem := by simp
 obj := fun i h st b hb => by
   obtain ⟨hz, hTI, ⟨a, b', hTO⟩, ⟨o1, ho1, _, hd1⟩, ⟨o2, ho2, _, hd2⟩⟩ := st
   simp only [List.mem_cons, List.not_mem_nil, or_false] at hb
   rcases hb with rfl | rfl | rfl | rfl | rfl
   · exact ⟨_, hz, fun v z => by cases z⟩
   · exact ⟨_, hTI, fun v z => by cases z⟩
   · exact ⟨_, hTO, fun v z => by cases z⟩
   · exact ⟨o1, ho1, fun v z => by rw [hd1] at z; cases z⟩
   · exact ⟨o2, ho2, fun v z => by rw [hd2] at z; cases z⟩
 keep := fun i h h' st k => by
   obtain ⟨hz, hTI, ⟨a, b', hTO⟩, ⟨o1, ho1, r1⟩, ⟨o2, ho2, r2⟩⟩ := st
   exact ⟨k z (by simp) _ hz, k TI (by simp) _ hTI, ⟨a, b', k TO (by simp) _ hTO⟩, ⟨o1, k i1 (by simp) _ ho1, r1⟩, ⟨o2, k i2 (by simp) _ ho2, r2⟩⟩
 item := by
   intro X hP hw hK hc i pins s σ H E I hf st hg
   subst hP hw hK
   obtain ⟨xs, ys, x, y, hq1, hq2, hx, hy⟩ := hg
   obtain ⟨its1, rv1, p1, hz1⟩ := I.list hq1
   obtain ⟨its2, rv2, p2, hz2⟩ := I.list hq2
   obtain ⟨u1, hu1, ru1⟩ := rv1.get hx
   obtain ⟨u2, hu2, ru2⟩ := rv2.get hy
   obtain ⟨hz, hTI, hTO, hi1, hi2⟩ := st
   have W := WalksT.zip2 (prog := X.prog) (w := X.w) (A := X.A) (I.ok.hd hc) z TI TO i1 i2 l1 l2 D its1.toArray its2.toArray
   have hin : i < min its1.toArray.size its2.toArray.size := by
     have a1 := (List.getElem?_eq_some_iff.mp hu1).1
     have a2 := (List.getElem?_eq_some_iff.mp hu2).1
     simp only [List.size_toArray]
     omega
   refine W.item i s _ _ hin ⟨hz, hTI, hTO, hi1, hi2, p1.isList, p2.isList⟩ fun T vals h' tk hPt hT hIs hMid kk => ?_
   obtain ⟨x1, y1, hPx, hPy, rfl⟩ := hPt
   have hx1 : x1 = u1 := by
     have q : its1.toArray[i]? = some x1 := hPx
     rw [show its1.toArray[i]? = its1[i]? by simp, hu1] at q
     exact (Option.some.inj q).symm
   have hy1 : y1 = u2 := by
     have q : its2.toArray[i]? = some y1 := hPy
     rw [show its2.toArray[i]? = its2[i]? by simp, hu2] at q
     exact (Option.some.inj q).symm
   subst hx1 hy1
   refine ⟨_, rfl, W.go elts k pos i T _ _ _ hMid fun h2 st2 kk2 => ?_⟩
   have kall : ∀ b o, b ∉ [z, TO, i1, i2] → s.heap.get? b = some o → h2.get? b = some o := fun b o hb q => kk2 b o (fun e => hb (by simp at e ⊢; simp [e])) (kk b o hb q)
   have I2 : Inv X pins σ H { s with heap := h2, toks := tk } := I.turnedL kall (fun b hb => hf b (by simp only [List.mem_cons, List.not_mem_nil, or_false] at hb ⊢; rcases hb with e | e | e | e <;> simp [e]))
   have hTe : T ∉ [z, TO, i1, i2] := W.apart i T h' hMid
   have hTn : H T = none := I.hok.fresh hT
   have hTI' : T ≠ TI := fun e => by
     have q : s.heap.get? TI = some _ := hTI
     exact absurd (Heap.lt_size q) (by rw [← e]; exact Nat.not_lt.mpr hT)
   obtain ⟨oT, hoT, hcT, nT, hdT⟩ := hIs
   have hoT2 := kk2 T oT (fun e => hTe (by simp at e ⊢; simp [e])) hoT
   have I3 := I2.track (D := T) (o := .tup [x, y]) (I.fpOk hT hTn) ⟨(show 2 ≤ sizeLine by decide), [x1, y1], .cons ru1 (.cons ru2 .nil), oT, hoT2, hcT, nT, hdT⟩
   refine ⟨.ref T, _, I3, rfl, ⟨T, x, y, rfl, hTn, rfl, fun zs hy => by rw [I.list_inj hy hq1]; exact hx, fun zs hy' => by rw [I.list_inj hy' hq2]; exact hy⟩, ⟨st2.1, st2.2.1, st2.2.2.1, st2.2.2.2.1, st2.2.2.2.2.1⟩, fun b hb => ?_⟩
   have hTb : b ≠ T := fun e => by
     rw [e] at hb
     simp only [List.mem_cons, List.not_mem_nil, or_false] at hb hTe
     rcases hb with e | e | e | e | e
     · exact hTe (.inl e)
     · exact hTI' e
     · exact hTe (.inr (.inl e))
     · exact hTe (.inr (.inr (.inl e)))
     · exact hTe (.inr (.inr (.inr e)))
   rw [upd_ne hTb]
   exact (hf b hb).1
 done := by
   intro X hP hw hK hc i pins s σ H E I hf st hg
   subst hP hw hK
   obtain ⟨xs, ys, hq1, hq2, hx⟩ := hg
   obtain ⟨its1, rv1, p1, hz1⟩ := I.list hq1
   obtain ⟨its2, rv2, p2, hz2⟩ := I.list hq2
   obtain ⟨hz, hTI, hTO, hi1, hi2⟩ := st
   have W := WalksT.zip2 (prog := X.prog) (w := X.w) (A := X.A) (I.ok.hd hc) z TI TO i1 i2 l1 l2 D its1.toArray its2.toArray
   have hin : min its1.toArray.size its2.toArray.size = i := by
     rw [← hx, rv1.length, rv2.length]; simp
   refine W.done s _ _ (by rw [hin]; exact ⟨hz, hTI, hTO, hi1, hi2, p1.isList, p2.isList⟩) fun h' tk kk => ⟨rfl, I.turnedL (fun b o hb q => kk b o hb q) (fun b hb => hf b (by simp only [List.mem_cons, List.not_mem_nil, or_false] at hb ⊢; rcases hb with e | e | e | e <;> simp [e]))⟩
 self := fun A i s Q E st h => wpAny_pyIter_zip st.1 h
def iZip (K : W.Frag) (ta : TA) : TI := fun σ H R => ta σ H fun vs H1 => ∃ a b, vs = [.ref a, .ref b] ∧ (∃ xs, SqL K H1 a xs) ∧ (∃ ys, SqL K H1 b ys) ∧ R (Itz K a b) H1
section
variable {X : Cx} {elts : List Expr} {k : Nat} {tpos : Pos}
theorem pi_zip (K : W.Frag) {a b : Expr} {ta : TA} {p pos : Pos} (hm : X.mg "zip" = none) (ha : PA X [a, b] ta) (hK : X.K = K := by rfl) (hg : Gl X "zip" := by rfl) (hs : starEach [a, b] X.env = [(false, eval a X.env), (false, eval b X.env)] := by rfl) (hs2 : starEach [b] X.env = [(false, eval b X.env)] := by rfl) :
   PI X (.Tuple elts k tpos) (.Call (.Name "zip" p) [a, b] [] pos) (iZip K ta) := by
 subst hK
 intro pins s σ H R I h
 refine Call_ (ld_blt I hg hm boot_zip (PyProof.Rows.callWith_type1 (thn (ha pos pins s σ H _ I h) fun us s1 ⟨vs, H1, I1, r1, q1⟩ => ?_) (by rw [hs, hs2]) (by rw [hs2]; rfl)))
 obtain ⟨l1, l2, e, ⟨xs, hq1⟩, ⟨ys, hq2⟩, q⟩ := q1
 subst e
 cases r1 with
 | cons r rr =>
   cases rr with
   | cons r' rr =>
     cases rr
     cases r
     cases r'
     obtain ⟨its1, rv1, pl1, hz1⟩ := I1.list hq1
     obtain ⟨its2, rv2, pl2, hz2⟩ := I1.list hq2
     have lt1 : l1 < s1.heap.objs.size := by obtain ⟨o, ho, _⟩ := pl1.isList; exact Heap.lt_size ho
     have lt2 : l2 < s1.heap.objs.size := by obtain ⟨o, ho, _⟩ := pl2.isList; exact Heap.lt_size ho
     refine call_zip_2 pl1.isList pl2.isList fun h2 hz hTI hTO hi1 hi2 hsz kk => ?_
     refine wpAny_pyIter_zip hz ?_
     have I2 : Inv X pins σ H1 { s1 with heap := h2 } := I1.kept (t' := s1.toks) kk
     refine ⟨s1.heap.objs.size + 4, [s1.heap.objs.size + 4, s1.heap.objs.size + 2, s1.heap.objs.size + 3, s1.heap.objs.size, s1.heap.objs.size + 1], _, _, H1, rfl, I2,
       turn_zip _ _ _ _ _ l1 l2 ⟨addr_ne (by omega), addr_ne (by omega), addr_ne (by omega), addr_ne (by omega), addr_ne (by omega), addr_ne (by omega), addr_ne (by omega), addr_ne (by omega), addr_ne (by omega), addr_ne (by omega), addr_ne (.inl (Nat.lt_add_right 4 lt1)), addr_ne (.inl (Nat.lt_add_right 3 lt1)), addr_ne (.inl lt1), addr_ne (.inl (Nat.lt_add_right 1 lt1)), addr_ne (.inl (Nat.lt_add_right 4 lt2)), addr_ne (.inl (Nat.lt_add_right 3 lt2)), addr_ne (.inl lt2), addr_ne (.inl (Nat.lt_add_right 1 lt2))⟩, ⟨hz, hTI, ⟨_, _, hTO⟩, hi1, hi2⟩, fun b hb => ?_, q⟩
     have hle : s1.heap.objs.size ≤ b := by
       simp only [List.mem_cons, List.not_mem_nil, or_false] at hb
       rcases hb with e | e | e | e | e
       · rw [e]; exact Nat.le_add_right _ _
       · rw [e]; exact Nat.le_add_right _ _
       · rw [e]; exact Nat.le_add_right _ _
       · rw [e]; exact Nat.le_refl _
       · rw [e]; exact Nat.le_add_right _ _
     exact I1.fpOk hle (I1.hok.fresh hle)
end
end L2
namespace L2
open PySem PySem.Spec PyProof.Rows PySem.W
def Ris (xs : Array Nat) : Prop := ∀ (i j : Nat) (hi : i < xs.size) (hj : j < xs.size), i < j → xs[i] < xs[j]
theorem Ris.le {xs : Array Nat} (h : Ris xs) {i j : Nat} (hi : i < xs.size) (hj : j < xs.size) (e : i ≤ j) : xs[i] ≤ xs[j] := by
 rcases Nat.lt_or_eq_of_le e with z | z
 · exact Nat.le_of_lt (h i j hi hj z)
 · subst z; exact Nat.le_refl _
theorem below_go {xs : Array Nat} {j : Nat} (hr : Ris xs) : ∀ (fuel lo hi : Nat), hi - lo ≤ fuel → lo ≤ hi → hi ≤ xs.size → (∀ i (h : i < xs.size), i < lo → xs[i] < j) → (∀ i (h : i < xs.size), hi ≤ i → j ≤ xs[i]) →
   SetTable.below.go xs j fuel lo hi ≤ xs.size ∧ (∀ i (h : i < xs.size), i < SetTable.below.go xs j fuel lo hi → xs[i] < j) ∧ (∀ i (h : i < xs.size), SetTable.below.go xs j fuel lo hi ≤ i → j ≤ xs[i])
 | 0, lo, hi, hf, hl, hs, h1, h2 => by
   have e : hi = lo := by omega
   subst e
   exact ⟨hs, h1, h2⟩
 | fuel + 1, lo, hi, hf, hl, hs, h1, h2 => by
   unfold SetTable.below.go
   by_cases z : lo < hi
   · rw [if_pos z]
     have hm : (lo + hi) / 2 < xs.size := by omega
     dsimp only
     rw [Array.getD_eq_getD_getElem?, Array.getElem?_eq_getElem hm, Option.getD_some]
     by_cases y : xs[(lo + hi) / 2] < j
     · rw [if_pos y]
       exact below_go hr fuel _ _ (by omega) (by omega) hs (fun i h hi => Nat.lt_of_le_of_lt (hr.le h hm (by omega)) y) h2
     · rw [if_neg y]
       exact below_go hr fuel _ _ (by omega) (by omega) (by omega) h1 (fun i h hi => Nat.le_trans (Nat.not_lt.mp y) (hr.le hm h hi))
   · rw [if_neg z]
     have e : hi = lo := by omega
     subst e
     exact ⟨hs, h1, h2⟩
theorem below_spec {xs : Array Nat} (hr : Ris xs) (j : Nat) : SetTable.below xs j ≤ xs.size ∧ (∀ i (h : i < xs.size), i < SetTable.below xs j → xs[i] < j) ∧ (∀ i (h : i < xs.size), SetTable.below xs j ≤ i → j ≤ xs[i]) :=
 below_go hr xs.size 0 xs.size (by omega) (Nat.zero_le _) (Nat.le_refl _) (fun i h z => by omega) (fun i h z => by omega)
theorem ris_list {xs : Array Nat} (h : xs.toList.Pairwise (· < ·)) : Ris xs := fun i j hi hj e => by
 have := List.pairwise_iff_getElem.mp h i j (by simpa using hi) (by simpa using hj) e
 simpa using this
theorem list_ris {xs : Array Nat} (h : Ris xs) : xs.toList.Pairwise (· < ·) := List.pairwise_iff_getElem.mpr fun i j hi hj e => by
 have := h i j (by simpa using hi) (by simpa using hj) e
 simpa using this
theorem ins_ris {xs : Array Nat} (hr : Ris xs) {j : Nat} (hj : xs[SetTable.below xs j]? ≠ some j) : Ris (SetTable.insertAt xs (SetTable.below xs j) j) := by
 obtain ⟨h0, h1, h2⟩ := below_spec hr j
 refine ris_list ?_
 rw [SetTable.toList_insertAt]
 generalize SetTable.below xs j = p at *
 have hl := list_ris hr
 refine List.pairwise_append.mpr ⟨hl.sublist (List.take_sublist _ _), List.pairwise_cons.mpr ⟨fun y hy => ?_, hl.sublist (List.drop_sublist _ _)⟩, fun x hx y hy => ?_⟩
 · obtain ⟨i, hi, e⟩ := List.getElem_of_mem hy
   rw [List.getElem_drop, Array.getElem_toList] at e
   rw [List.length_drop, Array.length_toList] at hi
   have z := h2 (p + i) (by omega) (by omega)
   rcases Nat.lt_or_eq_of_le z with w | w
   · rw [← e]; exact w
   · exfalso
     have hp := h2 p (by omega) (Nat.le_refl _)
     have hq := hr.le (i := p) (j := p + i) (by omega) (by omega) (by omega)
     refine hj ?_
     rw [Array.getElem?_eq_getElem (by omega)]
     congr 1; omega
 · obtain ⟨i, hi, e⟩ := List.getElem_of_mem hx
   rw [List.length_take, Array.length_toList] at hi
   rw [List.getElem_take, Array.getElem_toList] at e
   have hxj : x < j := by rw [← e]; exact h1 i (by omega) (by omega)
   rcases List.mem_cons.mp hy with rfl | hy
   · exact hxj
   · obtain ⟨k, hk, e2⟩ := List.getElem_of_mem hy
     rw [List.getElem_drop, Array.getElem_toList] at e2
     rw [List.length_drop, Array.length_toList] at hk
     have := h2 (p + k) (by omega) (by omega)
     omega
structure OkT (t : SetTable) (n : Nat) : Prop where
 fits : t.fits n = true
 ris : Ris t.place
 nd : t.dummies = #[]
structure OkW (t : SetTable) (n : Nat) : Prop where
 fits : t.fits n = true
 ris : Ris t.place
theorem has_empty (j : Nat) : SetTable.has #[] j = false := rfl
theorem probe_empty {t : SetTable} (hd : t.dummies = #[]) {f : Nat → Int} {h : Int} : ∀ (fuel : Nat) (p : SetTable.Probe) (j : Nat) (d : Option Nat), p.dummy = none → SetTable.probe.go t f h fuel p = some (.empty j d) → d = none ∧ t.place[SetTable.below t.place j]? ≠ some j
 | 0, p, j, d, _, e => by unfold SetTable.probe.go at e; cases e
 | fuel + 1, p, j, d, hp, e => by
   unfold SetTable.probe.go at e
   have adv : (t.advance p).dummy = none := by
     unfold SetTable.advance
     split <;> exact hp
   cases hs : t.slot p.j with
   | empty =>
     rw [hs] at e
     dsimp only at e
     have e' := Option.some.inj e
     injection e' with e1 e2
     subst e1
     refine ⟨by rw [← e2]; exact hp, fun z => ?_⟩
     unfold SetTable.slot at hs
     dsimp only at hs
     rw [z] at hs
     simp at hs
   | dummy =>
     exfalso
     unfold SetTable.slot at hs
     dsimp only at hs
     rw [hd, has_empty] at hs
     split at hs
     · cases hs
     · simp at hs
   | live i =>
     rw [hs] at e
     dsimp only at e
     split at e
     · cases e
     · exact probe_empty hd fuel _ j d adv e
theorem free_slot {t : SetTable} (hd : t.dummies = #[]) {h : Int} {j : Nat} {b : Bool} (e : t.freeSlot h = some (j, b)) : b = false ∧ t.place[SetTable.below t.place j]? ≠ some j := by
 unfold SetTable.freeSlot at e
 split at e
 · rename_i j' d e'
   obtain ⟨rfl, h2⟩ := probe_empty hd _ _ j' d rfl e'
   cases e
   exact ⟨rfl, h2⟩
 · cases e
theorem range_ris (n : Nat) : Ris (Array.range n) := fun i j hi hj e => by simpa using e
theorem okT_standIn (t : SetTable) (n : Nat) : OkT (t.standIn n) n := ⟨SetTable.standIn_fits t n, range_ris n, rfl⟩
theorem okT_or {t : SetTable} {n : Nat} (hr : Ris t.place) (hd : t.dummies = #[]) : OkT (t.orStandIn n) n := by
 unfold SetTable.orStandIn
 split
 · rename_i h; exact ⟨h, hr, hd⟩
 · exact okT_standIn t n
theorem orStandIn_led (t : SetTable) (n : Nat) : (t.orStandIn n).led = t.led := by
 unfold SetTable.orStandIn
 split <;> rfl
theorem layNew_ok {t : SetTable} {es : Array (Int × Value)} (ok : OkT t es.size) (h : Int) (x : Value) : OkT (layNew t es h x).2.1 (layNew t es h x).1.size ∧ (layNew t es h x).2.1.led = t.led := by
 unfold layNew
 split
 · rename_i j b e
   obtain ⟨rfl, h2⟩ := free_slot ok.nd e
   refine ⟨okT_or (ins_ris ok.ris h2) ?_, orStandIn_led _ _⟩
   show (if SetTable.has t.dummies j = true then _ else t.dummies) = #[]
   rw [ok.nd, has_empty, if_neg (by decide)]
 · exact ⟨by simpa using okT_standIn t (es.size + 1), rfl⟩
theorem range_pairs {f : Nat → Option Nat} (m : Nat) : ((List.range m).filterMap fun j => (f j).map (j, ·)).Pairwise (fun a b => a.1 < b.1) := by
 refine List.Pairwise.filterMap _ (R := (· < ·)) (fun a b hab c hc d hd => ?_) List.pairwise_lt_range
 obtain ⟨_, _, rfl⟩ := Option.map_eq_some_iff.mp hc
 obtain ⟨_, _, rfl⟩ := Option.map_eq_some_iff.mp hd
 exact hab
theorem laid_ris {mask finger moves : Nat} {led plain : Bool} {hs : Array Int} {t : SetTable} {o : Array Nat} (e : SetTable.laid mask finger moves led plain hs = some (t, o)) : Ris t.place ∧ t.dummies = #[] ∧ t.led = led := by
 unfold SetTable.laid at e
 cases h : SetTable.layClean mask hs with
 | none => rw [h] at e; cases e
 | some owner =>
   rw [h] at e
   have e' := Option.some.inj e
   injection e' with e1 e2
   subst e1
   refine ⟨ris_list ?_, rfl, rfl⟩
   show (((List.range (mask + 1)).filterMap fun j => (owner.getD j none).map (j, ·)).map (·.1)).Pairwise (· < ·)
   exact List.pairwise_map.mpr (range_pairs (mask + 1))
theorem relayAll_ok (t : SetTable) (es : Array (Int × Value)) (wanted : Nat) : OkT (relayAll t es wanted).2.1 (relayAll t es wanted).1.size ∧ (relayAll t es wanted).2.1.led = t.led := by
 unfold relayAll
 split
 · rename_i t' order e
   obtain ⟨h1, h2, h3⟩ := laid_ris e
   dsimp only
   split
   · rename_i hc
     exact ⟨⟨(Bool.and_eq_true_iff.mp hc).2, h1, h2⟩, h3⟩
   · exact ⟨okT_standIn t es.size, rfl⟩
 · exact ⟨okT_standIn t es.size, rfl⟩
theorem okT_plain {t : SetTable} {n : Nat} (h : OkT t n) : OkT { t with plain := false } n := ⟨h.fits, h.ris, h.nd⟩
theorem okT_fresh (led : Bool) : OkT (.fresh 0 0 led) 0 := ⟨rfl, fun i j hi _ _ => absurd hi (Nat.not_lt_zero _), rfl⟩
end L2
namespace L2
open PySem PySem.Spec PyProof.Rows PySem.W
section
variable {prog : Program} {w : World} {K : Type} [DecidableEq K] (knd : KeyKind prog w K)
def Apart (e f : Int × Value) : Prop := ∀ k, knd.is k e.2 = true → knd.is k f.2 = true → False
structure KObj (o : Obj) (es : Array (Int × Value)) (ep : Nat) (t : SetTable) (S : K → Prop) : Prop where
 ex : o.ExactSet
 data : o.data = .set es ep t
 el : ElemsOf knd es.toList
 mem : ∀ k, S k ↔ ∃ e ∈ es.toList, knd.is k e.2 = true
 apart : es.toList.Pairwise (Apart knd)
 few : es.size < scanBound
 ok : OkT t es.size
 led : t.led = !w.params.followText "set-order"
def KSet (h : Heap) (a : Addr) (S : K → Prop) (n : Nat) : Prop := ∃ o es ep t, h.get? a = some o ∧ KObj knd o es ep t S ∧ es.size ≤ n
structure KIt (o : Obj) (es : Array (Int × Value)) (ep : Nat) (t : SetTable) (S : K → Prop) : Prop where
 ex : o.ExactSet
 data : o.data = .set es ep t
 el : ElemsOf knd es.toList
 mem : ∀ k, S k ↔ ∃ e ∈ es.toList, knd.is k e.2 = true
 apart : es.toList.Pairwise (Apart knd)
 few : es.size < scanBound
 ok : OkW t es.size
 led : t.led = !w.params.followText "set-order"
structure ItO (w : World) (o : Obj) (es : Array (Int × Value)) (ep : Nat) (t : SetTable) : Prop where
 ex : o.ExactSet
 data : o.data = .set es ep t
 few : es.size < scanBound
 ok : OkW t es.size
 led : t.led = !w.params.followText "set-order"
def KSetI (h : Heap) (a : Addr) (S : K → Prop) (n : Nat) : Prop := ∃ o es ep t, h.get? a = some o ∧ KIt knd o es ep t S ∧ es.size ≤ n
variable {knd} {A : Around} {E : Value → Shared → Prop} {s : Shared}
theorem KObj.it {o : Obj} {es : Array (Int × Value)} {ep : Nat} {t : SetTable} {S : K → Prop} (x : KObj knd o es ep t S) : KIt knd o es ep t S := ⟨x.ex, x.data, x.el, x.mem, x.apart, x.few, ⟨x.ok.fits, x.ok.ris⟩, x.led⟩
theorem KIt.o {o : Obj} {es : Array (Int × Value)} {ep : Nat} {t : SetTable} {S : K → Prop} (x : KIt knd o es ep t S) : ItO w o es ep t := ⟨x.ex, x.data, x.few, x.ok, x.led⟩
theorem KSet.it {h : Heap} {a : Addr} {S : K → Prop} {n : Nat} (x : KSet knd h a S n) : KSetI knd h a S n := let ⟨o, es, ep, t, ho, r, z⟩ := x; ⟨o, es, ep, t, ho, r.it, z⟩
theorem KSetI.at' {h h' : Heap} {a : Addr} {S : K → Prop} {n : Nat} (x : KSetI knd h a S n) (e : ∀ o, h.get? a = some o → h'.get? a = some o) : KSetI knd h' a S n := let ⟨o, es, ep, t, ho, r⟩ := x; ⟨o, es, ep, t, e _ ho, r⟩
theorem apart_symm {e f : Int × Value} (h : Apart knd e f) : Apart knd f e := fun k a b => h k b a
theorem KSet.at' {h h' : Heap} {a : Addr} {S : K → Prop} {n : Nat} (x : KSet knd h a S n) (e : ∀ o, h.get? a = some o → h'.get? a = some o) : KSet knd h' a S n := let ⟨o, es, ep, t, ho, r⟩ := x; ⟨o, es, ep, t, e _ ho, r⟩
theorem KObj.store {h : Heap} {a : Addr} {o : Obj} {es : Array (Int × Value)} {ep : Nat} {t : SetTable} {S : K → Prop} (x : KObj knd o es ep t S) (ho : h.get? a = some o) {es' : Array (Int × Value)} {t' : SetTable} {S' : K → Prop}
   (hel : ElemsOf knd es'.toList) (hmem : ∀ k, S' k ↔ ∃ e ∈ es'.toList, knd.is k e.2 = true) (hap : es'.toList.Pairwise (Apart knd)) (hb : es'.size < scanBound) (hok : OkT t' es'.size) (hl : t'.led = !w.params.followText "set-order") :
   (h.update a (Obj.putSet es' t')).get? a = some { o with data := .set es' (ep + 1) t' } ∧ KObj knd { o with data := .set es' (ep + 1) t' } es' (ep + 1) t' S' := by
 have hg : (h.update a (Obj.putSet es' t')).get? a = some { o with data := .set es' (ep + 1) t' } := by
   have := Heap.get?_update_self (Obj.putSet es' t') ho (by rw [putSet_of es' t' x.data]; rfl)
   rw [putSet_of es' t' x.data] at this; exact this
 exact ⟨hg, x.ex, rfl, hel, hmem, hap, hb, hok, hl⟩
theorem kset_tail {g : Bool → Sem Unit} (hg : ∀ (b : Bool) (s₁ : Shared) (Q' : Unit → Shared → Prop), Q' () s₁ → wpAny (model prog w) A (g b) Q' E s₁)
   {a : Addr} {o : Obj} {es : Array (Int × Value)} {ep : Nat} {t : SetTable} {S : K → Prop} (ho : s.heap.get? a = some o) (x : KObj knd o es ep t S)
   {es1 : Array (Int × Value)} {t2 : SetTable} {S' : K → Prop} (hel1 : ElemsOf knd es1.toList) (hmem1 : ∀ k', S' k' ↔ ∃ e ∈ es1.toList, knd.is k' e.2 = true) (hap1 : es1.toList.Pairwise (Apart knd))
   (hb1 : es1.size < scanBound) (hok2 : OkT t2 es1.size) (hl : t2.led = !w.params.followText "set-order") {wasDummy : Bool} {R : Option Bool → Shared → Prop}
   (h : ∀ h', Heap.SameBut a s.heap h' → KSet knd h' a S' es1.size → R (some true) { s with heap := h' }) :
   wpAny (model prog w) A (do
       storeSet a es1 t2
       if (!wasDummy && t2.tooFull) = true then do
           g (relayAll t2 es1 (SetTable.grown es1.size)).2.2
           storeSet a (relayAll t2 es1 (SetTable.grown es1.size)).1 (relayAll t2 es1 (SetTable.grown es1.size)).2.1
           pure (some true)
         else pure (some true)) R E s := by
 refine wpAny_bind (wpAny_storeSet_of ho x.data ?_ (fits_of_scanBound hb1))
 obtain ⟨ho1, x1⟩ := x.store ho hel1 hmem1 hap1 hb1 hok2 hl
 have hsb1 := Heap.SameBut.update s.heap a (Obj.putSet es1 t2)
 split
 · have hp := relayAll_perm t2 es1 (SetTable.grown es1.size)
   have hfr := relayAll_ok t2 es1 (SetTable.grown es1.size)
   generalize hRl : relayAll t2 es1 (SetTable.grown es1.size) = Rl at hp hfr ⊢
   obtain ⟨es2, t3, gave2⟩ := Rl
   dsimp only at hp hfr ⊢
   have hel2 : ElemsOf knd es2.toList := hel1.perm hp
   have hmem2 : ∀ k', S' k' ↔ ∃ e ∈ es2.toList, knd.is k' e.2 = true := fun k' => (hmem1 k').trans ⟨fun ⟨e, he, q⟩ => ⟨e, hp.mem_iff.mpr he, q⟩, fun ⟨e, he, q⟩ => ⟨e, hp.mem_iff.mp he, q⟩⟩
   have hsz : es2.size = es1.size := by rw [← Array.length_toList, hp.length_eq, Array.length_toList]
   have hb2 : es2.size < scanBound := by rw [hsz]; exact hb1
   have hap2 : es2.toList.Pairwise (Apart knd) := (hp.pairwise_iff (fun {x y} h => apart_symm h)).mpr hap1
   refine wpAny_bind (hg _ _ _ ?_)
   refine wpAny_bind (wpAny_storeSet_of ho1 rfl ?_ (fits_of_scanBound hb2))
   obtain ⟨ho2, x2⟩ := x1.store ho1 hel2 hmem2 hap2 hb2 hfr.1 (hfr.2.trans hl)
   exact wpAny_pure (h _ (hsb1.trans (Heap.SameBut.update _ a _)) ⟨_, _, _, _, ho2, x2, Nat.le_of_eq hsz⟩)
 · exact wpAny_pure (h _ hsb1 ⟨_, _, _, _, ho1, x1, Nat.le_refl _⟩)
theorem kset_add {a : Addr} {S : K → Prop} {n : Nat} {k : K} {x : Value} {Q : Bool → Shared → Prop} (hkey : knd.is k x = true) (hsc : x.scannable = true) (hS : KSet knd s.heap a S n)
   (hroom : n + 1 < scanBound)
   (h : ∀ b h', Heap.SameBut a s.heap h' → KSet knd h' a (fun k' => S k' ∨ k' = k) (n + 1) → Q b { s with heap := h' }) :
   wpAny (model prog w) A (setAddHashed a x (knd.hash k)) Q E s := by
 obtain ⟨o, es, ep, t, ho, X, hn⟩ := hS
 have hb1 : es.size + 1 < scanBound := by omega
 unfold setAddHashed setAddHashedIn
 refine wpAny_holding (wpAny_bind (wpAny_setState_of ho X.data X.ok.fits ?_))
 dsimp only
 rw [byScan_of hsc X.few X.el]
 simp only [↓reduceIte]
 unfold setAddByScan
 refine wpAny_bind ?_
 refine wpAny_bind (wpAny_rule ?_)
 refine wpAny_bind (wpAny_setScan_of hkey ho X.data X.ok.fits X.el ?_)
 cases hr : List.findIdx? (fun e => knd.is k e.2) es.toList with
 | some j =>
   dsimp only
   obtain ⟨hj, hpj, _⟩ := List.findIdx?_eq_some_iff_getElem.mp hr
   have hSk : S k := (X.mem k).mpr ⟨es.toList[j], List.getElem_mem hj, hpj⟩
   refine wpAny_pure (wpAny_pure ?_)
   have e : s = { s with heap := s.heap } := by cases s; rfl
   have := h false s.heap (Heap.SameBut.refl a s.heap) ⟨o, es, ep, t, ho, ⟨X.ex, X.data, X.el, fun k' => by
     rw [← X.mem k']
     exact ⟨fun hk => hk.elim id (fun e => e ▸ hSk), .inl⟩, X.apart, X.few, X.ok, X.led⟩, by omega⟩
   rw [e]; exact this
 | none =>
   dsimp only
   have hno : ∀ e ∈ es.toList, knd.is k e.2 = false := fun e he => by simpa using List.findIdx?_eq_none_iff.mp hr e he
   have hgw : ∀ (b : Bool) {s₁ : Shared} {Q' : Unit → Shared → Prop}, Q' () s₁ → wpAny (model prog w) A (match b with | true => rule "set.scan.the-table-gave-way" | false => pure ()) Q' E s₁ :=
     fun b s₁ Q' hq => by cases b <;> first | exact wpAny_pure hq | exact wpAny_rule hq
   have hperm := layNew_perm t es (knd.hash k) x
   have hoks := layNew_ok X.ok (knd.hash k) x
   generalize hL : layNew t es (knd.hash k) x = L at hperm hoks ⊢
   obtain ⟨es1, t1, wasDummy, gave⟩ := L
   dsimp only at hperm hoks ⊢
   rw [Array.toList_push] at hperm
   have hel1 : ElemsOf knd es1.toList := (X.el.push hkey hsc).perm hperm
   have hmem1 : ∀ k', (S k' ∨ k' = k) ↔ ∃ e ∈ es1.toList, knd.is k' e.2 = true := fun k' => by
     rw [X.mem k']
     constructor
     · rintro (⟨e, he, hp⟩ | rfl)
       · exact ⟨e, hperm.mem_iff.mpr (List.mem_append_left _ he), hp⟩
       · exact ⟨(knd.hash k', x), hperm.mem_iff.mpr (List.mem_append_right _ (List.mem_singleton.mpr rfl)), hkey⟩
     · rintro ⟨e, he, hp⟩
       rcases List.mem_append.mp (hperm.mem_iff.mp he) with he | he
       · exact .inl ⟨e, he, hp⟩
       · rw [List.mem_singleton] at he; subst he
         exact .inr (knd.inj x k' k hp hkey)
   have hap1 : es1.toList.Pairwise (Apart knd) := (hperm.pairwise_iff (fun {x y} h => apart_symm h)).mpr (List.pairwise_append.mpr ⟨X.apart, List.pairwise_singleton _ _, fun e he f hf k' h1 h2 => by
     rw [List.mem_singleton] at hf; subst hf
     have : k' = k := knd.inj x k' k h2 hkey
     subst this
     rw [hno e he] at h1; cases h1⟩)
   have hsz1 : es1.size = es.size + 1 := by rw [← Array.length_toList, hperm.length_eq, List.length_append, Array.length_toList]; rfl
   have hb1' : es1.size < scanBound := by omega
   refine wpAny_bind (hgw _ ?_)
   have hend : ∀ h', Heap.SameBut a s.heap h' → KSet knd h' a (fun k' => S k' ∨ k' = k) es1.size → Q true { s with heap := h' } := by
     intro h' hsb ⟨o', es', ep', t', ho', X', hn'⟩
     exact h true h' hsb ⟨o', es', ep', t', ho', X', by omega⟩
   split
   · refine wpAny_bind ?_
     rw [hashByValue_scannable 8 hsc]
     refine wpAny_pure ?_
     refine kset_tail ?_ ho X hel1 hmem1 hap1 hb1' ?_ ?_ ?_
     · intro b s₁ Q' hq; cases b <;> first | exact wpAny_pure hq | exact wpAny_rule hq
     · split
       · exact hoks.1
       · exact okT_plain hoks.1
     · split
       · exact hoks.2.trans X.led
       · exact hoks.2.trans X.led
     · intro h' hsb hS'; dsimp only; exact wpAny_pure (hend h' hsb hS')
   · refine wpAny_bind (wpAny_pure ?_)
     simp only [↓reduceIte]
     refine kset_tail ?_ ho X hel1 hmem1 hap1 hb1' hoks.1 (hoks.2.trans X.led) ?_
     · intro b s₁ Q' hq; cases b <;> first | exact wpAny_pure hq | exact wpAny_rule hq
     · intro h' hsb hS'; dsimp only; exact wpAny_pure (hend h' hsb hS')
theorem kset_fresh {h : Heap} {a : Addr} (hg : h.get? a = some { cls := .type "set", dict := none, data := .set #[] 0 (.fresh 0 0 (!w.params.followText "set-order")) }) : KSet knd h a (fun _ => False) 0 :=
 ⟨_, #[], 0, _, hg, ⟨⟨rfl, rfl, rfl⟩, rfl, fun e he => by simp at he, fun k => by simp, by simp, by decide, okT_fresh _, rfl⟩, Nat.le_refl _⟩
end
section
variable {prog : Program} {w : World} {K : Type} [DecidableEq K] {knd : KeyKind prog w K} {A : Around} {R : Result → Shared → Prop} {I : Addr} {fp wr : List Addr} {G : Array GenState → Array GenState → Prop} {n : Nat} {P : Nat → Value → Prop} {St : Nat → Shared → Prop}
theorem kset_loop (W : WalksS prog w A.in1 I fp wr G n P St) (S : Addr) (hSf : S ∉ fp)
   (val : Nat → K) (hval : ∀ i v, P i v → knd.is (val i) v = true ∧ v.scannable = true) (hb : n + 1 < scanBound) :
   ∀ (k i : Nat) (s : Shared), n - i = k → i ≤ n → St i s →
     KSet knd s.heap S (fun k' => ∃ j, j < i ∧ val j = k') i →
     (∀ s', Moved (S :: wr) G s s' → KSet knd s'.heap S (fun k' => ∃ j, j < n ∧ val j = k') n → R (.ok (.ret .none)) s') →
     codeAny (model prog w) A (.builtin "set.update.loop" ⟨[.ref S, .ref I], []⟩) R s := by
 have hSw : S ∉ wr := fun h => hSf (W.sub _ h)
 have hsub : ∀ b ∈ wr, b ∈ S :: wr := fun b hb => List.mem_cons_of_mem _ hb
 intro k
 induction k with
 | zero =>
   intro i s hk hi hst hS hR
   have hin : i = n := by omega
   subst hin
   refine codeAny_builtin PyProof.Rows.F.entry_set_update_loop ?_
   rw [Around.under_plainId PyProof.Rows.F.plain_set_update_loop _]
   show wpAny _ A.in1 (pyNext (.ref I) >>= _) _ _ s
   refine wpAny_bind (W.done s _ _ hst fun s' hm => ?_)
   show wpAny _ A.in1 (ret Value.none) _ _ s'
   exact wpAny_pure (hR s' (hm.mono hsub) (hS.at' fun o e => hm.heap S _ hSw e))
 | succ k ih =>
   intro i s hk hi hst hS hR
   have hlt : i < n := by omega
   refine codeAny_builtin PyProof.Rows.F.entry_set_update_loop ?_
   rw [Around.under_plainId PyProof.Rows.F.plain_set_update_loop _]
   show wpAny _ A.in1 (pyNext (.ref I) >>= _) _ _ s
   refine wpAny_bind (W.item i s _ _ hlt hst fun v s' hP hst' hm => ?_)
   obtain ⟨hk', hsc⟩ := hval i v hP
   have hS' := hS.at' (h' := s'.heap) fun o e => hm.heap S _ hSw e
   show wpAny _ A.in1 (holding [v] (setAdd S v) >>= _) _ _ s'
   refine wpAny_bind (wpAny_holding ?_)
   unfold setAdd
   refine wpAny_holding ?_
   refine wpAny_bind (knd.pyHash (k := val i) hk' ?_)
   refine kset_add (knd := knd) (s := { s' with toks := s'.toks + 1 }) hk' hsc hS' (by omega) fun b h' hsb hS2 => ?_
   have hSi : KSet knd h' S (fun k' => ∃ j, j < i + 1 ∧ val j = k') (i + 1) := by
     obtain ⟨o, es, ep, t, ho, X, hn⟩ := hS2
     refine ⟨o, es, ep, t, ho, ⟨X.ex, X.data, X.el, fun k' => ?_, X.apart, X.few, X.ok, X.led⟩, hn⟩
     rw [← X.mem k']
     constructor
     · rintro ⟨j, hj, e⟩
       by_cases z : j = i
       · subst z; exact .inr e.symm
       · exact .inl ⟨j, by omega, e⟩
     · rintro (⟨j, hj, e⟩ | e)
       · exact ⟨j, by omega, e⟩
       · exact ⟨i, Nat.lt_succ_self _, e.symm⟩
   refine wpAny_pure ⟨plainId_quiet PyProof.Rows.F.plain_set_update_loop _, ih (i + 1) _ (by omega) hlt (W.frame _ s' _ _ hst' (Nat.le_succ _) fun b hb o e => ?_) hSi fun s'' hm'' hS'' => ?_⟩
   · rw [hsb.2 b (fun h : b = S => hSf (by rw [← h]; exact hb))]; exact e
   · refine hR s'' (Moved.trans W.gtrans ((hm.mono hsub).then_heap (Nat.le_succ _) fun b o hb e => ?_) hm'') hS''
     rw [hsb.2 b (fun h : b = S => hb (by rw [h]; exact List.mem_cons_self))]; exact e
end
section
variable {prog : Program} {w : World} {K : Type} [DecidableEq K] {knd : KeyKind prog w K} {A : Around} {E : Value → Shared → Prop} {s : Shared}
theorem kset_new (a : Value) {Q₁ : Value → Shared → Prop}
   (h : Q₁ (.ref s.heap.objs.size) { s with heap := s.heap.push { cls := .type "set", dict := none, data := .set #[] 0 (.fresh 0 0 (!w.params.followText "set-order")) } }) :
   codeAny (model prog w) A (.call (.builtin "set.__new__") ⟨[.type "set", a], []⟩) (wants Q₁ E) s := by
 refine codeAny_of_tree ?_
 show wpAny _ A.in1 (do checkBuiltinCall "set.__new__" ⟨[.type "set", a], []⟩; again (.builtin "set.__new__" ⟨[.type "set", a], []⟩)) _ _ s
 refine wpAny_bind (wpAny_of_eq (PySem.F.newCall_set_1 a) (wpAny_pure ⟨plainId_quiet PySem.F.plain_set_new _, codeAny_builtin PySem.F.entry_set_new ?_⟩))
 rw [Around.under_plainId PySem.F.plain_set_new _]
 unfold Builtin.«set.__new__» Builtin.Frozenset.newClass
 have hsub := sub_set_self
 obtain ⟨hp, g, d, tk, os⟩ := s
 dsimp only
 wp_walk
 refine wpAny_askSetting (wpAny_pure ?_)
 dsimp only
 simp only [newObj]
 refine wpAny_bind (wpAny_alloc (wpAny_pure ?_))
 exact wpAny_pure h
theorem kset_list {l : Addr} {items : Array Value} {val : Nat → K} {Q : Value → Shared → Prop}
   (hh : A.handled = none) (hl : s.heap.IsList l items) (hval : ∀ (i : Nat) v, items[i]? = some v → knd.is (val i) v = true ∧ v.scannable = true) (hb : items.size + 1 < scanBound)
   (h : ∀ (h' : Heap) (tk : Nat), KSet knd h' s.heap.objs.size (fun k' => ∃ j, j < items.size ∧ val j = k') items.size →
     (∀ b o, b < s.heap.objs.size → s.heap.get? b = some o → h'.get? b = some o) → Q (.ref s.heap.objs.size) { s with heap := h', toks := tk }) :
   wpAny (model prog w) A (call (.type "set") [.ref l]) Q E s := by
 obtain ⟨c, tl, hmro⟩ := PySem.F.called_set.mro
 have hmade := PySem.F.called_set.made
 have hsub := PySem.F.called_set.sub
 refine wpAny_call (codeAny_of_tree ?_)
 show wpAny _ _ (callAny (.type "set") _) _ _ _
 refine wpAny_pure ⟨Code.quiet_builtin _ (by decide +kernel), codeAny_builtin PySem.F.entry_type_call ?_⟩
 rw [Around.under_plain (weight_type_call_type "set" [.ref l] []) rfl]
 have h1 := PySem.F.called_set.notType
 have h2 := PySem.F.called_set.canCreate
 have hct := PySem.F.typeCall_set_1 (.ref l)
 repeat (any_goals (first | assumption | wp_step))
 refine codeAny_mono (kset_new (.ref l) (E := E) (Q₁ := fun obj s₁ => obj = .ref s.heap.objs.size ∧ s₁ = { s with heap := s.heap.push { cls := .type "set", dict := none, data := .set #[] 0 (.fresh 0 0 (!w.params.followText "set-order")) } }) ⟨rfl, rfl⟩) fun r s₁ hr => ?_
 cases r with
 | error e => exact hr
 | ok fl =>
   cases fl with
   | ret obj =>
     obtain ⟨rfl, rfl⟩ := hr
     generalize hled : (!w.params.followText "set-order") = led
     have hS : (s.heap.push { cls := .type "set", dict := none, data := .set #[] 0 (.fresh 0 0 led) }).get? s.heap.objs.size = some { cls := .type "set", dict := none, data := .set #[] 0 (.fresh 0 0 led) } := Heap.get?_push_size _ rfl
     have hT : Shared.TypeIs { s with heap := s.heap.push { cls := .type "set", dict := none, data := .set #[] 0 (.fresh 0 0 led) } } (.ref s.heap.objs.size) "set" := ⟨_, hS, rfl⟩
     have hli := PySem.F.called_set.init.lookup
     have hbi := PySem.F.called_set.init.bind (.ref s.heap.objs.size)
     repeat (any_goals (first | assumption | wp_step))
     refine codeAny_mono (codeAny_call_builtin (R := wants (fun r s₂ => r = .none ∧ ∃ h' tk, s₂ = { s with heap := h', toks := tk } ∧
         KSet knd h' s.heap.objs.size (fun k' => ∃ j, j < items.size ∧ val j = k') items.size ∧
         (∀ b o, b < s.heap.objs.size → s.heap.get? b = some o → h'.get? b = some o)) E) PySem.F.called_set.init.plain PySem.F.entry_set_init (check_set_init_1 hT ?_)) fun r₂ s₂ hr₂ => ?_
     · obtain ⟨ol, hol, hcl, nl, hdl⟩ := hl
       obtain ⟨ocls, odict, odata, oslots⟩ := ol
       simp only at hcl hdl
       subst hcl; subst hdl
       have hol' : (s.heap.push { cls := .type "set", dict := none, data := .set #[] 0 (.fresh 0 0 led) }).get? l = some { cls := .type "list", dict := odict, data := .seq items nl, slots := oslots } := Heap.get?_push_of_some _ hol
       have hsls := PySem.F.sub_list_set
       have hslf := PySem.F.sub_list_frozenset
       have hne : (Value.type "list" == Value.type "dict") = false := by decide
       have hl1 : (s.heap.push { cls := .type "set", dict := none, data := .set #[] 0 (.fresh 0 0 led) }).IsList l items := ⟨_, hol', rfl, nl, rfl⟩
       unfold Builtin.«set.__init__» noKeywords Builtin.Frozenset.updateFrom
       generalize hPI : pyIter = PI
       wp_walk
       subst hPI
       refine wpAny_pyIter_list hl1 ?_
       refine wpAny_bind (wpAny_runValue ?_)
       have hlS : l < s.heap.objs.size := Heap.lt_size hol
       have hh3 : A.in1.in1.in1.handled = none := by simp [hh]
       have hneI : l ≠ (s.heap.push { cls := .type "set", dict := none, data := .set #[] 0 (.fresh 0 0 led) }).objs.size := by
         rw [Heap.size_push]; exact Nat.ne_of_lt (Nat.lt_succ_of_lt hlS)
       have hSf : s.heap.objs.size ∉ [(s.heap.push { cls := .type "set", dict := none, data := .set #[] 0 (.fresh 0 0 led) }).objs.size, l] := by
         rw [Heap.size_push]; simp only [List.mem_cons, List.mem_singleton, List.not_mem_nil, or_false, not_or]
         exact ⟨Nat.ne_of_lt (Nat.lt_succ_self _), Nat.ne_of_gt hlS⟩
       refine kset_loop (knd := knd) ((Walks.list hh3 _ l hneI items).toS) s.heap.objs.size
         hSf val hval hb (items.size - 0) 0 _ (by omega) (Nat.zero_le _)
         ⟨⟨_, Heap.get?_push_size _ rfl, rfl, rfl⟩, (hl1.push _)⟩ ?hS0 ?hR
       case hS0 =>
         have hget : ((s.heap.push { cls := .type "set", dict := none, data := .set #[] 0 (.fresh 0 0 led) }).push { cls := .type "list_iterator", data := .fields #[.ref l, .int 0 0] }).get? s.heap.objs.size
             = some { cls := .type "set", dict := none, data := .set #[] 0 (.fresh 0 0 led) } := Heap.get?_push_of_some _ hS
         rw [← hled] at hget
         obtain ⟨o, es, ep, t, ho, X, hn⟩ := kset_fresh (knd := knd) hget
         rw [hled] at ho
         exact ⟨o, es, ep, t, ho, ⟨X.ex, X.data, X.el, fun k' => by rw [← X.mem k']; exact ⟨fun ⟨j, hj, _⟩ => absurd hj (Nat.not_lt_zero _), False.elim⟩, X.apart, X.few, X.ok, X.led⟩, hn⟩
       case hR =>
         intro s' hm hS'
         obtain ⟨h', g', d', tk', os'⟩ := s'
         have eg : g' = s.gens := hm.gens
         have ed : d' = s.drawn := hm.drawn
         have eo : os' = s.os := hm.os
         subst eg; subst ed; subst eo
         show wpAny _ _ _ _ _ _
         refine wpAny_pure ?_
         show wpAny _ _ (ret Value.none) _ _ _
         refine wpAny_pure ⟨rfl, h', tk', rfl, hS', fun b o hb e => ?_⟩
         have hb1 : b ≠ s.heap.objs.size := Nat.ne_of_lt hb
         have hb2 : b ≠ (s.heap.push { cls := .type "set", dict := none, data := .set #[] 0 (.fresh 0 0 led) }).objs.size := by
           rw [Heap.size_push]; exact Nat.ne_of_lt (Nat.lt_succ_of_lt hb)
         exact hm.heap b o (by simp only [List.mem_cons, List.mem_singleton, List.not_mem_nil, or_false, not_or]; exact ⟨hb1, hb2⟩) (Heap.get?_push_of_some _ (Heap.get?_push_of_some _ e))
     · cases r₂ with
       | error e => exact hr₂
       | ok fl₂ =>
         cases fl₂ with
         | ret r =>
           obtain ⟨rfl, h', tk, rfl, hS', hk'⟩ := hr₂
           repeat (any_goals (first | assumption | wp_step))
           exact h _ _ hS' hk'
         | _ => exact hr₂.elim
   | _ => exact hr.elim
end
end L2
namespace L2
open PySem PySem.Spec PyProof.Rows PySem.W
theorem erase_perm {α : Type} {l : List α} {i : Nat} (h : i < l.length) : List.Perm (l[i] :: l.eraseIdx i) l := by
 rw [List.eraseIdx_eq_take_drop_succ]
 refine List.perm_middle.symm.trans ?_
 rw [List.getElem_cons_drop, List.take_append_drop]
theorem pick_go {α : Type} (next : Nat → Nat) : ∀ (fuel k : Nat) (left : List α) (out : Array α), left.length = fuel → List.Perm (pickOrder.go next fuel k left out).toList (out.toList ++ left)
 | 0, k, left, out, h => by
   rw [List.eq_nil_of_length_eq_zero h, List.append_nil]
   unfold pickOrder.go
   exact .rfl
 | fuel + 1, k, left, out, h => by
   unfold pickOrder.go
   have hl : next k % left.length < left.length := Nat.mod_lt _ (by omega)
   rw [List.getElem?_eq_getElem hl]
   dsimp only
   refine (pick_go next fuel (k + 1) _ _ (by rw [List.length_eraseIdx_of_lt hl]; omega)).trans ?_
   rw [Array.toList_push, List.append_assoc]
   exact List.Perm.append_left _ (erase_perm hl)
theorem pick_perm {α : Type} (next : Nat → Nat) (xs : Array α) : List.Perm (pickOrder next xs).toList xs.toList := by
 have := pick_go next xs.size 0 xs.toList #[] (by simp)
 simpa [pickOrder] using this
section
variable {prog : Program} {w : World} {K : Type} [DecidableEq K] {knd : KeyKind prog w K} {A : Around} {E : Value → Shared → Prop} {s : Shared}
theorem wp_byText {Q : Bool → Shared → Prop} (h : Q (w.params.followText "set-order") s) : wpAny (model prog w) A setsByText Q E s := by
 unfold setsByText
 exact wpAny_bind (wpAny_askSetting (wpAny_pure h))
theorem wp_choose {src : Source} {n : Nat} {Q : Nat → Shared → Prop} (hn : n ≠ 0) (h : ∀ i d, i < n → Q i { s with drawn := d }) : wpAny (model prog w) A (choose src n) Q E s := fun Γ p hΓ => by
 unfold choose
 rw [Sem.wp_choose]
 refine ⟨hn, ?_⟩
 rw [Sem.wp_pure]
 exact h _ _ (Nat.mod_lt _ (Nat.pos_of_ne_zero hn))
theorem wp_drawOrder {α : Type} : ∀ (n : Nat) (xs : List α) (s : Shared) {Q : List α → Shared → Prop}, xs.length = n → (∀ ys d, List.Perm ys xs → Q ys { s with drawn := d }) → wpAny (model prog w) A (drawOrder n xs) Q E s
 | 0, xs, s, Q, hn, h => by
   rw [List.eq_nil_of_length_eq_zero hn] at h ⊢
   unfold drawOrder
   exact wpAny_pure (h [] s.drawn .rfl)
 | n + 1, [], s, Q, hn, h => by simp at hn
 | n + 1, x :: xs, s, Q, hn, h => by
   unfold drawOrder
   refine wpAny_bind (wp_choose (by simp) fun i d hi => ?_)
   rw [List.getElem?_eq_getElem hi]
   dsimp only
   refine wpAny_bind (wp_drawOrder n _ { s with drawn := d } (by rw [List.length_eraseIdx_of_lt hi]; simpa using hn) fun ys d' hp => ?_)
   exact wpAny_pure (h _ d' ((List.Perm.cons _ hp).trans (erase_perm hi)))
theorem set_iter_entry : entryFor table "set.__iter__" = some Builtin.«frozenset.__iter__» := entryFor_alias (id' := "frozenset.__iter__") (by kernel_rfl) rfl (by decide +kernel) (by kernel_rfl)
theorem set_it_next : Slot "set_iterator" "__next__" "set_iterator.__next__" :=
 .of (owner := "set_iterator") (n := "__next__") (by rw [typeLookup_type, builtinLookup_eq_fast]; kernel_rfl) (by decide +kernel) (by decide +kernel) (by decide +kernel)
   (by first | exact .inl (by decide +kernel) | exact .inr (by decide +kernel)) (by rw [isSubtype_type]; kernel_rfl)
theorem set_it_entry : entryFor table "set_iterator.__next__" = some Builtin.«set_iterator.__next__» := entryFor_of_tree (by kernel_rfl)
theorem owner_set_it : Manifest.owners.lookup (String.ofList ['r', 'o', 't', 'a', 'r', 'e', 't', 'i', '_', 't', 'e', 's'].reverse) = some Manifest.sig_set_iterator := by kernel_rfl
theorem set_it_args (a : Value) : argsOk "set_iterator.__next__" ⟨[a], []⟩ := by
 unfold argsOk; rw [signature?_of (id := "set_iterator.__next__") (n := ['_', '_', 't', 'x', 'e', 'n', '_', '_']) (o := ['r', 'o', 't', 'a', 'r', 'e', 't', 'i', '_', 't', 'e', 's']) (by kernel_rfl) owner_set_it]; kernel_rfl
theorem set_it_iter : Slot "set_iterator" "__iter__" "set_iterator.__iter__" :=
 .of (owner := "set_iterator") (n := "__iter__") (by rw [typeLookup_type, builtinLookup_eq_fast]; kernel_rfl) (by decide +kernel) (by decide +kernel) (by decide +kernel)
   (by first | exact .inl (by decide +kernel) | exact .inr (by decide +kernel)) (by rw [isSubtype_type]; kernel_rfl)
theorem set_it_ientry : entryFor table "set_iterator.__iter__" = some Builtin.«dict_keyiterator.__iter__» := entryFor_alias (id' := "dict_keyiterator.__iter__") (by kernel_rfl) rfl (by decide +kernel) (by kernel_rfl)
theorem set_it_iargs (a : Value) : argsOk "set_iterator.__iter__" ⟨[a], []⟩ := by
 unfold argsOk; rw [signature?_of (id := "set_iterator.__iter__") (n := ['_', '_', 'r', 'e', 't', 'i', '_', '_']) (o := ['r', 'o', 't', 'a', 'r', 'e', 't', 'i', '_', 't', 'e', 's']) (by kernel_rfl) owner_set_it]; kernel_rfl
def slotAt (t : SetTable) : Nat → Nat
 | 0 => 0
 | i + 1 => (t.place[i]?).getD 0 + 1
theorem slot_below {t : SetTable} (hr : Ris t.place) {i : Nat} (hi : i ≤ t.place.size) : SetTable.below t.place (slotAt t i) = i := by
 obtain ⟨h0, h1, h2⟩ := below_spec hr (slotAt t i)
 cases i with
 | zero =>
   by_cases z : SetTable.below t.place (slotAt t 0) = 0
   · exact z
   · exfalso
     have := h1 0 (by omega) (by omega)
     exact absurd this (Nat.not_lt_zero _)
 | succ i =>
   have hs : slotAt t (i + 1) = t.place[i]'(by omega) + 1 := by
     show (t.place[i]?).getD 0 + 1 = _
     rw [Array.getElem?_eq_getElem (by omega)]; rfl
   have a : ¬ SetTable.below t.place (slotAt t (i + 1)) ≤ i := fun z => by
     have := h2 i (by omega) z
     omega
   have b : ¬ i + 1 < SetTable.below t.place (slotAt t (i + 1)) := fun z => by
     have := h1 (i + 1) (by omega) z
     have := hr i (i + 1) (by omega) (by omega) (Nat.lt_succ_self _)
     omega
   omega
def SDrawn (es : Array (Int × Value)) (t : SetTable) : Bool := !t.plain && decide (es.size > 1)
def SIt (w : World) (I a T : Addr) (o : Obj) (es : Array (Int × Value)) (ep : Nat) (t : SetTable) (ord : List (Int × Value)) (i : Nat) (h : Heap) : Prop :=
 h.get? a = some o ∧ ∃ first oI, h.get? I = some oI ∧ oI.cls = .type "set_iterator" ∧ oI.data = .fields #[first, .int i 0, .ref a, .int es.size 0, .int ep 0] ∧
   ((w.params.followText "set-order" = true ∧ (∃ sl : Nat, first = .int sl 0) ∧ ord = (pickOrder (w.params.setOrder a ep) es).toList) ∨
    (w.params.followText "set-order" = false ∧ SDrawn es t = false ∧ first = .int (slotAt t i) 0 ∧ ord = es.toList) ∨
    (w.params.followText "set-order" = false ∧ SDrawn es t = true ∧ first = .ref T ∧ ∃ oT places c, h.get? T = some oT ∧ oT.data = .seq (places.map fun (i : Nat) => rawInt i).toArray c ∧ List.Perm places (List.range es.size) ∧ ord = places.filterMap fun i => es[i]?))
theorem perm_pick {es : Array (Int × Value)} {places : List Nat} (h : List.Perm places (List.range es.size)) : List.Perm (places.filterMap fun i => es[i]?) es.toList := (h.filterMap _).trans (by rw [filterMap_getElem?_range])
theorem pyIter_set {a : Addr} {o : Obj} {es : Array (Int × Value)} {ep : Nat} {t : SetTable} (ho : s.heap.get? a = some o) (X : ItO w o es ep t) {Q : Value → Shared → Prop}
   (h : ∀ I T ord h' d, s.heap.objs.size ≤ I → s.heap.objs.size ≤ T → T ≠ I → List.Perm ord es.toList → SIt w I a T o es ep t ord 0 h' → (∀ b u, s.heap.get? b = some u → h'.get? b = some u) → Q (.ref I) { s with heap := h', drawn := d }) :
   wpAny (model prog w) A (pyIter (.ref a)) Q E s := by
 have hT : s.TypeIs (.ref a) "set" := ⟨o, ho, X.ex.1⟩
 refine wpAny_pyIter_slot hT PySem.F.slot_set_iter (wpAny_call_entry PySem.F.slot_set_iter hT set_iter_entry ?_ (PySem.F.args_set_iter_1 _))
 unfold Builtin.«frozenset.__iter__»
 refine wpAny_bind ?_
 show wpAny _ _ (pure a) _ _ s
 refine wpAny_pure ?_
 refine wpAny_bind ?_
 unfold Builtin.Frozenset.sizeOf
 refine wpAny_bind (wpAny_setEntries_of ho X.data X.ok.fits (wpAny_pure ?_))
 unfold setDrawn
 refine wpAny_bind (wpAny_bind (wpAny_setState_of ho X.data X.ok.fits ?_))
 dsimp only
 refine wpAny_bind (wp_byText ?_)
 refine wpAny_pure ?_
 show wpAny _ _ (if (!w.params.followText "set-order" && SDrawn es t) = true then _ else _) _ _ s
 by_cases hb : w.params.followText "set-order" = true
 · rw [hb]
   simp only [Bool.not_true, Bool.false_and, Bool.false_eq_true, if_false]
   refine wpAny_bind (wpAny_pure ?_)
   refine wpAny_bind (wpAny_setEpoch_of ho X.data X.ok.fits ?_)
   unfold newFields
   refine wpAny_bind (wpAny_newObj_type (wpAny_pure ⟨_, rfl, "set_iterator", _, ⟨_, Heap.get?_push_size _ rfl, rfl⟩, set_it_next.lookup, ?_⟩))
   exact h _ (s.heap.objs.size + 1) _ _ s.drawn (Nat.le_refl _) (Nat.le_succ _) (Nat.ne_of_gt (Nat.lt_succ_self _)) (pick_perm _ _) ⟨Heap.get?_push_of_some _ ho, _, _, Heap.get?_push_size _ rfl, rfl, rfl, .inl ⟨hb, ⟨0, rfl⟩, rfl⟩⟩ fun b u e => Heap.get?_push_of_some _ e
 have hb' : w.params.followText "set-order" = false := Bool.eq_false_iff.mpr hb
 rw [hb']
 cases hd : SDrawn es t with
 | false =>
   simp only [Bool.not_false, Bool.and_false, Bool.false_eq_true, if_false]
   refine wpAny_bind (wpAny_pure ?_)
   refine wpAny_bind (wpAny_setEpoch_of ho X.data X.ok.fits ?_)
   unfold newFields
   refine wpAny_bind (wpAny_newObj_type (wpAny_pure ⟨_, rfl, "set_iterator", _, ⟨_, Heap.get?_push_size _ rfl, rfl⟩, set_it_next.lookup, ?_⟩))
   exact h _ (s.heap.objs.size + 1) _ _ s.drawn (Nat.le_refl _) (Nat.le_succ _) (Nat.ne_of_gt (Nat.lt_succ_self _)) .rfl ⟨Heap.get?_push_of_some _ ho, _, _, Heap.get?_push_size _ rfl, rfl, rfl, .inr (.inl ⟨hb', hd, rfl, rfl⟩)⟩ fun b u e => Heap.get?_push_of_some _ e
 | true =>
   simp only [Bool.not_false, Bool.and_true, if_true]
   refine wpAny_bind (wp_drawOrder es.size (List.range es.size) s (by simp) fun places d hp => ?_)
   unfold newTuple
   have hl : places.length = es.size := by rw [hp.length_eq]; simp
   refine wpAny_bind (wpAny_newObj_type ?_ ?_)
   · refine wpAny_bind (wpAny_setEpoch_of (Heap.get?_push_of_some _ ho) X.data X.ok.fits ?_)
     unfold newFields
     refine wpAny_bind (wpAny_newObj_type (wpAny_pure ⟨_, rfl, "set_iterator", _, ⟨_, Heap.get?_push_size _ rfl, rfl⟩, set_it_next.lookup, ?_⟩))
     refine h _ s.heap.objs.size _ _ d (by rw [Heap.size_push]; exact Nat.le_succ _) (Nat.le_refl _) (by rw [Heap.size_push]; exact Nat.ne_of_lt (Nat.lt_succ_self _)) (perm_pick hp) ⟨Heap.get?_push_of_some _ (Heap.get?_push_of_some _ ho), _, _, Heap.get?_push_size _ rfl, rfl, rfl, .inr (.inr ⟨hb', hd, rfl, _, places, _, Heap.get?_push_of_some _ (Heap.get?_push_size _ rfl), rfl, hp, rfl⟩)⟩ fun b u e => Heap.get?_push_of_some _ (Heap.get?_push_of_some _ e)
   · have hf := X.few
     unfold scanBound at hf
     show ((places.map fun (i : Nat) => rawInt (i : Int)).toArray).size ≤ sizeLine
     rw [List.size_toArray, List.length_map, hl, sizeLine_eq]; omega
def SMode (w : World) (a : Addr) (es : Array (Int × Value)) (ep : Nat) (t : SetTable) (ord : List (Int × Value)) (i sl : Nat) : Prop :=
 (w.params.followText "set-order" = true ∧ ord = (pickOrder (w.params.setOrder a ep) es).toList) ∨ (w.params.followText "set-order" = false ∧ SDrawn es t = false ∧ sl = slotAt t i ∧ ord = es.toList)
theorem wp_setWalkT {a : Addr} {o : Obj} {es : Array (Int × Value)} {ep : Nat} {t : SetTable} (ho : s.heap.get? a = some o) (X : ItO w o es ep t) (hb : w.params.followText "set-order" = true) {Q : Array (Int × Value) → Shared → Prop}
   (h : Q (pickOrder (w.params.setOrder a ep) es) s) : wpAny (model prog w) A (setWalk a) Q E s := by
 unfold setWalk
 refine wpAny_bind (wpAny_setState_of ho X.data X.ok.fits ?_)
 dsimp only
 refine wpAny_bind (wp_byText ?_)
 rw [hb]
 simp only [if_true]
 exact wpAny_bind (wpAny_askSetting (wpAny_pure h))
theorem wp_setNext {a : Addr} {o : Obj} {es : Array (Int × Value)} {ep : Nat} {t : SetTable} {ord : List (Int × Value)} {i sl : Nat} (ho : s.heap.get? a = some o) (X : ItO w o es ep t) (hm : SMode w a es ep t ord i sl) (hil : i ≤ es.size) {Q : Option (Value × Nat) → Shared → Prop}
   (h0 : ord[i]? = none → Q none s) (h1 : ∀ e sl', ord[i]? = some e → SMode w a es ep t ord (i + 1) sl' → Q (some (e.2, sl')) s) : wpAny (model prog w) A (setNext a sl i ep) Q E s := by
 unfold setNext
 refine wpAny_bind (wpAny_setState_of ho X.data X.ok.fits ?_)
 dsimp only
 refine wpAny_bind (wp_byText ?_)
 rcases hm with ⟨hb, hord⟩ | ⟨hb, hdr, hsl, hord⟩
 · rw [hb]
   simp only [if_true, bne_self_eq_false, Bool.false_eq_true, if_false]
   refine wpAny_bind (wp_setWalkT ho X hb (wpAny_pure ?_))
   have e : (pickOrder (w.params.setOrder a ep) es)[i]? = ord[i]? := by rw [hord, Array.getElem?_toList]
   rw [e]
   cases hq : ord[i]? with
   | none => exact h0 hq
   | some x => exact h1 x sl hq (.inl ⟨hb, hord⟩)
 · rw [hb]
   simp only [Bool.false_eq_true, if_false]
   show wpAny _ _ (if SDrawn es t = true then _ else _) _ _ s
   rw [hdr]
   simp only [Bool.false_eq_true, if_false]
   have hled : t.led = true := by rw [X.led, hb]; rfl
   show wpAny _ _ ((if (!t.led && !es.isEmpty) = true then unsupported "set:maker-not-led" else pure ()) >>= _) _ _ s
   rw [hled]
   simp only [Bool.not_true, Bool.false_and, Bool.false_eq_true, if_false]
   refine wpAny_bind (wpAny_pure ?_)
   have hps : t.place.size = es.size := by
     have := X.ok.fits
     simp only [SetTable.fits, Bool.and_eq_true, beq_iff_eq] at this
     exact this.1
   rw [hsl, slot_below X.ok.ris (by omega)]
   refine wpAny_pure ?_
   have e : ord[i]? = es[i]? := by rw [hord, Array.getElem?_toList]
   by_cases z : i < es.size
   · have hz : es[i]? = some es[i] := Array.getElem?_eq_getElem z
     have hz2 : t.place[i]? = some (t.place[i]'(by omega)) := Array.getElem?_eq_getElem (by omega)
     have := h1 es[i] (t.place[i]'(by omega) + 1) (by rw [e, hz]) (.inr ⟨hb, hdr, by show _ = (t.place[i]?).getD 0 + 1; rw [hz2]; rfl, hord⟩)
     rw [hz, hz2]
     exact this
   · have hz : es[i]? = none := Array.getElem?_eq_none (by omega)
     rw [hz]
     exact h0 (by rw [e, hz])
theorem stop_set {I : Addr} {oI : Obj} {vs : Array Value} (hh : A.handled = none) (hoI : s.heap.get? I = some oI) (hd : oI.data = .fields vs) (hv : 2 < vs.size) {Q : Option Value → Shared → Prop} (hQ : ∀ h', Heap.ExtBut I s.heap h' → Q none { s with heap := h' }) :
   wpAny (model prog w) A.in1 (do
       setField (Value.ref I) 2 Value.none
       let x ← newExc (Value.type "StopIteration") []
       raiseNew x : Sem Fin)
     (fun fin s' => ∃ v, fin = Fin.done (Flow.ret v) ∧ wpAny (model prog w) A (pure (some v)) Q E s')
     (fun e s' => wpAny (model prog w) A (do
         let b ← isInstance e (Value.type "StopIteration")
         if b = true then pure none else throw e) Q E s') s := by
 refine wpAny_bind (wpAny_setField hoI hd hv ?_)
 refine wpAny_bind ?_
 simp only [newExc, newTuple]
 refine wpAny_bind (wpAny_newObj_type ?_ (by size_fits))
 refine wpAny_bind (m := firstArgMember _ _) (wpAny_of_eq (a := Value.none) (by first | rfl | (simp only [firstArgMember]; rfl)) ?_)
 refine wpAny_newObj_type ?_ (by size_fits)
 simp only [raiseNew]
 refine wpAny_bind (wpAny_handled ?_)
 rw [show A.in1.handled = none from hh]
 refine wpAny_bind (wpAny_pure (wpAny_throw ?_))
 refine wpAny_bind (wpAny_isInstance (T := "StopIteration") (b := true) ⟨_, Heap.get?_push_size _ rfl, rfl⟩ isSubtype_stop ?_)
 exact wpAny_pure (hQ _ (((Heap.SameBut.update ..).extBut.push _).push _))
theorem pick_at {es : Array (Int × Value)} : ∀ {places : List Nat} {i : Nat}, (∀ p ∈ places, p < es.size) → (places.filterMap fun j => es[j]?)[i]? = (places[i]?).bind fun j => es[j]?
 | [], i, _ => by simp
 | p :: r, i, h => by
   have hp : p < es.size := h p (by simp)
   rw [List.filterMap_cons_some (Array.getElem?_eq_getElem hp)]
   cases i with
   | zero => simp [Array.getElem?_eq_getElem hp]
   | succ i => simpa using pick_at (places := r) (i := i) fun q hq => h q (by simp [hq])
theorem pyNext_set {I a T : Addr} {o : Obj} {es : Array (Int × Value)} {ep : Nat} {t : SetTable} {ord : List (Int × Value)} {i : Nat} (hh : A.handled = none) (X : ItO w o es ep t) (haI : a ≠ I) (hTI : SDrawn es t = true → T ≠ I) (hil : i ≤ es.size) (st : SIt w I a T o es ep t ord i s.heap) {Q : Option Value → Shared → Prop}
   (h0 : ord[i]? = none → ∀ h', (∀ b u, b ≠ I → s.heap.get? b = some u → h'.get? b = some u) → Q none { s with heap := h' })
   (hQ : ∀ e h', ord[i]? = some e → SIt w I a T o es ep t ord (i + 1) h' → (∀ b u, b ≠ I → s.heap.get? b = some u → h'.get? b = some u) → Q (some e.2) { s with heap := h' }) :
   wpAny (model prog w) A (pyNext (.ref I)) Q E s := by
 obtain ⟨ho, first, oI, hoI, hc, hd, hm⟩ := st
 have hTy : s.TypeIs (.ref I) "set_iterator" := ⟨oI, hoI, hc⟩
 unfold pyNext
 refine wpAny_bind (wpAny_attempt (wpAny_callSpecial?_slot (name := Str.ofString "__next__") hTy set_it_next (wpAny_call_entry set_it_next hTy set_it_entry ?_ (set_it_args _))))
 unfold Builtin.«set_iterator.__next__»
 refine wpAny_bind (wpAny_pure ?_)
 refine wpAny_bind (wpAny_fieldsOf hoI hd ?_)
 dsimp only
 refine wpAny_bind (wpAny_setEntries_of ho X.data X.ok.fits ?_)
 simp only [bne_self_eq_false, Bool.false_eq_true, if_false]
 have key : ∀ sl : Nat, first = .int sl 0 → SMode w a es ep t ord i sl → (∀ sl' : Nat, SMode w a es ep t ord (i + 1) sl' → (w.params.followText "set-order" = true ∧ (∃ x : Nat, Value.int (sl' : Int) 0 = .int x 0) ∧ ord = (pickOrder (w.params.setOrder a ep) es).toList) ∨
    (w.params.followText "set-order" = false ∧ SDrawn es t = false ∧ Value.int (sl' : Int) 0 = .int (slotAt t (i + 1)) 0 ∧ ord = es.toList)) →
   wpAny (model prog w) A.in1 (do
       let r ← setNext a sl i ep
       match r with
       | some (x, next) => do
         setField (Value.ref I) 0 (rawInt ↑next)
         setField (Value.ref I) 1 (rawInt (↑i + 1))
         ret x
       | none => do
         setField (Value.ref I) 2 Value.none
         let x ← newExc (Value.type "StopIteration") []
         raiseNew x)
     (fun fin s' => ∃ v, fin = Fin.done (Flow.ret v) ∧ wpAny (model prog w) A (pure (some v)) Q E s')
     (fun e s' => wpAny (model prog w) A (do
         let b ← isInstance e (Value.type "StopIteration")
         if b = true then pure none else throw e) Q E s') s := fun sl hf hmo hnx => by
   subst hf
   refine wpAny_bind (wp_setNext ho X hmo hil (fun hn => ?_) (fun e sl' he hmo' => ?_))
   · exact stop_set hh hoI hd (by simp) fun h' hx => h0 hn h' fun b u hb hu => hx b u hb hu
   · dsimp only
     refine wpAny_bind (wpAny_setField hoI hd (by simp) ?_)
     have g1 := Heap.get?_update_self (Obj.mapFields (·.setIfInBounds 0 (rawInt (sl' : Int)))) hoI (Obj.isFreed_of_fields (Obj.data_mapFields hd _))
     have d1 := Obj.data_mapFields hd (·.setIfInBounds 0 (rawInt (sl' : Int)))
     refine wpAny_bind (wpAny_setField g1 d1 (by simp) ?_)
     have g2 := Heap.get?_update_self (Obj.mapFields (·.setIfInBounds 1 (rawInt ((i : Int) + 1)))) g1 (Obj.isFreed_of_fields (Obj.data_mapFields d1 _))
     refine wpAny_pure ⟨_, rfl, wpAny_pure (hQ e _ he ⟨?_, _, _, g2, (Obj.cls_mapFields ..).trans ((Obj.cls_mapFields ..).trans hc), by rw [Obj.data_mapFields d1]; rfl, (hnx sl' hmo').elim .inl fun z => .inr (.inl z)⟩ fun b u hb hu => ?_)⟩
     · exact (Heap.get?_update_other _ _ (Ne.symm haI)).trans ((Heap.get?_update_other _ _ (Ne.symm haI)).trans ho)
     · exact (Heap.get?_update_other _ _ (Ne.symm hb)).trans ((Heap.get?_update_other _ _ (Ne.symm hb)).trans hu)
 rcases hm with ⟨hb, ⟨sl, rfl⟩, hord⟩ | ⟨hb, hdr, rfl, hord⟩ | ⟨hb, hdr, rfl, oT, places, c, hT, hTd, hp, hord⟩
 · have := key sl rfl (.inl ⟨hb, hord⟩) fun sl' _ => .inl ⟨hb, ⟨sl', rfl⟩, hord⟩
   exact this
 · have := key (slotAt t i) rfl (.inr ⟨hb, hdr, rfl, hord⟩) fun sl' hm' => .inr (by
     rcases hm' with ⟨hb', _⟩ | ⟨_, _, e, _⟩
     · rw [hb] at hb'; cases hb'
     · exact ⟨hb, hdr, by rw [e], hord⟩)
   exact this
 · dsimp only
   refine wpAny_bind (wpAny_seqItems hT hTd ?_)
   dsimp only
   have hat : ((places.map fun (i : Nat) => rawInt (i : Int)).toArray)[((i : Int)).toNat]? = (places[i]?).map fun (i : Nat) => rawInt (i : Int) := by
     rw [List.getElem?_toArray, List.getElem?_map]; rfl
   have hlt : ∀ p ∈ places, p < es.size := fun p hp' => by simpa using hp.mem_iff.mp hp'
   have hoi : ord[i]? = (places[i]?).bind fun j => es[j]? := by rw [hord]; exact pick_at hlt
   cases hq : places[i]? with
   | none =>
     rw [hq] at hat hoi
     rw [hat]
     refine wpAny_bind (wpAny_setField hoI hd (by simp) ?_)
     have g1 := Heap.get?_update_self (Obj.mapFields (·.setIfInBounds 0 (rawInt 0))) hoI (Obj.isFreed_of_fields (Obj.data_mapFields hd _))
     have d1 := Obj.data_mapFields hd (·.setIfInBounds 0 (rawInt 0))
     exact stop_set (s := { s with heap := s.heap.update I (Obj.mapFields (·.setIfInBounds 0 (rawInt 0))) }) hh g1 d1 (by simp) fun h' hx => h0 hoi h' fun b u hb hu => hx b u hb ((Heap.get?_update_other _ _ (Ne.symm hb)).trans hu)
   | some p =>
     have hps : p < es.size := hlt p (List.mem_of_getElem? hq)
     rw [hq] at hat hoi
     rw [hat]
     dsimp only [Option.map, rawInt]
     have hoi' : ord[i]? = some es[p] := by rw [hoi]; exact Array.getElem?_eq_getElem hps
     have hnd : wpAny (model prog w) A.in1 (setNextDrawn a p ep) (fun x s' => x = es[p].2 ∧ s' = s) (fun e s' => False) s := by
       unfold setNextDrawn
       refine wpAny_bind (wpAny_setState_of ho X.data X.ok.fits ?_)
       dsimp only
       simp only [bne_self_eq_false, Bool.false_eq_true, if_false]
       rw [Array.getElem?_eq_getElem hps]
       exact wpAny_pure ⟨rfl, rfl⟩
     refine wpAny_bind (wpAny_mono hnd (fun x s' hx => ?_) fun _ _ z => z.elim)
     obtain ⟨rfl, rfl⟩ := hx
     refine wpAny_bind (wpAny_setField hoI hd (by simp) ?_)
     have g1 := Heap.get?_update_self (Obj.mapFields (·.setIfInBounds 1 (rawInt ((i : Int) + 1)))) hoI (Obj.isFreed_of_fields (Obj.data_mapFields hd _))
     refine wpAny_pure ⟨_, rfl, wpAny_pure (hQ es[p] _ hoi' ⟨?_, _, _, g1, (Obj.cls_mapFields ..).trans hc, by rw [Obj.data_mapFields hd]; rfl, .inr (.inr ⟨hb, hdr, rfl, oT, places, c, ?_, hTd, hp, hord⟩)⟩ fun b u hb hu => ?_)⟩
     · exact (Heap.get?_update_other _ _ (Ne.symm haI)).trans ho
     · exact (Heap.get?_update_other _ _ (Ne.symm (hTI hdr))).trans hT
     · exact (Heap.get?_update_other _ _ (Ne.symm hb)).trans hu
theorem SIt.frame {I a T : Addr} {o : Obj} {es : Array (Int × Value)} {ep : Nat} {t : SetTable} {ord : List (Int × Value)} {i : Nat} {h h' : Heap} (st : SIt w I a T o es ep t ord i h) (k : ∀ b ∈ [I, a, T], ∀ u, h.get? b = some u → h'.get? b = some u) : SIt w I a T o es ep t ord i h' := by
 obtain ⟨ho, first, oI, hoI, hc, hd, hm⟩ := st
 refine ⟨k a (by simp) _ ho, first, oI, k I (by simp) _ hoI, hc, hd, ?_⟩
 rcases hm with h1 | h1 | ⟨hb, hdr, rfl, oT, places, c, hT, r⟩
 · exact .inl h1
 · exact .inr (.inl h1)
 · exact .inr (.inr ⟨hb, hdr, rfl, oT, places, c, k T (by simp) _ hT, r⟩)
theorem Walks.set {I a T : Addr} {o : Obj} {es : Array (Int × Value)} {ep : Nat} {t : SetTable} {ord : List (Int × Value)} (hh : A.handled = none) (X : ItO w o es ep t) (haI : a ≠ I) (hTI : SDrawn es t = true → T ≠ I) (hp : List.Perm ord es.toList) :
   Walks prog w A I [I, a, T] [I] ord.length (fun i v => ∃ e, ord[i]? = some e ∧ e.2 = v) (fun i h => SIt w I a T o es ep t ord i h) where
 sub := fun b hb => by simp at hb; simp [hb]
 frame := fun i h h' st k => st.frame k
 item := fun i s Q E hi st hQ => by
   have hl : ord.length = es.size := by rw [hp.length_eq, Array.length_toList]
   refine pyNext_set hh X haI hTI (by omega) st (fun hn => ?_) (fun e h' he st' hk => hQ _ _ s.toks ⟨e, he, rfl⟩ st' fun b u hb hu => hk b u (fun z => hb (by simp [z])) hu)
   rw [List.getElem?_eq_getElem hi] at hn; cases hn
 done := fun s Q E st hQ => by
   have hl : ord.length = es.size := by rw [hp.length_eq, Array.length_toList]
   refine pyNext_set hh X haI hTI (by omega) st (fun hn h' hk => hQ _ s.toks fun b u hb hu => hk b u (fun z => hb (by simp [z])) hu) (fun e h' he _ _ => ?_)
   rw [List.getElem?_eq_none (Nat.le_refl _)] at he; cases he
 self := fun i s Q E st h => by
   obtain ⟨ho, first, oI, hoI, hc, hd, hm⟩ := st
   have hTy : s.TypeIs (.ref I) "set_iterator" := ⟨oI, hoI, hc⟩
   refine wpAny_pyIter_slot hTy set_it_iter (wpAny_call_entry set_it_iter hTy set_it_ientry ?_ (set_it_iargs _))
   show wpAny _ _ (ret (.ref I)) _ _ s
   exact wpAny_pure ⟨_, rfl, "set_iterator", _, hTy, set_it_next.lookup, h⟩
theorem hint_set {r : Addr} {Q : Bool → Shared → Prop} (hT : s.TypeIs (.ref r) "set") (h : Q false s) : wpAny (model prog w) A (Builtin.List.listLengthHint (.ref r)) Q E s := by
 unfold Builtin.List.listLengthHint
 refine wpAny_bind (wpAny_specialOf hT PySem.F.slot_set_len.lookup ?_)
 generalize hid : ("set.__len__" : String) = id0
 wp_delta
 rw [show splitId id0 = some ("set", "__len__") from by subst hid; decide +kernel]
 subst hid
 refine wpAny_bind (wpAny_isInstance (T := "set") (b := true) hT (by rw [isSubtype_type]; kernel_rfl) ?_)
 refine wpAny_ite_split (fun hab => absurd hab (by decide)) (fun _ => ?_)
 refine wpAny_ite_split (fun _ => ?_) (fun hab => absurd (by decide +kernel) hab)
 refine wpAny_bind (wpAny_typeOf hT ?_)
 exact wpAny_pure h
theorem extend_set {R : Result → Shared → Prop} {a S' : Addr} {o : Obj} {es : Array (Int × Value)} {ep : Nat} {t : SetTable} (hh : A.handled = none) (ho : s.heap.get? a = some o) (X : ItO w o es ep t) (hSa : S' ≠ a) (res : Value) (c₀ : Nat) (hS : s.heap.get? S' = some { cls := .type "list", data := .seq #[] c₀ })
   (hR : ∀ h' tk d acc' c' ord, (∀ b u, b ≠ S' → s.heap.get? b = some u → h'.get? b = some u) → h'.get? S' = some { cls := .type "list", dict := none, data := .seq acc' c', slots := #[] } → List.Perm ord es.toList → acc'.toList = ord.map (·.2) → R (.ok (.ret res)) { s with heap := h', drawn := d, toks := tk }) :
   wpAny (model prog w) A.in1 (Builtin.List.listExtendWith (.ref S') (.ref a) res)
     (fun fin s' => match fin with | .done f => R (.ok f) s' | .again c' => c'.quiet = true ∧ codeAny (model prog w) A c' R s') (fun e s' => R (.error e) s') s := by
 have hT : s.TypeIs (.ref a) "set" := ⟨o, ho, X.ex.1⟩
 unfold Builtin.List.listExtendWith
 refine wpAny_bind (wpAny_typeOf (T := "set") hT ?_)
 have h1 : Builtin.List.listSameRef (.ref S') (.ref a) = false := by simp [Builtin.List.listSameRef, hSa]
 simp only [h1, show (Value.type "set" == Value.type "list") = false by decide, show (Value.type "set" == Value.type "tuple") = false by decide, Bool.or_false, Bool.false_eq_true, if_false]
 refine wpAny_bind (pyIter_set ho X fun I T ord h1 d hI hTs hTI hp st hk => ?_)
 have hlS : S' < s.heap.objs.size := Heap.lt_size hS
 have hla : a < s.heap.objs.size := Heap.lt_size ho
 have hSf : S' ∉ [I, a, T] := by
   simp only [List.mem_cons, List.not_mem_nil, or_false, not_or]
   exact ⟨Nat.ne_of_lt (Nat.lt_of_lt_of_le hlS hI), hSa, Nat.ne_of_lt (Nat.lt_of_lt_of_le hlS hTs)⟩
 have W := Walks.set (prog := prog) (A := A.in1) (I := I) (a := a) (T := T) hh X (Nat.ne_of_lt (Nat.lt_of_lt_of_le hla hI)) (fun _ => hTI) hp
 have hn : ord.length ≤ sizeLine := by rw [hp.length_eq, Array.length_toList]; exact fits_of_scanBound X.few
 have key : ∀ (h : Heap) (c₁ tk : Nat), SIt w I a T o es ep t ord 0 h → (∀ b u, b ≠ S' → s.heap.get? b = some u → h.get? b = some u) →
     h.get? S' = some { cls := .type "list", data := .seq #[] c₁ } → codeAny (model prog w) A (.builtin "list.extend.loop" ⟨[.ref S', .ref I, res], []⟩) R { s with heap := h, drawn := d, toks := tk } := by
   intro h c₁ tk hst hk' hS₁
   refine codeAny_extend_loopS W.toS hn S' hSf res ord.length 0 _ #[] c₁ rfl (Nat.zero_le _) hst hS₁ (ItemsOf.nil _) fun s' acc' c' hm hS' hacc => ?_
   rw [Moved.eq_with hm]
   refine hR s'.heap s'.toks d acc' c' ord (fun b u hb e => hm.heap b u (fun hmem => ?_) (hk' b u hb e)) hS' hp ?_
   · rcases List.mem_cons.mp hmem with e' | hmem
     · exact hb e'
     · exact absurd (Heap.lt_size e) (by rw [List.mem_singleton.mp hmem]; exact Nat.not_lt.mpr hI)
   · refine List.ext_getElem? fun j => ?_
     by_cases hj : j < ord.length
     · have hj' : j < acc'.size := by rw [hacc.1]; exact hj
       obtain ⟨e, he, hv⟩ := hacc.2 j acc'[j] (Array.getElem?_eq_getElem hj')
       rw [Array.getElem?_toList, Array.getElem?_eq_getElem hj', List.getElem?_map, he, ← hv]; rfl
     · rw [List.getElem?_eq_none (by rw [Array.length_toList, hacc.1]; omega), List.getElem?_eq_none (by rw [List.length_map]; omega)]
 have hS₁ := hk _ _ hS
 have ho1 := hk _ _ ho
 refine wpAny_bind (wpAny_holding (hint_set (s := { s with heap := h1, drawn := d }) ⟨o, ho1, X.ex.1⟩ ?_))
 refine wpAny_ite_split (fun _ => ?_) (fun _ => wpAny_pure ⟨plainId_quiet PySem.F.plain_extend_loop _, key _ c₀ _ st (fun b u _ e => hk b u e) hS₁⟩)
 refine wpAny_bind (wpAny_rule ?_)
 refine wpAny_bind ?_
 show wpAny _ _ (updateSeq S' (·.push .none) >>= fun _ => updateSeq S' (·.pop)) _ _ _
 refine wpAny_bind (wpAny_updateSeq hS₁ rfl ?_)
 have hS₂ := Heap.get?_update_self (Obj.mapSeq (·.push Value.none)) hS₁ rfl
 refine wpAny_updateSeq (hz := by seq_fits) hS₂ rfl ?_
 have hS₃ := Heap.get?_update_self (Obj.mapSeq (·.pop)) hS₂ rfl
 refine wpAny_pure ⟨plainId_quiet PySem.F.plain_extend_loop _, key _ _ _ ?_ (fun b u hb e => ?_) hS₃⟩
 · refine st.frame fun b hb u e => ?_
   have hbS : b ≠ S' := fun h => hSf (h ▸ hb)
   exact (Heap.get?_update_other _ _ (Ne.symm hbS)).trans ((Heap.get?_update_other _ _ (Ne.symm hbS)).trans e)
 · exact (Heap.get?_update_other _ _ (Ne.symm hb)).trans ((Heap.get?_update_other _ _ (Ne.symm hb)).trans (hk b u e))
end
end L2
namespace L2
open PySem PySem.Spec PyProof.Rows PySem.W
def SetO (P : Program) (w : World) (p : Addr) (ks : List Key) : HO := .ext fun h => ∃ n, KSetI (mixKind P w) h p (fun k => k ∈ ks) n
section
variable {X : Cx}
theorem Inv.draw {pins : List (Addr × Obj)} {σ : St} {H : Hp} {s : Shared} {d : Drawn} (I : Inv X pins σ H s) : Inv X pins σ H { s with drawn := d } := ⟨I.ok, I.os, I.bare, I.base, I.loc, I.cell, I.free, I.freeC, I.pin, I.hok, I.len⟩
theorem key_val {P : Program} {w : World} {k : Key} {v : Value} (h : (mixKind P w).is k v = true) : RelV (kV k) v ∧ v.scannable = true := by
 have h' : keyIs k v = true := h
 rcases keyIs_shape h' with ⟨i, t, e1, e2⟩ | ⟨y, t, e1, e2⟩
 · rw [e1, e2]; exact ⟨⟨t, rfl⟩, rfl⟩
 · rw [e1, e2]; exact ⟨⟨t, rfl⟩, rfl⟩
theorem val_key {P : Program} {w : World} {k : Key} {v : Value} (h : RelV (kV k) v) : (mixKind P w).is k v = true := by
 show keyIs k v = true
 rcases k with i | y
 · obtain ⟨t, rfl⟩ := h
   simp [keyIs, Value.isInt]
 · obtain ⟨t, rfl⟩ := h
   simp [keyIs, Value.isStrOf]
theorem keys_of {P : Program} {w : World} : ∀ {l : List (Int × Value)}, ElemsOf (mixKind P w) l → l.Pairwise (Apart (mixKind P w)) → ∃ ms : List Key, Vals (ms.map kV) (l.map (·.2)) ∧ ms.Nodup ∧ ∀ k, k ∈ ms ↔ ∃ e ∈ l, (mixKind P w).is k e.2 = true
 | [], _, _ => ⟨[], .nil, List.nodup_nil, fun k => by simp⟩
 | e :: l, h, ha => by
   obtain ⟨ms, h1, h2, h3⟩ := keys_of h.tail (List.pairwise_cons.mp ha).2
   obtain ⟨⟨k, hk, _⟩, _⟩ := h.head
   refine ⟨k :: ms, .cons (key_val hk).1 h1, List.nodup_cons.mpr ⟨fun z => ?_, h2⟩, fun k' => ?_⟩
   · obtain ⟨f, hf, hfk⟩ := (h3 k).mp z
     exact (List.pairwise_cons.mp ha).1 f hf k hk hfk
   · rw [List.mem_cons, h3 k']
     constructor
     · rintro (rfl | ⟨f, hf, hfk⟩)
       · exact ⟨e, by simp, hk⟩
       · exact ⟨f, by simp [hf], hfk⟩
     · rintro ⟨f, hf, hfk⟩
       rcases List.mem_cons.mp hf with rfl | hf
       · exact .inl ((mixKind P w).inj _ _ _ hfk hk)
       · exact .inr ⟨f, hf, hfk⟩
def rSetK (P : Program) (w : World) (K : W.Frag) : List V → Hp → VK → Prop := fun xs H Q => ∃ a ks, xs = [.ref a] ∧ SqL K H a (ks.map kV) ∧ ks.length < 1000 ∧ ∀ p, H p = none → Q (.ref p) (upd H p (SetO P w p ks))
theorem vals_at : ∀ {xs : List V} {vs : List Value} {i : Nat} {v : Value}, Vals xs vs → vs[i]? = some v → ∃ x, xs[i]? = some x ∧ RelV x v
 | _, _, i, v, .nil, h => by simp at h
 | _, _, 0, v, .cons r t, h => by simp at h; subst h; exact ⟨_, rfl, r⟩
 | _, _, i + 1, v, .cons r t, h => by
   obtain ⟨x, h1, h2⟩ := vals_at (i := i) t (by simpa using h)
   exact ⟨x, by simpa using h1, h2⟩
theorem call_setK (hc : X.calm = true) : CallR X (.type "set") (rSetK X.prog X.w X.K) := by
 intro pins s σ H xs us Q I r h
 obtain ⟨a, ks, rfl, ha, hlen, q⟩ := h
 obtain ⟨u, rfl, ru⟩ := vals1 r
 cases ru
 obtain ⟨its, rv, pl, hz⟩ := I.list ha
 have hl := rv.length
 rw [List.length_map] at hl
 refine kset_list (knd := mixKind X.prog X.w) (val := fun i => ks.getD i (Sum.inl 0)) (I.ok.hd hc) pl.isList (fun i v hv => ?_) (by rw [List.size_toArray]; unfold scanBound; omega) fun h' tk hS hk => ?_
 · have hv' : its[i]? = some v := by simpa using hv
   obtain ⟨x, hx, rx⟩ := vals_at rv hv'
   rw [List.getElem?_map] at hx
   cases hki : ks[i]? with
   | none => rw [hki] at hx; cases hx
   | some k =>
     rw [hki] at hx
     cases hx
     have e : ks.getD i (Sum.inl 0) = k := by rw [List.getD_eq_getElem?_getD, hki]; rfl
     show (mixKind X.prog X.w).is (ks.getD i (Sum.inl 0)) v = true ∧ _
     rw [e]
     have hkv := val_key (P := X.prog) (w := X.w) rx
     exact ⟨hkv, (key_val hkv).2⟩
 · have hset : KSet (mixKind X.prog X.w) h' s.heap.objs.size (fun k => k ∈ ks) its.length := by
     obtain ⟨o, es, ep, t, ho, Z, hn⟩ := hS
     refine ⟨o, es, ep, t, ho, ⟨Z.ex, Z.data, Z.el, fun k => ?_, Z.apart, Z.few, Z.ok, Z.led⟩, by simpa using hn⟩
     rw [← Z.mem k, List.size_toArray, ← hl]
     constructor
     · intro hk
       obtain ⟨i, hi, e⟩ := List.getElem_of_mem hk
       exact ⟨i, hi, by show ks.getD i (Sum.inl 0) = k; rw [List.getD_eq_getElem?_getD, List.getElem?_eq_getElem hi]; exact e⟩
     · rintro ⟨i, hi, e⟩
       have e' : ks.getD i (Sum.inl 0) = k := e
       rw [List.getD_eq_getElem?_getD, List.getElem?_eq_getElem hi] at e'
       rw [← e']; exact List.getElem_mem hi
   refine ⟨.ref s.heap.objs.size, _, I.laid (t' := tk) (o := SetO X.prog X.w s.heap.objs.size ks) (fun b u e => hk b u (Heap.lt_size e) e) (Nat.le_refl _) ?_, rfl, q _ (I.hok.fresh (Nat.le_refl _))⟩
   obtain ⟨o, es, ep, t, ho, _⟩ := id hset
   exact ⟨⟨_, hset.it⟩, ⟨o, ho⟩, fun h1 h2 ⟨n, k1⟩ k => ⟨n, k1.at' k⟩⟩
theorem k_setK (P : Program) (w : World) (K : W.Frag) (hc : X.calm = true) (h : X.K = K := by rfl) (hp : X.prog = P := by rfl) (hw : X.w = w := by rfl) : CallR X (.type "set") (rSetK P w K) := by subst h; subst hp; subst hw; exact call_setK hc
theorem collect_set {pins : List (Addr × Obj)} {s : Shared} {σ : St} {H : Hp} {p : Addr} {ks : List Key} {A : Around} {E : Value → Shared → Prop} {Q : List Value → Shared → Prop} (I : Inv X pins σ H s) (hp : H p = some (SetO X.prog X.w p ks)) (hh : A.handled = none)
   (hq : ∀ vs s' (ms : List Key), Vals (ms.map kV) vs → ms.Nodup → (∀ k, k ∈ ms ↔ k ∈ ks) → Inv X pins σ H s' → Q vs s') : wpAny (model X.prog X.w) A (collect (.ref p)) Q E s := by
 obtain ⟨⟨n, o, es, ep, t, ho, Z, hn⟩, _, _⟩ := (show ObjOk X.prog X.w H s.heap p (SetO X.prog X.w p ks) from I.hok p _ hp)
 have grow : ∀ b o, s.heap.get? b = some o → (s.heap.push (seqObj "list" #[] 0)).get? b = some o := fun b o e => Heap.get?_push_of_some _ e
 have lp : p < s.heap.objs.size := Heap.lt_size ho
 unfold collect
 refine wpAny_bind (wpAny_runValue (codeAny_builtin entry_proto_collect' ?_))
 show wpAny _ _ (do again (.builtin "list.__iadd__" ⟨[← newList [], .ref p], []⟩)) _ _ s
 refine wpAny_bind (wpAny_newList (wpAny_pure ⟨Code.quiet_builtin _ (by decide +kernel), codeAny_builtin entry_list_iadd' ?_⟩))
 show wpAny _ _ (Builtin.List.listExtendWith (.ref s.heap.objs.size) (.ref p) (.ref s.heap.objs.size)) _ _ { s with heap := s.heap.push (seqObj "list" #[] 0) }
 rw [Around.under_plainId (show plainId "list.__iadd__" = true by decide +kernel) _]
 have fin : ∀ s' : Shared, (∃ acc c ord, s'.heap.get? s.heap.objs.size = some { cls := .type "list", dict := none, data := .seq acc c, slots := #[] } ∧ List.Perm ord es.toList ∧ acc.toList = ord.map (·.2) ∧ Inv X pins σ H s') →
     wpAny (model X.prog X.w) A (do
       let o ← load s.heap.objs.size
       match o.data with
       | .seq xs _ => pure xs.toList
       | _ => unsupported "internal:collect") Q E s' := by
   rintro s' ⟨acc, c, ord, hS, hpm, e, I'⟩
   refine wpAny_bind (wpAny_load hS ?_)
   show wpAny _ _ (pure acc.toList) Q E _
   obtain ⟨ms, h1, h2, h3⟩ := keys_of (Z.el.perm hpm) ((hpm.pairwise_iff (fun {x y} h => apart_symm h)).mpr Z.apart)
   refine wpAny_pure (hq _ _ ms (by rw [e]; exact h1) h2 (fun k => ?_) I')
   rw [h3 k, Z.mem k]
   exact ⟨fun ⟨f, hf, q⟩ => ⟨f, hpm.mem_iff.mp hf, q⟩, fun ⟨f, hf, q⟩ => ⟨f, hpm.mem_iff.mpr hf, q⟩⟩
 refine wpAny_mono (extend_set (R := fun r s' => r = .ok (.ret (.ref s.heap.objs.size)) ∧ ∃ acc c ord, s'.heap.get? s.heap.objs.size = some { cls := .type "list", dict := none, data := .seq acc c, slots := #[] } ∧ List.Perm ord es.toList ∧ acc.toList = ord.map (·.2) ∧ Inv X pins σ H s')
   (s := { s with heap := s.heap.push (seqObj "list" #[] 0) }) hh (grow _ _ ho) Z.o (Nat.ne_of_gt lp) _ 0 (Heap.get?_push_size _ rfl) (fun h' tk d acc c ord hk hS hpm hacc => ?_))
   (fun fi s' hf => ?_) (fun e s' he => nomatch he.1)
 · exact ⟨rfl, acc, c, ord, hS, hpm, hacc, (I.kept (t' := tk) fun b o eb => hk b o (Nat.ne_of_lt (Heap.lt_size eb)) (grow b o eb)).draw⟩
 · cases fi with
   | done f =>
     obtain ⟨e, g⟩ := hf
     cases e
     exact fin s' g
   | again c' =>
     refine ⟨hf.1, codeAny_mono hf.2 fun r s2 ⟨e, g⟩ => ?_⟩
     subst e
     exact fin s2 g
def rSortS (P : Program) (w : World) : List V → Hp → VK → Prop := fun xs H Q => ∃ (a : Addr) (ns : List Int), xs = [.ref a] ∧ H a = some (SetO P w a (ns.map Sum.inl)) ∧ ns.length < 64 ∧ ∀ p ms, H p = none → ms.Nodup → (∀ n, n ∈ ms ↔ n ∈ ns) → Q (.ref p) (upd H p (.lst ((sortI ms).map V.int)))
theorem inl_keys : ∀ {ms : List Key} {ns : List Int}, (∀ k, k ∈ ms ↔ k ∈ ns.map Sum.inl) → ∃ l : List Int, ms = l.map Sum.inl ∧ ∀ n, n ∈ l ↔ n ∈ ns := by
 intro ms ns h
 have hx : ∀ k ∈ ms, ∃ n : Int, k = Sum.inl n := fun k hk => by
   obtain ⟨n, _, rfl⟩ := List.mem_map.mp ((h k).mp hk)
   exact ⟨n, rfl⟩
 have : ∀ ms : List Key, (∀ k ∈ ms, ∃ n : Int, k = Sum.inl n) → ∃ l : List Int, ms = l.map Sum.inl := by
   intro ms
   induction ms with
   | nil => intro _; exact ⟨[], rfl⟩
   | cons k r ih =>
     intro hx
     obtain ⟨n, rfl⟩ := hx k (by simp)
     obtain ⟨l, rfl⟩ := ih fun k hk => hx k (by simp [hk])
     exact ⟨n :: l, rfl⟩
 obtain ⟨l, rfl⟩ := this ms hx
 refine ⟨l, rfl, fun n => ?_⟩
 have := h (Sum.inl n)
 simpa using this
theorem call_sortS (hc : X.calm = true) : CallR X (.builtin "sorted") (rSortS X.prog X.w) := by
 intro pins s σ H xs us Q I r h
 obtain ⟨a, ns, rfl, ha, h64, q⟩ := h
 obtain ⟨u, rfl, ru⟩ := vals1 r
 cases ru
 refine Calls.call_function_entry kind_sorted plain_sorted entry_sorted (args_sorted1 _) ?_
 unfold Builtin.«sorted»
 refine wpAny_bind (m := checkCount "sorted" 1 1 _) (wpAny_pure ?_)
 refine wpAny_bind (collect_set I ha (I.ok.hd hc) fun vs s1 mk rvk hnd hmem I1 => ?_)
 obtain ⟨ms, rfl, hms⟩ := inl_keys hmem
 have hnd' : ms.Nodup := (List.pairwise_map.mp hnd).imp fun h z => h (by rw [z])
 have rv : Vals (ms.map V.int) vs := by rw [List.map_map] at rvk; exact rvk
 have hl := rv.length
 rw [List.length_map] at hl
 have h64' : ms.length < 64 := Nat.lt_of_le_of_lt (hnd'.length_le_of_subset fun n hn => (hms n).mp hn) h64
 refine wpAny_bind (wpAny_newList ?_ (by rw [sizeLine_eq]; omega))
 have fD : FpOk X pins H s1.heap.objs.size := I1.fpOk (Nat.le_refl _) (I1.hok.fresh (Nat.le_refl _))
 have hoL : (s1.heap.push (seqObj "list" vs.toArray 0)).get? s1.heap.objs.size = some (seqObj "list" vs.toArray 0) := Heap.get?_push_size _ rfl
 refine wpAny_bind (wpAny_holding (wpAny_call_entry slot_list_sort ⟨_, hoL, rfl⟩ entry_list_sort ?body (args_list_sort _)))
 case body =>
   refine list_sort_tree (s := { s1 with heap := s1.heap.push (seqObj "list" vs.toArray 0) }) hoL (ints_are rv) (by omega) fun out ns' hI hp hr => ⟨_, rfl, ?_⟩
   have e : ns' = sortI ms := eq_sortI hp hr
   subst e
   obtain ⟨c, hat⟩ := sortedHeap_at (out := out) hoL
   refine wpAny_pure ⟨_, rfl, .ref s1.heap.objs.size, upd H s1.heap.objs.size (.lst ((sortI ms).map V.int)), ?_, rfl, q _ ms fD.1 hnd' hms⟩
   have I3 : Inv X pins σ H { s1 with heap := sortedHeap (s1.heap.push (seqObj "list" vs.toArray 0)) s1.heap.objs.size vs out } := I1.kept (t' := s1.toks) fun b o e => by
     have hb : b ≠ s1.heap.objs.size := Nat.ne_of_lt (Heap.lt_size e)
     rw [sortedHeap_old hb (by rw [Heap.size_push]; exact Nat.lt_succ_of_lt (Heap.lt_size e))]
     exact Heap.get?_push_of_some _ e
   refine I3.track fD ⟨?_, out.toList, c, are_ints hI, ?_⟩
   · rw [List.length_map, (sortI_perm ms).length_eq, sizeLine_eq]; omega
   · simpa [seqObj] using hat
theorem k_sortS (P : Program) (w : World) (hc : X.calm = true) (hp : X.prog = P := by rfl) (hw : X.w = w := by rfl) : CallR X (.builtin "sorted") (rSortS P w) := by subst hp; subst hw; exact call_sortS hc
end
theorem sortI_set {ms ns : List Int} (hd : ms.Nodup) (h : ∀ n, n ∈ ms ↔ n ∈ ns) (hr : ns.Pairwise (· < ·)) : sortI ms = ns := by
 refine (eq_sortI (ns := ms) ?_ (hr.imp fun h => Int.le_of_lt h)).symm
 exact ((List.perm_ext_iff_of_nodup (hr.imp fun h => Int.ne_of_lt h) hd).mpr fun n => (h n).symm)
end L2
namespace L2
open PySem PySem.Spec PyProof.Rows PySem.W
section
variable {P : Program} {w : World} {H : Hp} {h : Heap} {a : Addr} {o : Obj} {u : HO}
theorem hok_tell {v : HO} (x : HOk P w H h) (hm : ∀ xs, H a ≠ some (.tup xs)) (ho : ∀ y, H a ≠ some (.own y)) (new : ObjOk P w (upd H a v) h a v) : HOk P w (upd H a v) h := fun b q e => by
 by_cases hb : b = a
 · subst hb; rw [upd_same] at e; cases e; exact new
 · rw [upd_ne hb] at e
   refine (x b q e).stay (fun c v _ q => q) (fun c q => ?_) fun c xs q => ?_
   · rw [upd_ne (fun z => ho _ (z ▸ q))]; exact q
   · rw [upd_ne (fun z => hm _ (z ▸ q))]; exact q
end
section
variable {X : Cx} {pins : List (Addr × Obj)} {σ : St} {H : Hp} {s : Shared} {a : Addr} {kvs : List (Key × V)}
theorem un_tell {fs ex : List Addr} {H0 H : Hp} {h0 h : Heap} {a : Addr} {v : HO} (u : Un fs ex H0 H h0 h) (hn : H a ≠ none) (hm : ∀ xs, H a ≠ some (.tup xs)) (hf : ∀ o u, H0 a = some (.frz o u) → False) (ht : ∀ ps, H a ≠ some (.tbl ps)) : Un fs ex H0 (upd H a v) h0 h where
 keep := u.keep
 slot := u.slot
 free := fun b o q n hx => by
   have e := u.free b o q n hx
   rw [upd_ne (fun z : b = a => hn (by rw [← z]; exact e))]; exact e
 there := u.there
 tups := fun b xs q => by
   have e := u.tups b xs q
   rw [upd_ne (fun z => hm _ (z ▸ e))]; exact e
 frzs := fun b o w q => by
   have e := u.frzs b o w q
   by_cases z : b = a
   · subst z; exact (hf _ _ q).elim
   · rw [upd_ne z]; exact e
 tbls := fun b ps q => by
   obtain ⟨more, e⟩ := u.tbls b ps q
   exact ⟨more, by rw [upd_ne (fun z => ht _ (z ▸ e))]; exact e⟩
theorem Inv.tell {v : HO} (I : Inv X pins σ H s) (hn : H a ≠ none) (hm : ∀ xs, H a ≠ some (.tup xs)) (ho : ∀ y, H a ≠ some (.own y)) (ht : ∀ ps, H a ≠ some (.tbl ps)) (hf : ∀ o u, X.H₀ a = some (.frz o u) → False) (new : ObjOk X.prog X.w (upd H a v) s.heap a v) : Inv X pins σ (upd H a v) s where
 ok := I.ok
 os := I.os
 bare := I.bare
 base := un_tell I.base hn hm hf ht
 loc := I.loc
 cell := I.cell
 free := by rw [upd_ne (fun z : X.env.locals = a => hn (by rw [← z]; exact I.free))]; exact I.free
 freeC := fun x c e => by rw [upd_ne (fun z : c = a => hn (by rw [← z]; exact I.freeC x c e))]; exact I.freeC x c e
 pin := fun p hp => by
   obtain ⟨h1, h2, h3⟩ := I.pin p hp
   exact ⟨h1, by rw [upd_ne (fun z : p.1 = a => hn (by rw [← z]; exact h2))]; exact h2, h3⟩
 hok := hok_tell I.hok hm ho new
 len := I.len
theorem Inv.freeze (I : Inv X pins σ H s) (ha : H a = some (.dK kvs)) (hf : ∀ o u, X.H₀ a = some (.frz o u) → False) : ∃ o es ep, s.heap.get? a = some o ∧ o.data = .dict es ep ∧ Inv X pins σ (upd H a (.frz o (.dK kvs))) s := by
 obtain ⟨z, hd, vs, rel, o, es, ep, ho, hx, hdat, r⟩ := (show ObjOk X.prog X.w H s.heap a (.dK kvs) from I.hok a _ ha)
 refine ⟨o, es, ep, ho, hdat, I.tell (by rw [ha]; exact fun z => nomatch z) (fun xs => by rw [ha]; exact fun z => nomatch z) (fun xs => by rw [ha]; exact fun z => nomatch z) (fun xs => by rw [ha]; exact fun z => nomatch z) hf ⟨ho, z, hd, vs, rel, o, es, ep, ho, hx, hdat, r⟩⟩
theorem Inv.thaw {o : Obj} (I : Inv X pins σ H s) (ha : H a = some (.frz o (.dK kvs))) (hf : ∀ o u, X.H₀ a = some (.frz o u) → False) : Inv X pins σ (upd H a (.dK kvs)) s := by
 obtain ⟨_, x⟩ := (show ObjOk X.prog X.w H s.heap a (.frz o (.dK kvs)) from I.hok a _ ha)
 exact I.tell (by rw [ha]; exact fun z => nomatch z) (fun xs => by rw [ha]; exact fun z => nomatch z) (fun xs => by rw [ha]; exact fun z => nomatch z) (fun xs => by rw [ha]; exact fun z => nomatch z) hf x
end
def Thaw (H0 H : Hp) (R : Hp → Prop) : Prop := ∃ a o kvs, H a = some (.frz o (.dK kvs)) ∧ (∀ o u, H0 a = some (.frz o u) → False) ∧ R (upd H a (.dK kvs))
def tThS (H0 : Hp) (t : TS) : TS := fun D σ H => t { nx := fun σ' H' => Thaw H0 H' (D.nx σ'), rt := fun v H' => Thaw H0 H' (D.rt v) } σ H
section
variable {X : Cx}
theorem ps_thaw {st : Stmt} {t : TS} (h : PS X st t) : PS X st (tThS X.H₀ t) := by
 intro pins s σ H D I hw
 refine thn (h pins s σ H _ I hw) fun f s1 q => ?_
 cases f with
 | next => obtain ⟨σ', H1, I1, a, o, kvs, ha, hf, q⟩ := q; exact ⟨σ', _, I1.thaw ha hf, q⟩
 | ret v => obtain ⟨x, σ', H1, I1, r1, a, o, kvs, ha, hf, q⟩ := q; exact ⟨x, σ', _, I1.thaw ha hf, r1, q⟩
 | brk => obtain ⟨σ', H1, I1, q⟩ := q; exact q.elim
 | cont => obtain ⟨σ', H1, I1, q⟩ := q; exact q.elim
end
def Itvd (a : Addr) (o : Obj) (kvs : List (Key × V)) : It :=
 ⟨fun i H => H a = some (.frz o (.dK kvs)) ∧ i < kvs.length, fun i H x H' => H' = H ∧ ∃ kv, kvs[i]? = some kv ∧ x = kv.2, fun i H => H a = some (.frz o (.dK kvs)) ∧ kvs.length ≤ i⟩
theorem frz_dict {X : Cx} {pins : List (Addr × Obj)} {σ : St} {H : Hp} {s : Shared} {a : Addr} {o : Obj} {kvs : List (Key × V)} {es : Array DictEntry} {ep : Nat} (I : Inv X pins σ H s) (ha : H a = some (.frz o (.dK kvs))) (hd : o.data = .dict es ep) :
   ∃ ws, KV kvs ws ∧ s.heap.DictAt (mixKind X.prog X.w) a ws ep := by
 obtain ⟨ho, z, _, ws, rel, o', es', ep', ho', hx, hdat, r⟩ := (show ObjOk X.prog X.w H s.heap a (.frz o (.dK kvs)) from I.hok a _ ha)
 rw [ho] at ho'
 obtain rfl := Option.some.inj ho'
 rw [hd] at hdat
 injection hdat with e1 e2
 subst e1; subst e2
 exact ⟨ws, rel, o, es, ho, hx, hd, r⟩
theorem kv_at : ∀ {kvs : List (Key × V)} {ws : List (Key × Value)} {i : Nat} {kv : Key × V}, KV kvs ws → kvs[i]? = some kv → ∃ u, ws[i]? = some (kv.1, u) ∧ RelV kv.2 u
 | _, _, i, kv, .nil, h => by simp at h
 | _, _, 0, kv, .cons (a := x) (b := y) r t, h => by
   simp at h; subst h
   exact ⟨y.2, by rw [r.1]; rfl, r.2⟩
 | _, _, i + 1, kv, .cons r t, h => by
   obtain ⟨u, h1, h2⟩ := kv_at (i := i) t (by simpa using h)
   exact ⟨u, by simpa using h1, h2⟩
theorem turn_vals {P : Program} {w : World} {K : W.Frag} {tg : Expr} (a it : Addr) (o : Obj) (kvs : List (Key × V)) (es : Array DictEntry) (ep : Nat) (hd : o.data = .dict es ep) : Turn P w K tg (Itvd a o kvs) [it] it (fun i h => h.IsValIter it a i kvs.length ep) where
 mem := by simp
 obj := fun i h st b hb => by
   have e : b = it := by simpa using hb
   subst e
   obtain ⟨o, e, c, d⟩ := st
   exact ⟨o, e, fun v z => by rw [d] at z; cases z⟩
 keep := fun i h h' st k => st.at fun o e => k it (by simp) o e
 item := by
   intro X hP hw hK hc i pins s σ H E I hf st ⟨ha, hi⟩
   subst hP hw hK
   obtain ⟨ws, rel, hat⟩ := frz_dict I ha hd
   have hl := Paired.length rel
   have hx : kvs[i]? = some kvs[i] := List.getElem?_eq_getElem hi
   obtain ⟨u, hu, ru⟩ := kv_at rel hx
   obtain ⟨f0, f1, f2, f3, f4, f5⟩ := hf it (by simp)
   rw [hl] at st
   refine wpAny_pyNext_values_item st hat hu fun h' st' sb => ?_
   have I1 : Inv X pins σ H { s with heap := h' } := I.turned (t' := s.toks) (fun b o hb e => (sb.2 b hb).trans e) f0 f1 f3 f4 f5
   obtain ⟨o', e', c', d'⟩ := id st'
   rw [← hl] at st'
   exact ⟨u, rfl, go_of (s := { s with heap := h' }) e' c' d' (by decide) ⟨kvs[i].2, H, I1, ru, ⟨rfl, kvs[i], hx, rfl⟩, st', fun b hb => (hf b hb).1⟩⟩
 done := by
   intro X hP hw hK hc i pins s σ H E I hf st ⟨ha, hi⟩
   subst hP hw hK
   obtain ⟨ws, rel, hat⟩ := frz_dict I ha hd
   have hl := Paired.length rel
   obtain ⟨f0, f1, f2, f3, f4, f5⟩ := hf it (by simp)
   rw [hl] at st
   exact wpAny_pyNext_values_end (I.ok.hd hc) st hat (List.getElem?_eq_none (by omega)) fun h' eb => ⟨rfl, I.turned (t' := s.toks) (fun b o hb e => eb b o hb e) f0 f1 f3 f4 f5⟩
 self := fun _ _ _ _ _ st h => wpAny_pyIter_valiter st h
section
variable {X : Cx} {tg : Expr}
def iVals (H0 : Hp) (tl : TE) : TI := fun σ H R => tl σ H fun x H1 => ∃ p a kvs, x = .ref p ∧ H1 p = some (ValsO p a) ∧ H1 a = some (.dK kvs) ∧ (∀ o u, H0 a = some (.frz o u) → False) ∧ ∀ o, R (Itvd a o kvs) (upd H1 a (.frz o (.dK kvs)))
theorem pi_vals {l : Expr} {tl : TE} (hl : PE X l tl) : PI X tg l (iVals X.H₀ tl) := by
 intro pins s σ H R I h
 refine thn (hl pins s σ H _ I h) fun v s1 ⟨x, H1, I1, r1, q1⟩ => ?_
 obtain ⟨p, a, kvs, e, hp, ha, hf, q⟩ := q1
 subst e
 cases r1
 obtain ⟨hv, _, _⟩ := (show ObjOk X.prog X.w H1 s1.heap p (ValsO p a) from I1.hok p _ hp)
 obtain ⟨o, es, ep, ho, hd, I2⟩ := I1.freeze ha hf
 obtain ⟨ws, rel, hat⟩ := frz_dict (kvs := kvs) I2 upd_same hd
 refine wpAny_pyIter_values hv hat ?_
 refine ⟨s1.heap.objs.size, [s1.heap.objs.size], _, _, _, rfl, I2.kept (t' := s1.toks) fun b o e => Heap.get?_push_of_some _ e, turn_vals a _ o kvs es ep hd, ?_, fun b hb => ?_, q o⟩
 · rw [Paired.length rel]; exact ⟨_, Heap.get?_push_size _ rfl, rfl, rfl⟩
 · have e : b = s1.heap.objs.size := by simpa using hb
   subst e
   exact I2.fpOk (Nat.le_refl _) (I2.hok.fresh (Nat.le_refl _))
end
end L2
namespace L2
open PySem PySem.Spec PyProof.Rows PySem.W
theorem for_it {J : It} {n : Nat} {g : TG} {tb : TS} {D : Ends} {σ : St} {H : Hp} (Pv : Nat → St → Hp → Prop) (h0 : Pv 0 σ H)
   (hs : ∀ i σ H, i < n → Pv i σ H → J.go i H ∧ ∀ x H', J.yld i H x H' → g x σ H' fun σ2 H2 => tb { D with nx := Pv (i + 1), ct := Pv (i + 1), bk := D.nx } σ2 H2) (hd : ∀ σ H, Pv n σ H → J.stop n H ∧ D.nx σ H) :
   ∃ W : Nat → Nat → St → Hp → Prop, (∃ m, W 0 m σ H) ∧ ∀ i m σ H, W i m σ H →
     (J.stop i H ∧ D.nx σ H) ∨ (J.go i H ∧ ∃ N : St → Hp → Prop, (∀ σ' H', N σ' H' → ∃ m', m' < m ∧ W (i + 1) m' σ' H') ∧ ∀ x H', J.yld i H x H' → g x σ H' fun σ2 H2 => tb { D with nx := N, ct := N, bk := D.nx } σ2 H2) := by
 refine ⟨fun i m σ H => m = n - i ∧ i ≤ n ∧ Pv i σ H, ⟨n, by simp, Nat.zero_le _, h0⟩, ?_⟩
 rintro i m σ H ⟨rfl, hi, p⟩
 by_cases z : i < n
 · obtain ⟨g1, g2⟩ := hs i σ H z p
   exact .inr ⟨g1, Pv (i + 1), fun σ' H' q => ⟨n - (i + 1), by omega, rfl, z, q⟩, g2⟩
 · have e : i = n := by omega
   subst e
   exact .inl (hd σ H p)
end L2
namespace L2
open PySem PySem.Spec PyProof.Rows PySem.W
theorem strs_are : ∀ {ss : List Str} {us : List Value}, Vals (ss.map V.str) us → StrsAre us ss
 | [], _, .nil => .nil
 | _ :: _, _, .cons ⟨t, e⟩ r => by subst e; exact .cons _ t (strs_are r)
theorem are_strs : ∀ {us : List Value} {ss : List Str}, StrsAre us ss → Vals (ss.map V.str) us
 | _, _, .nil => .nil
 | _, _, .cons n t r => .cons ⟨t, rfl⟩ (are_strs r)
def leT (a b : Str) : Prop := ltCps b.cps.toList a.cps.toList = false
theorem leT_lt {a b : Str} : leT a b ↔ ¬ (b.cps.toList < a.cps.toList) := by
 unfold leT; rw [ltCps_eq]; exact decide_eq_false_iff_not
theorem leT_anti {a b : Str} (h : leT a b) (h' : leT b a) : a = b := by
 rw [leT_lt] at h h'
 have e : a.cps.toList = b.cps.toList := List.le_antisymm (List.not_lt.mp h) (List.not_lt.mp h')
 have e2 : a.cps = b.cps := Array.toList_inj.mp e
 cases a; cases b; simp only at e2; subst e2; rfl
theorem leT_trans {a b c : Str} (h : leT a b) (h' : leT b c) : leT a c := by
 rw [leT_lt] at h h' ⊢
 exact List.not_lt.mpr (List.le_trans (List.not_lt.mp h) (List.not_lt.mp h'))
theorem risingS_pw : ∀ (l : List Str) (p : Str), risingS p l = true → (p :: l).Pairwise leT
 | [], p, _ => List.pairwise_singleton _ _
 | x :: r, p, h => by
   unfold risingS at h
   simp only [Bool.and_eq_true, Bool.not_eq_true'] at h
   have ih := risingS_pw r x h.2
   refine List.pairwise_cons.mpr ⟨fun y hy => ?_, ih⟩
   rcases List.mem_cons.mp hy with rfl | z
   · exact h.1
   · exact leT_trans h.1 ((List.pairwise_cons.mp ih).1 y z)
theorem sortedS_pw : ∀ {l : List Str}, sortedS l = true → l.Pairwise leT
 | [], _ => .nil
 | x :: r, h => risingS_pw r x h
theorem txt_uniq : ∀ {a b : List Str}, a.Perm b → a.Pairwise leT → b.Pairwise leT → a = b
 | [], b, h, _, _ => (List.nil_perm.mp h).symm ▸ rfl
 | x :: r, [], h, _, _ => by have := h.length_eq; simp at this
 | x :: r, y :: t, h, ha, hb => by
   have hx : x ∈ y :: t := h.mem_iff.mp List.mem_cons_self
   have hy : y ∈ x :: r := h.mem_iff.mpr List.mem_cons_self
   have e : x = y := by
     rcases List.mem_cons.mp hx with z | z
     · exact z
     rcases List.mem_cons.mp hy with w | w
     · exact w.symm
     exact leT_anti ((List.pairwise_cons.mp ha).1 y w) ((List.pairwise_cons.mp hb).1 x z)
   subst e
   rw [txt_uniq (List.Perm.cons_inv h) (List.pairwise_cons.mp ha).2 (List.pairwise_cons.mp hb).2]
def TxtSrc (K : W.Frag) (x : V) (H : Hp) (ss : List Str) : Prop := (∃ a, x = .ref a ∧ SqL K H a (ss.map V.str)) ∨ ∃ d kvs, x = .ref d ∧ H d = some (.dK kvs) ∧ kvs.map (·.1) = ss.map Sum.inr
section
variable {X : Cx}
theorem TxtSrc.coll {x : V} {H : Hp} {ss : List Str} (h : TxtSrc X.K x H ss) : Coll X x H (ss.map V.str) := by
 rcases h with ⟨a, rfl, h⟩ | ⟨d, kvs, rfl, h, e⟩
 · exact coll_list h
 · have z := coll_keys (X := X) h
   have e2 : kvs.map (fun kv => kV kv.1) = ss.map V.str := by
     have : kvs.map (fun kv => kV kv.1) = (kvs.map (·.1)).map kV := by rw [List.map_map]; rfl
     rw [this, e, List.map_map]; rfl
   rw [e2] at z
   exact z
structure SortT (ss ts : List Str) : Prop where
 perm : ts.Perm ss
 rise : ts.Pairwise leT
theorem SortT.eq {ss ts : List Str} (h : SortT ss ts) {us : List Str} (hp : us.Perm ss) (hu : us.Pairwise leT) : ts = us := txt_uniq (h.perm.trans hp.symm) h.rise hu
theorem sort_body {pins : List (Addr × Obj)} {σ : St} {H : Hp} {s1 : Shared} {ss : List Str} {vs : List Value} {A : Around} {E : Value → Shared → Prop} {Q : VK} {R : PySem.Fin → Shared → Prop} (I1 : Inv X pins σ H s1) (rv : Vals (ss.map V.str) vs) (h64 : ss.length < 64)
   (q : ∀ p ts s', SortT ss ts → p = s1.heap.objs.size → H p = none → Inv X pins σ (upd H p (.lst (ts.map V.str))) s' → R (.done (.ret .none)) s') :
   wpAny (model X.prog X.w) A (Builtin.«list.sort» ⟨[.ref s1.heap.objs.size], []⟩) R E { s1 with heap := s1.heap.push (seqObj "list" vs.toArray 0) } := by
 have hl := rv.length
 rw [List.length_map] at hl
 have fD : FpOk X pins H s1.heap.objs.size := I1.fpOk (Nat.le_refl _) (I1.hok.fresh (Nat.le_refl _))
 have hoL : (s1.heap.push (seqObj "list" vs.toArray 0)).get? s1.heap.objs.size = some (seqObj "list" vs.toArray 0) := Heap.get?_push_size _ rfl
 have hS := strs_are rv
 refine list_sort_treeK strKind_oneLt (s := { s1 with heap := s1.heap.push (seqObj "list" vs.toArray 0) }) hoL hS.keysOf (fun v₁ v₂ rest e => keyKind_strs (by rw [← e]; exact hS)) (by omega) fun st' hp hs => ?_
 obtain ⟨ts, h1, h2, h3⟩ := sorted_out_str hS hp hs
 generalize (arrOf st').map (·.2) = out at h1
 obtain ⟨c, hat⟩ := sortedHeap_at (out := out) hoL
 refine q s1.heap.objs.size ts _ ⟨h2, sortedS_pw h3⟩ rfl fD.1 ?_
 have I3 : Inv X pins σ H { s1 with heap := sortedHeap (s1.heap.push (seqObj "list" vs.toArray 0)) s1.heap.objs.size vs out } := I1.kept (t' := s1.toks) fun b o e => by
   have hb : b ≠ s1.heap.objs.size := Nat.ne_of_lt (Heap.lt_size e)
   rw [sortedHeap_old hb (by rw [Heap.size_push]; exact Nat.lt_succ_of_lt (Heap.lt_size e))]
   exact Heap.get?_push_of_some _ e
 refine I3.track fD ⟨?_, out.toList, c, are_strs h1, ?_⟩
 · rw [List.length_map, h2.length_eq, sizeLine_eq]; omega
 · simpa [seqObj] using hat
def rSortT (K : W.Frag) : List V → Hp → VK → Prop := fun xs H Q => ∃ x ss, xs = [x] ∧ TxtSrc K x H ss ∧ ss.length < 64 ∧ ∀ p ts, H p = none → SortT ss ts → Q (.ref p) (upd H p (.lst (ts.map V.str)))
theorem call_sortT (hc : X.calm = true) : CallR X (.builtin "sorted") (rSortT X.K) := by
 intro pins s σ H xs us Q I r h
 obtain ⟨x, ss, rfl, hx, h64, q⟩ := h
 obtain ⟨u, rfl, ru⟩ := vals1 r
 refine Calls.call_function_entry kind_sorted plain_sorted entry_sorted (args_sorted1 _) ?_
 unfold Builtin.«sorted»
 refine wpAny_bind (m := checkCount "sorted" 1 1 _) (wpAny_pure ?_)
 refine wpAny_bind (hx.coll pins s σ u _ _ _ I ru (I.ok.hd hc) fun vs s1 rv I1 => ?_)
 have hl := rv.length
 rw [List.length_map] at hl
 refine wpAny_bind (wpAny_newList ?_ (by rw [sizeLine_eq]; omega))
 have hoL : (s1.heap.push (seqObj "list" vs.toArray 0)).get? s1.heap.objs.size = some (seqObj "list" vs.toArray 0) := Heap.get?_push_size _ rfl
 refine wpAny_bind (wpAny_holding (wpAny_call_entry slot_list_sort ⟨_, hoL, rfl⟩ entry_list_sort ?body (args_list_sort _)))
 case body => exact sort_body (Q := Q) I1 rv h64 fun p ts s' hs e hn I' => ⟨_, rfl, by subst e; exact wpAny_pure ⟨_, rfl, .ref _, _, I', rfl, q _ ts hn hs⟩⟩
theorem k_sortT (K : W.Frag) (hc : X.calm = true) (h : X.K = K := by rfl) : CallR X (.builtin "sorted") (rSortT K) := h ▸ call_sortT hc
end
end L2
namespace L2
open PySem PySem.Spec PyProof.Rows PySem.W
def tabN (l : List Str) (F : Str → V) : List (Key × V) := l.map fun n => (Sum.inr n, F n)
theorem tabN_val {l : List Str} {F : Str → V} {n : Str} (h : n ∈ l) : valV (tabN l F) (Sum.inr n) = some (F n) := by
 induction l with
 | nil => exact absurd h List.not_mem_nil
 | cons m r ih =>
   by_cases e : m = n
   · subst e; exact valV_pos rfl
   · rcases List.mem_cons.mp h with z | z
     · exact absurd z.symm e
     · exact (valV_neg (fun w => e (Sum.inr.inj w))).trans (ih z)
theorem tabN_none {l : List Str} {F : Str → V} {n : Str} (h : n ∉ l) : valV (tabN l F) (Sum.inr n) = none := by
 induction l with
 | nil => rfl
 | cons m r ih =>
   rw [List.mem_cons, not_or] at h
   exact (valV_neg (fun w => h.1 (Sum.inr.inj w).symm)).trans (ih h.2)
theorem tabN_len (l : List Str) (F : Str → V) : (tabN l F).length = l.length := by unfold tabN; rw [List.length_map]
theorem tabN_snoc {l : List Str} {F : Str → V} {n : Str} (h : n ∉ l) (v : V) : putK (tabN l F) (Sum.inr n) v = tabN (l ++ [n]) (fun m => if m = n then v else F m) := by
 rw [putK_new _ (tabN_none h)]
 unfold tabN
 rw [List.map_append]
 congr 1
 · refine List.map_congr_left fun m hm => ?_
   show (Sum.inr m, F m) = (Sum.inr m, if m = n then v else F m)
   rw [if_neg (fun (z : m = n) => h (z ▸ hm))]
 · show _ = [(Sum.inr n, if n = n then v else F n)]
   rw [if_pos rfl]
theorem tabN_congr {l : List Str} {F G : Str → V} (h : ∀ n ∈ l, F n = G n) : tabN l F = tabN l G := List.map_congr_left fun n hn => by rw [h n hn]
theorem tabN_keys (l : List Str) (F : Str → V) : (tabN l F).map (·.1) = l.map Sum.inr := by unfold tabN; rw [List.map_map]; rfl
structure FE where
 p : Addr
 r : Addr
 d : Addr
 sz : Int
 way : Str
 s : RS
 B : HA
 h : HS
def FE.fp (e : FE) : List Addr := [e.p, e.r, e.d] ++ e.B.fp
structure FEAt (CR CH : Addr) (H : Hp) (e : FE) : Prop where
 ra : RAt CR H e.p e.sz e.way e.s e.r e.d
 ha : HAt CH H e.B e.h []
 ap : ∀ c ∈ [e.p, e.r, e.d], c ∉ e.B.fp
section
variable {CR CH : Addr} {H H' : Hp} {e : FE}
theorem FEAt.step {ps ps' : List Addr} (h : FEAt CR CH H e) (st : Stp ps H ps' H') (hd : ∀ c ∈ e.fp, c ∉ ps) : FEAt CR CH H' e :=
 ⟨h.ra.step st fun c hc => hd c (List.mem_append_left _ hc), h.ha.step st fun c hc => hd c (List.mem_append_right _ hc), h.ap⟩
theorem FEAt.same (h : FEAt CR CH H e) (s : Same H H') : FEAt CR CH H' e := h.step (s.step []) fun _ _ => List.not_mem_nil
theorem FEAt.live (h : FEAt CR CH H e) : ∀ c ∈ e.fp, ∃ o, H c = some o := fun c hc => by
 rcases List.mem_append.mp hc with z | z
 · obtain ⟨⟨dx, h1⟩, ⟨ys, h2, _⟩, h4, _⟩ := h.ra
   simp only [List.mem_cons, List.not_mem_nil, or_false] at z
   rcases z with rfl | rfl | rfl
   · exact ⟨_, h1⟩
   · exact ⟨_, h2⟩
   · exact ⟨_, h4⟩
 · exact h.ha.live c z
theorem FEAt.out {ps ps' : List Addr} (h : FEAt CR CH H e) (st : Stp ps H ps' H') (hd : ∀ c ∈ e.fp, c ∉ ps) : ∀ c ∈ e.fp, c ∉ ps' := fun c hc => by
 obtain ⟨o, ho⟩ := h.live c hc
 exact st.out ho (hd c hc)
theorem FEAt.road (h : FEAt CR CH H e) {s' : RS} {r' : Addr} (st : Stp [e.p, e.r, e.d] H [e.p, r', e.d] H') (hr : RAt CR H' e.p e.sz e.way s' r' e.d) : FEAt CR CH H' { e with s := s', r := r' } ∧ Stp e.fp H (FE.fp { e with s := s', r := r' }) H' := by
 refine ⟨⟨hr, h.ha.step st (fun c hc z => h.ap c z hc), fun c hc z => ?_⟩, st.weak (fun c hc => List.mem_append_left _ hc) fun c hc => ?_⟩
 · obtain ⟨o, ho⟩ := h.ha.live c z
   exact st.out ho (fun y => h.ap c y z) hc
 · rcases List.mem_append.mp hc with z | z
   · exact .inl z
   · exact .inr (List.mem_append_right _ z)
theorem FEAt.hear (h : FEAt CR CH H e) {h' : HS} (st : Stp e.B.fp H e.B.fp H') (hh : HAt CH H' e.B h' []) : FEAt CR CH H' { e with h := h' } ∧ Stp e.fp H (FE.fp { e with h := h' }) H' :=
 ⟨⟨h.ra.step st h.ap, hh, h.ap⟩, st.up fun c hc => List.mem_append_right _ hc⟩
end
def updE (g : Str → FE) (n : Str) (e : FE) : Str → FE := fun m => if m = n then e else g m
theorem updE_same {g : Str → FE} {n : Str} {e : FE} : updE g n e n = e := if_pos rfl
theorem updE_ne {g : Str → FE} {n m : Str} {e : FE} (h : m ≠ n) : updE g n e m = g m := if_neg h
theorem updE_twice {g : Str → FE} {n : Str} {e e' : FE} : updE (updE g n e) n e' = updE g n e' := by
 funext m; unfold updE; split <;> rfl
def fpF (l : List Str) (g : Str → FE) : List Addr := l.flatMap fun n => (g n).fp
theorem mem_fpF {l : List Str} {g : Str → FE} {c : Addr} : c ∈ fpF l g ↔ ∃ n ∈ l, c ∈ (g n).fp := by unfold fpF; rw [List.mem_flatMap]
theorem fpF_congr {l : List Str} {g g' : Str → FE} (h : ∀ n ∈ l, (g n).fp = (g' n).fp) : fpF l g = fpF l g' := by
 unfold fpF
 rw [List.flatMap_def, List.flatMap_def, List.map_congr_left h]
structure FanC (K : W.Frag) (mg : Str → Option Value) (C : Addr) : Prop where
 cl_Fan : Cls K C
 mg_Fan : mg "Fan" = some (.ref C)
 n_teller : NoAttr K C "teller"
 n_roads : NoAttr K C "roads"
 n_hearers : NoAttr K C "hearers"
structure FA where
 p : Addr
 rd : Addr
 hd : Addr
 tp : Addr
 ts : Addr
 td : Addr
def fFl (a : FA) : List (Str × V) := [("teller", .ref a.tp), ("roads", .ref a.rd), ("hearers", .ref a.hd)]
theorem fFl_t (a : FA) : (fFl a).lookup ("teller" : Str) = some (V.ref a.tp) := lk_hit
theorem fFl_r (a : FA) : (fFl a).lookup ("roads" : Str) = some (V.ref a.rd) := (lk_miss (by decide +kernel)).trans lk_hit
theorem fFl_h (a : FA) : (fFl a).lookup ("hearers" : Str) = some (V.ref a.hd) := (lk_miss (by decide +kernel)).trans ((lk_miss (by decide +kernel)).trans lk_hit)
theorem fFl_no {a : FA} {f : Str} (h1 : ¬ f = "teller") (h2 : ¬ f = "roads") (h3 : ¬ f = "hearers") : (fFl a).lookup f = none := (lk_miss h1).trans ((lk_miss h2).trans (lk_miss h3))
theorem fFl_make (a : FA) : putF "hearers" (.ref a.hd) (putF "roads" (.ref a.rd) (putF "teller" (.ref a.tp) [])) = fFl a := by
 show putF "hearers" (.ref a.hd) (putF "roads" (.ref a.rd) [("teller", .ref a.tp)]) = _
 rw [pf_miss (by decide +kernel)]
 show putF "hearers" (.ref a.hd) [("teller", .ref a.tp), ("roads", .ref a.rd)] = _
 rw [pf_miss (by decide +kernel), pf_miss (by decide +kernel)]
 rfl
def FA.own (a : FA) : List Addr := [a.p, a.rd, a.hd, a.tp, a.ts, a.td]
def FA.fp (a : FA) (l : List Str) (g : Str → FE) : List Addr := a.own ++ fpF l g
def rdT (l : List Str) (g : Str → FE) : List (Key × V) := tabN l fun n => .ref (g n).p
def hdT (l : List Str) (g : Str → FE) : List (Key × V) := tabN l fun n => .ref (g n).B.p
structure FAt0 (CF CT CR CH : Addr) (H : Hp) (a : FA) (l : List Str) (g : Str → FE) (k : Int) (all : List Msg) : Prop where
 ob : ∃ dx, H a.p = some (.ins CF dx (fFl a))
 tl : TAt CT H a.tp k 0 all a.ts a.td
 hs : H a.hd = some (.dK (hdT l g))
 en : ∀ n ∈ l, FEAt CR CH H (g n)
 nd : l.Nodup
 ap : ∀ n ∈ l, ∀ m ∈ l, n ≠ m → ∀ c ∈ (g n).fp, c ∉ (g m).fp
 own : ∀ n ∈ l, ∀ c ∈ (g n).fp, c ∉ a.own
 ne : a.rd ∉ [a.p, a.hd]
 bt : ∀ c ∈ [a.p, a.rd, a.hd], c ∉ [a.tp, a.ts, a.td]
structure FAt (CF CT CR CH : Addr) (H : Hp) (a : FA) (l : List Str) (g : Str → FE) (k : Int) (all : List Msg) : Prop extends FAt0 CF CT CR CH H a l g k all where
 rs : H a.rd = some (.dK (rdT l g))
section
variable {CF CT CR CH : Addr} {H H' : Hp} {a : FA} {l : List Str} {g : Str → FE} {k : Int} {all all' : List Msg} {n : Str} {e : FE}
theorem FAt0.step {ps ps' : List Addr} (h : FAt0 CF CT CR CH H a l g k all) (st : Stp ps H ps' H') (hd : ∀ c ∈ a.fp l g, c ≠ a.rd → c ∉ ps) : FAt0 CF CT CR CH H' a l g k all := by
 obtain ⟨⟨dx, h1⟩, h2, h4, h5, h6, h7, h8, h9, h10⟩ := h
 have n1 : a.p ≠ a.rd := fun z => h9 (by simp [z])
 have n2 : a.hd ≠ a.rd := fun z => h9 (by simp [z])
 have nt : ∀ c ∈ [a.tp, a.ts, a.td], c ≠ a.rd := fun c hc z => h10 a.rd (by simp) (z ▸ hc)
 have ho : ∀ c ∈ a.own, c ≠ a.rd → c ∉ ps := fun c hc hn => hd c (List.mem_append_left _ hc) hn
 refine ⟨⟨dx, st.keep h1 (ho _ (by simp [FA.own]) n1)⟩, h2.stp st (fun c hc => ho c ?_ (nt c hc)), st.keep h4 (ho _ (by simp [FA.own]) n2), fun n hn => (h5 n hn).step st fun c hc => hd c (List.mem_append_right _ (mem_fpF.mpr ⟨n, hn, hc⟩)) (fun z => h8 n hn c hc (by rw [z]; simp [FA.own])), h6, h7, h8, h9, h10⟩
 simp only [List.mem_cons, List.not_mem_nil, or_false] at hc
 rcases hc with rfl | rfl | rfl <;> simp [FA.own]
theorem FAt.step {ps ps' : List Addr} (h : FAt CF CT CR CH H a l g k all) (st : Stp ps H ps' H') (hd : ∀ c ∈ a.fp l g, c ∉ ps) : FAt CF CT CR CH H' a l g k all :=
 ⟨h.toFAt0.step st fun c hc _ => hd c hc, st.keep h.rs (hd _ (List.mem_append_left _ (by simp [FA.own])))⟩
theorem FAt.same (h : FAt CF CT CR CH H a l g k all) (s : Same H H') : FAt CF CT CR CH H' a l g k all := h.step (s.step []) fun _ _ => List.not_mem_nil
theorem TAt.live3 {C : Addr} {H : Hp} {p : Addr} {k r : Int} {all : List Msg} {s d : Addr} (h : TAt C H p k r all s d) : ∀ c ∈ [p, s, d], ∃ o, H c = some o := fun c hc => by
 obtain ⟨⟨dx, h1⟩, ⟨ys, h2, h3⟩, ⟨kvs, h4, h5⟩⟩ := h
 simp only [List.mem_cons, List.not_mem_nil, or_false] at hc
 rcases hc with rfl | rfl | rfl
 · exact ⟨_, h1⟩
 · exact ⟨_, h2⟩
 · exact ⟨_, h4⟩
theorem FAt.live (h : FAt CF CT CR CH H a l g k all) : ∀ c ∈ a.fp l g, ∃ o, H c = some o := fun c hc => by
 rcases List.mem_append.mp hc with z | z
 · simp only [FA.own, List.mem_cons, List.not_mem_nil, or_false] at z
   rcases z with rfl | rfl | rfl | rfl | rfl | rfl
   · obtain ⟨dx, e⟩ := h.ob; exact ⟨_, e⟩
   · exact ⟨_, h.rs⟩
   · exact ⟨_, h.hs⟩
   · exact h.tl.live3 _ (by simp)
   · exact h.tl.live3 _ (by simp)
   · exact h.tl.live3 _ (by simp)
 · obtain ⟨n, hn, hc⟩ := mem_fpF.mp z
   exact (h.en n hn).live c hc
theorem FAt.free (h : FAt CF CT CR CH H a l g k all) {c : Addr} (hc : H c = none) : c ∉ a.fp l g := fun z => by
 obtain ⟨o, ho⟩ := h.live c z
 rw [ho] at hc; cases hc
theorem FAt.out {ps ps' : List Addr} (h : FAt CF CT CR CH H a l g k all) (st : Stp ps H ps' H') (hd : ∀ c ∈ a.fp l g, c ∉ ps) : ∀ c ∈ a.fp l g, c ∉ ps' := fun c hc => by
 obtain ⟨o, ho⟩ := h.live c hc
 exact st.out ho (hd c hc)
theorem FAt0.put (h : FAt0 CF CT CR CH H a l g k all) (hn : n ∈ l) (lv : ∃ o, H a.rd = some o) (st : Stp (g n).fp H e.fp H') (he : FEAt CR CH H' e) (hp : e.p = (g n).p) (hb : e.B.p = (g n).B.p) : FAt0 CF CT CR CH H' a l (updE g n e) k all ∧ Stp (a.fp l g) H (a.fp l (updE g n e)) H' := by
 have oo : ∀ c ∈ a.own, c ∉ (g n).fp := fun c hc z => h.own n hn c z hc
 have ho : ∀ c ∈ a.own, c ∉ e.fp := fun c hc => by
   have hl : ∃ o, H c = some o := by
     have hc' := hc
     simp only [FA.own, List.mem_cons, List.not_mem_nil, or_false] at hc'
     rcases hc' with rfl | rfl | rfl | rfl | rfl | rfl
     · obtain ⟨dx, e⟩ := h.ob; exact ⟨_, e⟩
     · exact lv
     · exact ⟨_, h.hs⟩
     · exact h.tl.live3 _ (by simp)
     · exact h.tl.live3 _ (by simp)
     · exact h.tl.live3 _ (by simp)
   obtain ⟨o, hl⟩ := hl
   exact st.out hl (oo c hc)
 have hoth : ∀ m ∈ l, m ≠ n → ∀ c ∈ (g m).fp, c ∉ (g n).fp := fun m hm hne => h.ap m hm n hn hne
 have hT : hdT l (updE g n e) = hdT l g := tabN_congr fun m _ => by
   by_cases z : m = n
   · subst z; rw [updE_same, hb]
   · rw [updE_ne z]
 obtain ⟨dx, h1⟩ := h.ob
 refine ⟨⟨⟨dx, st.keep h1 (oo _ (by simp [FA.own]))⟩, h.tl.stp st (fun c hc => oo c ?_), by rw [hT]; exact st.keep h.hs (oo _ (by simp [FA.own])), fun m hm => ?_, h.nd, fun m hm m' hm' hne => ?_, fun m hm c hc => ?_, h.ne, h.bt⟩, st.weak (fun c hc => List.mem_append_right _ (mem_fpF.mpr ⟨n, hn, hc⟩)) fun c hc => ?_⟩
 · simp only [List.mem_cons, List.not_mem_nil, or_false] at hc
   rcases hc with rfl | rfl | rfl <;> simp [FA.own]
 · by_cases z : m = n
   · subst z; rw [updE_same]; exact he
   · rw [updE_ne z]; exact (h.en m hm).step st (hoth m hm z)
 · by_cases z : m = n
   · subst z
     rw [updE_same, updE_ne (Ne.symm hne)]
     exact fun c hc y => (h.en m' hm').out st (hoth m' hm' (Ne.symm hne)) c y hc
   · rw [updE_ne z]
     by_cases z' : m' = n
     · subst z'
       rw [updE_same]
       exact (h.en m hm).out st (hoth m hm z)
     · rw [updE_ne z']; exact h.ap m hm m' hm' hne
 · by_cases z : m = n
   · subst z; rw [updE_same] at hc; exact fun y => ho c y hc
   · rw [updE_ne z] at hc; exact h.own m hm c hc
 · rcases List.mem_append.mp hc with z | z
   · exact .inr (List.mem_append_left _ z)
   · obtain ⟨m, hm, hc⟩ := mem_fpF.mp z
     by_cases y : m = n
     · subst y; rw [updE_same] at hc; exact .inl hc
     · rw [updE_ne y] at hc; exact .inr (List.mem_append_right _ (mem_fpF.mpr ⟨m, hm, hc⟩))
theorem rdT_upd (hp : e.p = (g n).p) : rdT l (updE g n e) = rdT l g := tabN_congr fun m _ => by
 by_cases z : m = n
 · subst z; rw [updE_same, hp]
 · rw [updE_ne z]
theorem FAt.put (h : FAt CF CT CR CH H a l g k all) (hn : n ∈ l) (st : Stp (g n).fp H e.fp H') (he : FEAt CR CH H' e) (hp : e.p = (g n).p) (hb : e.B.p = (g n).B.p) : FAt CF CT CR CH H' a l (updE g n e) k all ∧ Stp (a.fp l g) H (a.fp l (updE g n e)) H' := by
 have ⟨h1, h2⟩ := h.toFAt0.put hn ⟨_, h.rs⟩ st he hp hb
 exact ⟨⟨h1, by rw [rdT_upd hp]; exact st.keep h.rs (fun z => h.own n hn _ z (by simp [FA.own]))⟩, h2⟩
theorem FAt.told (h : FAt CF CT CR CH H a l g k all) (tl : TAt CT H' a.tp k 0 all' a.ts a.td) (st : Stp [a.tp, a.ts, a.td] H [a.tp, a.ts, a.td] H') : FAt CF CT CR CH H' a l g k all' ∧ Stp (a.fp l g) H (a.fp l g) H' := by
 have sub : ∀ c ∈ [a.tp, a.ts, a.td], c ∈ a.own := fun c hc => by
   simp only [List.mem_cons, List.not_mem_nil, or_false] at hc
   rcases hc with rfl | rfl | rfl <;> simp [FA.own]
 obtain ⟨dx, h1⟩ := h.ob
 exact ⟨⟨⟨⟨dx, st.keep h1 (h.bt _ (by simp))⟩, tl, st.keep h.hs (h.bt _ (by simp)), fun n hn => (h.en n hn).step st fun c hc z => h.own n hn c hc (sub c z), h.nd, h.ap, h.own, h.ne, h.bt⟩, st.keep h.rs (h.bt _ (by simp))⟩, st.up fun c hc => List.mem_append_left _ (sub c hc)⟩
end
section
variable (CF CT CR CH : Addr)
def spFInit : Sp := fun vs H Q _ => ∃ (p dx : Addr) (k : Int), vs = [.ref p, .int k] ∧ H p = some (.ins CF dx []) ∧ ∀ a H', FA.p a = p → (∀ g, FAt CF CT CR CH H' a [] g k []) → Stp [p] H a.own H' → Q .non H'
def spFLay : Sp := fun vs H Q _ => ∃ a l g k all n sz way, vs = [.ref (FA.p a), .str n, .int sz, .str way] ∧ FAt CF CT CR CH H a l g k all ∧ n ∉ l ∧ l.length < 100 ∧
 ∀ e H', FAt CF CT CR CH H' a (l ++ [n]) (updE g n e) k all → FE.sz e = sz → e.way = way → e.s = ⟨[], [], false⟩ → e.h = hs0 → Stp (a.fp l g) H (a.fp (l ++ [n]) (updE g n e)) H' → Q .non H'
def spFKnow : Sp := fun vs H Q _ => ∃ a l g k all n, vs = [.ref (FA.p a), .str n] ∧ FAt CF CT CR CH H a l g k all ∧ n ∈ l ∧ Q .non H
def spFRoad : Sp := fun vs H Q _ => ∃ a l g k all n, vs = [.ref (FA.p a), .str n] ∧ FAt CF CT CR CH H a l g k all ∧ n ∈ l ∧ Q (.ref (g n).p) H
def spFHearer : Sp := fun vs H Q _ => ∃ a l g k all n, vs = [.ref (FA.p a), .str n] ∧ FAt CF CT CR CH H a l g k all ∧ n ∈ l ∧ Q (.ref (g n).B.p) H
def spFNames : Sp := fun vs H Q _ => ∃ a l g k all, vs = [.ref (FA.p a)] ∧ FAt CF CT CR CH H a l g k all ∧ l.length < 64 ∧ ∀ p ts, H p = none → SortT l ts → Q (.ref p) (upd H p (.lst (ts.map V.str)))
structure FPut (m : Msg) (e e' : FE) : Prop where
 sz : e'.sz = e.sz
 way : e'.way = e.way
 s : e'.s = rputS e.sz e.way e.s m
 h : e'.h = e.h
def spFTell : Sp := fun vs H Q _ => ∃ a l g k all t x, vs = [.ref (FA.p a), .str t, .str x] ∧ FAt CF CT CR CH H a l g k all ∧ all.length < 60 ∧ 0 ≤ k ∧ l.length < 100 ∧ (∀ n ∈ l, (g n).s.rows.length < 63 ∧ (g n).s.out.length < 1000) ∧
 ∀ g' H', FAt CF CT CR CH H' a l g' k (all ++ [⟨(all.length : Int) + 1, t, x⟩]) → (∀ n ∈ l, FPut ⟨(all.length : Int) + 1, t, x⟩ (g n) (g' n)) → Stp (a.fp l g) H (a.fp l g') H' → Q (.int ((all.length : Int) + 1)) H'
def spFCarry : Sp := fun vs H Q _ => ∃ a l g k all n i, vs = [.ref (FA.p a), .str n, .int i] ∧ FAt CF CT CR CH H a l g k all ∧ n ∈ l ∧ 0 ≤ i ∧ Fits (g n).h ((g n).s.rows.take i.toNat) ∧ (∀ m ∈ (g n).s.rows, mOk m) ∧ Diff (g n).h.held ∧ (g n).h.heard.length + (g n).h.held.length + (g n).h.lost.length < 1000 ∧ (g n).s.rows.length < 1000 ∧
 ∀ e lh ys found H', FAt CF CT CR CH H' a l (updE g n e) k all → FE.sz e = (g n).sz → e.way = (g n).way → e.s = { (g n).s with rows := (g n).s.rows.drop i.toNat } → e.h = takeS (g n).h ((g n).s.rows.take i.toNat) → (takeS (g n).h ((g n).s.rows.take i.toNat)).heard = (g n).h.heard ++ found → Stp (a.fp l g) H (a.fp l (updE g n e)) H' → (lh ∈ a.fp l g ∨ H lh = none) → lh ∉ a.fp l (updE g n e) → H' lh = some (.lst ys) → Ms H' ys found → Q (.ref lh) H'
def spFCatch : Sp := fun vs H Q _ => ∃ a l g k all n, vs = [.ref (FA.p a), .str n] ∧ FAt CF CT CR CH H a l g k all ∧ n ∈ l ∧ 0 ≤ k ∧ Rows all ∧ all.length < 60 ∧ (∀ m ∈ all, mOk m) ∧ Hw all (g n).h ∧ (g n).h.next ≤ (all.length : Int) + 1 ∧ (g n).h.heard.length + (g n).h.held.length ≤ 200 ∧
 ∀ e q lh ys found H', FAt CF CT CR CH H' a l (updE g n e) k all → FE.sz e = (g n).sz → e.way = (g n).way → e.s = { (g n).s with cut := false } → e.h = catchS k all (g n).h → (catchS k all (g n).h).heard = (g n).h.heard ++ found → Stp (a.fp l g) H (a.fp l (updE g n e)) H' → q ∉ a.fp l (updE g n e) → (lh ∈ a.fp l g ∨ H lh = none) → lh ∉ a.fp l (updE g n e) → H' q = some (.tup [.ref lh, .int (((catchS k all (g n).h).lost.length : Int) - ((g n).h.lost.length : Int))]) → H' lh = some (.lst ys) → Ms H' ys found → Q (.ref q) H'
def spCaughtN (C CH : Addr) : Sp := fun vs H Q _ => ∃ tp a k r all sd d hs, vs = [.ref tp, .ref (HA.p a)] ∧ TAt C H tp k r all sd d ∧ HAt CH H a hs [] ∧ (∀ c ∈ [tp, sd, d], c ∉ a.fp) ∧ 0 ≤ k ∧ Rows all ∧ all.length < 60 ∧ (∀ m ∈ all, mOk m) ∧ Hw all hs ∧ hs.next ≤ (all.length : Int) + 1 ∧ hs.heard.length + hs.held.length ≤ 200 ∧
 ∀ q l ys found H', HAt CH H' a (catchS k all hs) [] → (catchS k all hs).heard = hs.heard ++ found → Stp a.fp H a.fp H' → H q = none → H' q = some (.tup [.ref l, .int (((catchS k all hs).lost.length : Int) - (hs.lost.length : Int))]) → H' l = some (.lst ys) → Ms H' ys found → l ∉ a.fp → q ∉ a.fp → H l = none → Q (.ref q) H'
def spFHeard : Sp := fun vs H Q _ => ∃ a l g k all n, vs = [.ref (FA.p a), .str n] ∧ FAt CF CT CR CH H a l g k all ∧ n ∈ l ∧ ∀ q ys, H q = none → Ms (upd H q (.lst ys)) ys (g n).h.heard → Q (.ref q) (upd H q (.lst ys))
def spFLost : Sp := fun vs H Q _ => ∃ a l g k all n, vs = [.ref (FA.p a), .str n] ∧ FAt CF CT CR CH H a l g k all ∧ n ∈ l ∧ ∀ q, H q = none → Q (.ref q) (upd H q (.lst ((g n).h.lost.map V.int)))
def spFWait : Sp := fun vs H Q _ => ∃ a l g k all n, vs = [.ref (FA.p a), .str n] ∧ FAt CF CT CR CH H a l g k all ∧ n ∈ l ∧ ∀ q ys, H q = none → Ms (upd H q (.lst ys)) ys (g n).s.rows → Q (.ref q) (upd H q (.lst ys))
def lagF (all : List Msg) (e : FE) : Int := (all.length : Int) - e.h.next + 1
def spFLag : Sp := fun vs H Q _ => ∃ a l g k all n, vs = [.ref (FA.p a), .str n] ∧ FAt CF CT CR CH H a l g k all ∧ n ∈ l ∧ Q (.int (lagF all (g n))) H
def IsMax (ns : List Int) (M : Int) : Prop := (ns = [] ∧ M = 0) ∨ (M ∈ ns ∧ ∀ x ∈ ns, x ≤ M)
def spFSlow : Sp := fun vs H Q _ => ∃ a l g k all, vs = [.ref (FA.p a)] ∧ FAt CF CT CR CH H a l g k all ∧ l.length < 64 ∧ ∀ p ts M H', Same H H' → H p = none → SortT l ts → IsMax (ts.map fun n => lagF all (g n)) M → H' p = some (.lst ((ts.filter fun n => decide (lagF all (g n) = M)).map V.str)) → Q (.ref p) H'
end
end L2
namespace L2
open PySem PySem.Spec PyProof.Rows PySem.W Builtin.Str
section
variable {X : Cx} {pins : List (Addr × Obj)} {σ : St} {H : Hp} {s : Shared}
def rSlS : V → Option Int → Option Int → Hp → VK → Prop := fun x lo hi H Q => ∃ z, x = .str z ∧ z.length ≤ sizeLine ∧ Q (.str (PySem.Txt.slice z lo hi)) H
theorem part_of {v : Value} {o : Option Int} (h : IsPart v o) : ∃ p : Option (Int × Tok), v = partValue p ∧ p.map (·.1) = o := by
 cases h with
 | none => exact ⟨none, rfl, rfl⟩
 | int i t => exact ⟨some (i, t), rfl, rfl⟩
theorem sl_str : SlR X rSlS := by
 intro pins s σ H x v vl vu lo hi sl Q I rx hs pl pu h
 obtain ⟨z, rfl, hz, q⟩ := h
 obtain ⟨t, rfl⟩ := rx
 obtain ⟨l, rfl, rfl⟩ := part_of pl
 obtain ⟨u, rfl, rfl⟩ := part_of pu
 refine ⟨"str", _, PySem.F.slot_str_getitem.lookup, typeIs_str _ _ _, wpAny_getItem_str_slice (l := l) (u := u) (st := none) hs rfl ?_⟩
 exact post_val_or_str ⟨Nat.le_trans (PySem.Txt.slice_le z _ _) hz, fun t' k => ⟨.str _, H, I.tok _, ⟨t', rfl⟩, q⟩⟩
end
end L2
namespace L2
open PySem PySem.Spec PySem.Calls PyProof.Rows PySem.W
def orb (M : Nat) : Nat → Nat → Nat
 | 0, i => i
 | n + 1, i => orb M n ((i * 5 + 1) % M)
theorem orb8 : ∀ i, i < 8 → ∀ j, j < 8 → ∃ n, n < 8 ∧ orb 8 n i = j := by decide +kernel
theorem orb16 : ∀ i, i < 16 → ∀ j, j < 16 → ∃ n, n < 16 ∧ orb 16 n i = j := by decide +kernel
theorem orb32 : ∀ i, i < 32 → ∀ j, j < 32 → ∃ n, n < 32 ∧ orb 32 n i = j := by decide +kernel
def Mk3 (mask : Nat) : Prop := mask = 7 ∨ mask = 15 ∨ mask = 31
theorem orb_all {mask : Nat} (hm : Mk3 mask) {i j : Nat} (hi : i ≤ mask) (hj : j ≤ mask) : ∃ n, n ≤ mask ∧ orb (mask + 1) n i = j := by
 rcases hm with rfl | rfl | rfl
 · obtain ⟨n, h1, h2⟩ := orb8 i (by omega) j (by omega); exact ⟨n, by omega, h2⟩
 · obtain ⟨n, h1, h2⟩ := orb16 i (by omega) j (by omega); exact ⟨n, by omega, h2⟩
 · obtain ⟨n, h1, h2⟩ := orb32 i (by omega) j (by omega); exact ⟨n, by omega, h2⟩
def Fre (owner : Array (Option Nat)) (j : Nat) : Prop := owner.getD j (some 0) = none
theorem run_le {mask i : Nat} (h : i ≤ mask) : i ≤ SetTable.runEnd mask i ∧ SetTable.runEnd mask i ≤ mask := by
 unfold SetTable.runEnd; split <;> omega
theorem free_here {mask : Nat} {owner : Array (Option Nat)} {fuel i p : Nat} (hi : i ≤ mask) (h : Fre owner i) : ∃ j, SetTable.layClean.free mask owner (fuel + 1) i p = some j ∧ j ≤ mask ∧ Fre owner j := by
 unfold SetTable.layClean.free
 have hr := run_le hi
 cases hf : (List.range (SetTable.runEnd mask i + 1 - i)).find? (fun k => (owner.getD (i + k) (some 0)).isNone) with
 | none =>
   exfalso
   have := List.find?_eq_none.mp hf 0 (List.mem_range.mpr (by omega))
   unfold Fre at h
   rw [Nat.add_zero, h] at this
   exact this rfl
 | some k =>
   have h1 := List.find?_some hf
   have h2 := List.mem_range.mp (List.mem_of_find?_eq_some hf)
   exact ⟨i + k, rfl, by omega, Option.isNone_iff_eq_none.mp h1⟩
theorem free_next {mask : Nat} {owner : Array (Option Nat)} {fuel i p : Nat} (hi : i ≤ mask) (h : ∃ j, SetTable.layClean.free mask owner fuel (SetTable.leap mask i p).1 (SetTable.leap mask i p).2 = some j ∧ j ≤ mask ∧ Fre owner j) :
   ∃ j, SetTable.layClean.free mask owner (fuel + 1) i p = some j ∧ j ≤ mask ∧ Fre owner j := by
 unfold SetTable.layClean.free
 have hr := run_le hi
 cases hf : (List.range (SetTable.runEnd mask i + 1 - i)).find? (fun k => (owner.getD (i + k) (some 0)).isNone) with
 | none => exact h
 | some k =>
   have h1 := List.find?_some hf
   have h2 := List.mem_range.mp (List.mem_of_find?_eq_some hf)
   exact ⟨i + k, rfl, by omega, Option.isNone_iff_eq_none.mp h1⟩
theorem leap_le {mask i p : Nat} : (SetTable.leap mask i p).1 ≤ mask := by
 have : (SetTable.leap mask i p).1 = (i * 5 + 1 + p / 32) % (mask + 1) := rfl
 rw [this]
 have := Nat.mod_lt (i * 5 + 1 + p / 32) (show 0 < mask + 1 by omega)
 omega
theorem free_orb {mask : Nat} {owner : Array (Option Nat)} : ∀ (n fuel i : Nat), n < fuel → i ≤ mask → Fre owner (orb (mask + 1) n i) → ∃ j, SetTable.layClean.free mask owner fuel i 0 = some j ∧ j ≤ mask ∧ Fre owner j
 | 0, fuel + 1, i, _, hi, h => free_here hi h
 | n + 1, fuel + 1, i, hf, hi, h => by
   refine free_next hi ?_
   have e : SetTable.leap mask i 0 = ((i * 5 + 1) % (mask + 1), 0) := by unfold SetTable.leap; simp
   rw [e]
   have := leap_le (mask := mask) (i := i) (p := 0)
   rw [e] at this
   exact free_orb n fuel _ (by omega) this h
theorem free_pert {mask : Nat} (hm : Mk3 mask) {owner : Array (Option Nat)} {j0 : Nat} (hj : j0 ≤ mask) (h : Fre owner j0) : ∀ (q fuel i p : Nat), p < 32 ^ q → q + mask < fuel → i ≤ mask → ∃ j, SetTable.layClean.free mask owner fuel i p = some j ∧ j ≤ mask ∧ Fre owner j
 | 0, fuel, i, p, hp, hf, hi => by
   have : p = 0 := by simpa using hp
   subst this
   obtain ⟨n, hn, e⟩ := orb_all hm hi hj
   exact free_orb n fuel i (by omega) hi (by rw [e]; exact h)
 | q + 1, 0, i, p, hp, hf, hi => by omega
 | q + 1, fuel + 1, i, p, hp, hf, hi => by
   refine free_next hi ?_
   have e : (SetTable.leap mask i p).2 = p / 32 := rfl
   rw [e]
   refine free_pert hm hj h q fuel _ _ ?_ (by omega) leap_le
   rw [Nat.pow_succ] at hp
   exact Nat.div_lt_of_lt_mul (by rw [Nat.mul_comm]; exact hp)
theorem bits_lt (h : Int) : SetTable.bits h < 32 ^ 13 := by
 unfold SetTable.bits
 have h1 := Int.emod_lt_of_pos h (show (0 : Int) < 2 ^ 64 by decide)
 have h0 := Int.emod_nonneg h (show ((2 : Int) ^ 64) ≠ 0 by decide)
 have : (32 : Nat) ^ 13 = 36893488147419103232 := by decide
 omega
theorem free_some {mask : Nat} (hm : Mk3 mask) {owner : Array (Option Nat)} {j0 : Nat} (hj : j0 ≤ mask) (hf : Fre owner j0) (h : Int) :
   ∃ j, SetTable.layClean.free mask owner (SetTable.turns mask) (SetTable.bits h % (mask + 1)) (SetTable.bits h) = some j ∧ j ≤ mask ∧ Fre owner j := by
 refine free_pert hm hj hf 13 _ _ _ (bits_lt h) (by unfold SetTable.turns; omega) ?_
 have := Nat.mod_lt (SetTable.bits h) (show 0 < mask + 1 by omega)
 omega
def Own (mask : Nat) (owner : Array (Option Nat)) (k : Nat) : Prop := owner.size = mask + 1 ∧ (owner.toList.filterMap id).Perm (List.range k)
theorem all_some : ∀ {l : List (Option Nat)}, (∀ x ∈ l, x ≠ none) → (l.filterMap id).length = l.length
 | [], _ => rfl
 | none :: _, h => absurd rfl (h none List.mem_cons_self)
 | some a :: l, h => by
   have := all_some (l := l) fun x hx => h x (List.mem_cons_of_mem _ hx)
   simp [this]
theorem own_free {mask k : Nat} {owner : Array (Option Nat)} (h : Own mask owner k) (hk : k ≤ mask) : ∃ j, j ≤ mask ∧ Fre owner j := by
 refine Classical.byContradiction fun hn => ?_
 have ha : ∀ x ∈ owner.toList, x ≠ none := fun x hx e => by
   obtain ⟨j, hj, he⟩ := List.mem_iff_getElem.mp hx
   refine hn ⟨j, ?_, ?_⟩
   · have := h.1; rw [Array.length_toList] at hj; omega
   · unfold Fre
     rw [Array.length_toList] at hj
     rw [Array.getD_eq_getD_getElem?, Array.getElem?_eq_getElem hj, Option.getD_some]
     rw [Array.getElem_toList] at he
     rw [he, e]
 have h1 := all_some ha
 rw [h.2.length_eq, List.length_range, Array.length_toList, h.1] at h1
 omega
theorem set_perm : ∀ {l : List (Option Nat)} {j k : Nat}, l[j]? = some none → ((l.set j (some k)).filterMap id).Perm (k :: l.filterMap id)
 | [], j, k, h => by simp at h
 | a :: l, 0, k, h => by
   have : a = none := by simpa using h
   subst this
   simp
 | a :: l, j + 1, k, h => by
   have ih := set_perm (l := l) (j := j) (k := k) (by simpa using h)
   cases a with
   | none => simpa using ih
   | some b =>
     simp only [List.set_cons_succ, List.filterMap_cons, id]
     exact (List.Perm.cons b ih).trans (List.Perm.swap _ _ _)
theorem own_put {mask k j : Nat} {owner : Array (Option Nat)} (h : Own mask owner k) (hj : j ≤ mask) (hf : Fre owner j) : Own mask (owner.setIfInBounds j (some k)) (k + 1) := by
 have hs := h.1
 refine ⟨by rw [Array.size_setIfInBounds]; exact hs, ?_⟩
 have hjl : j < owner.size := by omega
 have e : (owner.setIfInBounds j (some k)).toList = owner.toList.set j (some k) := by simp
 rw [e]
 have hn : owner.toList[j]? = some none := by
   unfold Fre at hf
   rw [Array.getD_eq_getD_getElem?, Array.getElem?_eq_getElem hjl, Option.getD_some] at hf
   rw [Array.getElem?_toList, Array.getElem?_eq_getElem hjl, hf]
 refine (set_perm hn).trans ((List.Perm.cons k h.2).trans ?_)
 rw [List.range_succ]
 exact (List.perm_append_comm (l₁ := [k]) (l₂ := List.range k))
theorem own_new (mask : Nat) : Own mask (Array.replicate (mask + 1) none) 0 := by
 refine ⟨by simp, ?_⟩
 have : ∀ n : Nat, (List.replicate n (none : Option Nat)).filterMap id = [] := fun n => by induction n with | zero => rfl | succ n ih => rw [List.replicate_succ]; simpa using ih
 rw [Array.toList_replicate, this]
 exact .rfl
def layStep (mask : Nat) (acc : Option (Array (Option Nat) × Nat)) (h : Int) : Option (Array (Option Nat) × Nat) := do
   let (owner, k) ← acc
   let j ← SetTable.layClean.free mask owner (SetTable.turns mask) (SetTable.bits h % (mask + 1)) (SetTable.bits h)
   pure (owner.setIfInBounds j (some k), k + 1)
theorem lay_fold {mask : Nat} (hm : Mk3 mask) : ∀ (hs : List Int) (owner : Array (Option Nat)) (k : Nat), Own mask owner k → k + hs.length ≤ mask → ∃ owner', hs.foldl (layStep mask) (some (owner, k)) = some (owner', k + hs.length) ∧ Own mask owner' (k + hs.length)
 | [], owner, k, h, _ => ⟨owner, rfl, h⟩
 | x :: hs, owner, k, h, hl => by
   rw [List.length_cons] at hl
   obtain ⟨j0, hj0, hf0⟩ := own_free h (by omega)
   obtain ⟨j, e, hj, hf⟩ := free_some hm hj0 hf0 x
   obtain ⟨o', e', h'⟩ := lay_fold hm hs _ (k + 1) (own_put h hj hf) (by omega)
   refine ⟨o', ?_, by rw [List.length_cons, show k + (hs.length + 1) = k + 1 + hs.length by omega]; exact h'⟩
   rw [List.foldl_cons, List.length_cons, show k + (hs.length + 1) = k + 1 + hs.length by omega, ← e']
   congr 1
   unfold layStep
   show (SetTable.layClean.free mask owner (SetTable.turns mask) (SetTable.bits x % (mask + 1)) (SetTable.bits x)).bind _ = _
   rw [e]; rfl
theorem laid_ok {mask : Nat} (hm : Mk3 mask) (finger moves : Nat) (led plain : Bool) {hashes : Array Int} (hn : hashes.size ≤ mask) :
   ∃ t order, SetTable.laid mask finger moves led plain hashes = some (t, order) ∧ t.mask = mask ∧ t.led = led ∧ t.dummies = #[] ∧ Ris t.place ∧ t.place.size = hashes.size ∧ order.toList.Perm (List.range hashes.size) := by
 obtain ⟨o, e, h1, h2⟩ := lay_fold hm hashes.toList _ 0 (own_new mask) (by rw [Array.length_toList]; omega)
 rw [Nat.zero_add, Array.length_toList] at e h2
 have ec : SetTable.layClean mask hashes = some o := by
   unfold SetTable.layClean
   rw [← Array.foldl_toList]
   show (hashes.toList.foldl (layStep mask) (some (Array.replicate (mask + 1) none, 0))).map (·.1) = _
   rw [e]; rfl
 have el : ((List.range (mask + 1)).filterMap fun j => (o.getD j none).map (j, ·)).map (·.2) = o.toList.filterMap id := by
   rw [List.map_filterMap]
   have hr : o.toList = (List.range (mask + 1)).map fun j => o.getD j none := by
     refine List.ext_getElem (by rw [Array.length_toList, h1]; simp) fun i hi hi' => ?_
     rw [Array.length_toList] at hi
     rw [List.getElem_map, List.getElem_range, Array.getD_eq_getD_getElem?, Array.getElem?_eq_getElem hi, Option.getD_some, Array.getElem_toList]
   rw [hr, List.filterMap_map]
   congr 1
   funext j
   simp only [Function.comp]
   cases o.getD j none <;> rfl
 have hs1 : ((List.range (mask + 1)).filterMap fun j => (o.getD j none).map (j, ·)).length = hashes.size := by
   have := congrArg List.length el
   rw [List.length_map, h2.length_eq, List.length_range] at this
   exact this
 have hp : (((List.range (mask + 1)).filterMap fun j => (o.getD j none).map (j, ·)).map (·.1)).Pairwise (· < ·) := by
   rw [List.map_filterMap]
   refine List.Pairwise.filterMap _ (R := (· < ·)) ?_ List.pairwise_lt_range
   intro a a' haa b hb b' hb'
   cases ha : o.getD a none with
   | none => rw [ha] at hb; simp at hb
   | some x =>
     cases ha' : o.getD a' none with
     | none => rw [ha'] at hb'; simp at hb'
     | some y =>
       rw [ha] at hb; rw [ha'] at hb'
       simp at hb hb'
       subst hb; subst hb'
       exact haa
 refine ⟨{ mask, place := (((List.range (mask + 1)).filterMap fun j => (o.getD j none).map (j, ·)).map (·.1)).toArray, dummies := #[], finger, led, moves, plain },
   (((List.range (mask + 1)).filterMap fun j => (o.getD j none).map (j, ·)).map (·.2)).toArray, ?_, rfl, rfl, rfl, ris_list ?_, ?_, ?_⟩
 · unfold SetTable.laid
   rw [ec]; rfl
 · exact hp
 · show (((List.range (mask + 1)).filterMap fun j => (o.getD j none).map (j, ·)).map (·.1)).toArray.size = _
   rw [List.size_toArray, List.length_map, hs1]
 · show ((((List.range (mask + 1)).filterMap fun j => (o.getD j none).map (j, ·)).map (·.2)).toArray).toList.Perm _
   rw [el]
   exact h2
end L2
namespace L2
open PySem PySem.Spec PySem.Calls PyProof.Rows PySem.W
section
variable {prog : Program} {w : World} {K : Type} [DecidableEq K] {knd : KeyKind prog w K} {A : Around} {E : Value → Shared → Prop} {s : Shared}
theorem KIt.store {h : Heap} {a : Addr} {o : Obj} {es : Array (Int × Value)} {ep : Nat} {t : SetTable} {S : K → Prop} (x : KIt knd o es ep t S) (ho : h.get? a = some o) {es' : Array (Int × Value)} {t' : SetTable} {S' : K → Prop}
   (hel : ElemsOf knd es'.toList) (hmem : ∀ k, S' k ↔ ∃ e ∈ es'.toList, knd.is k e.2 = true) (hap : es'.toList.Pairwise (Apart knd)) (hb : es'.size < scanBound) (hok : OkW t' es'.size) (hl : t'.led = !w.params.followText "set-order") :
   (h.update a (Obj.putSet es' t')).get? a = some { o with data := .set es' (ep + 1) t' } ∧ KIt knd { o with data := .set es' (ep + 1) t' } es' (ep + 1) t' S' := by
 have hg : (h.update a (Obj.putSet es' t')).get? a = some { o with data := .set es' (ep + 1) t' } := by
   have := Heap.get?_update_self (Obj.putSet es' t') ho (by rw [putSet_of es' t' x.data]; rfl)
   rw [putSet_of es' t' x.data] at this; exact this
 exact ⟨hg, x.ex, rfl, hel, hmem, hap, hb, hok, hl⟩
end
end L2
namespace L2
open PySem PySem.Spec PySem.Calls PyProof.Rows PySem.W
section
variable {prog : Program} {w : World} {K : Type} [DecidableEq K] {knd : KeyKind prog w K} {A : Around} {E : Value → Shared → Prop} {s : Shared}
theorem wp_reorder {es : Array (Int × Value)} {t : SetTable} {order : Array Nat} (hp : order.toList.Perm (List.range es.size)) : (order.filterMap (es[·]?)).size = es.size ∧ (order.filterMap (es[·]?)).toList.Perm es.toList := by
 have h : (order.filterMap (es[·]?)).toList.Perm es.toList := by
   rw [Array.toList_filterMap]
   exact perm_pick hp
 exact ⟨by rw [← Array.length_toList, h.length_eq, Array.length_toList], h⟩
end
end L2
namespace L2
open PySem PySem.Spec PyProof.Rows PySem.W
def lp (mask : Nat) : Nat → Nat × Nat → Nat × Nat
 | 0, q => q
 | n + 1, q => lp mask n (SetTable.leap mask q.1 q.2)
theorem lp_succ (mask n : Nat) (q : Nat × Nat) : lp mask (n + 1) q = SetTable.leap mask (lp mask n q).1 (lp mask n q).2 := by
 induction n generalizing q with
 | zero => rfl
 | succ n ih => exact ih (SetTable.leap mask q.1 q.2)
theorem lp_add (mask m n : Nat) (q : Nat × Nat) : lp mask (m + n) q = lp mask n (lp mask m q) := by
 induction m generalizing q with
 | zero => rw [Nat.zero_add]; rfl
 | succ m ih => rw [Nat.succ_add]; exact ih (SetTable.leap mask q.1 q.2)
theorem lp_snd (mask n : Nat) (q : Nat × Nat) : (lp mask n q).2 = q.2 / 32 ^ n := by
 induction n with
 | zero => simp [lp]
 | succ n ih =>
   rw [lp_succ]
   show (lp mask n q).2 / 32 = _
   rw [ih, Nat.div_div_eq_div_mul, Nat.pow_succ]
theorem lp_fst (mask n : Nat) (q : Nat × Nat) : (lp mask (n + 1) q).1 ≤ mask := by
 rw [lp_succ]
 exact Nat.le_of_lt_succ (Nat.mod_lt _ (Nat.succ_pos _))
def covers (mask : Nat) : Bool := (List.range (mask + 1)).all fun i => (List.range (mask + 1)).all fun e => (List.range (mask + 1)).any fun n => (lp mask n (i, 0)).1 == e
theorem covers7 : covers 7 = true := by decide +kernel
theorem covers31 : covers 31 = true := by decide +kernel
def Msk (mask : Nat) : Prop := mask = 7 ∨ mask = 31
theorem Msk.cov {mask : Nat} (h : Msk mask) : covers mask = true := by
 rcases h with rfl | rfl
 · exact covers7
 · exact covers31
theorem cover_at {mask i e : Nat} (h : Msk mask) (hi : i ≤ mask) (he : e ≤ mask) : ∃ n, n ≤ mask ∧ (lp mask n (i, 0)).1 = e := by
 have c := h.cov
 unfold covers at c
 rw [List.all_eq_true] at c
 have c1 := c i (List.mem_range.mpr (by omega))
 rw [List.all_eq_true] at c1
 have c2 := c1 e (List.mem_range.mpr (by omega))
 rw [List.any_eq_true] at c2
 obtain ⟨n, hn, h3⟩ := c2
 exact ⟨n, Nat.le_of_lt_succ (List.mem_range.mp hn), by simpa using h3⟩
theorem leap_at {mask e : Nat} (h : Msk mask) (he : e ≤ mask) {q : Nat × Nat} (hq : q.2 < 2 ^ 64) : ∃ n, n ≤ mask + 12 ∧ (lp mask (n + 1) q).1 = e := by
 have z : (lp mask 13 q).2 = 0 := by rw [lp_snd]; exact Nat.div_eq_of_lt (by omega)
 obtain ⟨n, h1, h2⟩ := cover_at h (lp_fst mask 12 q) he
 refine ⟨12 + n, by omega, ?_⟩
 have e1 : lp mask 13 q = ((lp mask 13 q).1, 0) := by rw [← z]
 rw [show 12 + n + 1 = 13 + n by omega, lp_add, e1]
 exact h2
def advN (t : SetTable) : Nat → SetTable.Probe → SetTable.Probe
 | 0, p => p
 | n + 1, p => advN t n (t.advance p)
theorem advN_add (t : SetTable) (m n : Nat) (p : SetTable.Probe) : advN t (m + n) p = advN t n (advN t m p) := by
 induction m generalizing p with
 | zero => rw [Nat.zero_add]; rfl
 | succ m ih => rw [Nat.succ_add]; exact ih (t.advance p)
theorem runEnd_le (mask i : Nat) : SetTable.runEnd mask i - i ≤ 9 := by
 unfold SetTable.runEnd
 split <;> omega
structure PrOk (p : SetTable.Probe) : Prop where
 more : p.more ≤ 9
 pert : p.perturb < 2 ^ 64
 dum : p.dummy = none
theorem PrOk.adv {t : SetTable} {p : SetTable.Probe} (h : PrOk p) : PrOk (t.advance p) := by
 unfold SetTable.advance
 split
 · exact ⟨by have := h.more; show p.more - 1 ≤ 9; omega, h.pert, h.dum⟩
 · exact ⟨runEnd_le _ _, Nat.lt_of_le_of_lt (Nat.div_le_self _ _) h.pert, h.dum⟩
theorem bits_lt64 (h : Int) : SetTable.bits h < 2 ^ 64 := by unfold SetTable.bits; omega
theorem PrOk.start (t : SetTable) (h : Int) : PrOk (t.probeStart h) := ⟨runEnd_le _ _, bits_lt64 h, rfl⟩
theorem to_leap {t : SetTable} : ∀ (m : Nat) (p : SetTable.Probe), p.more = m → (advN t (m + 1) p).j = (SetTable.leap t.mask p.i p.perturb).1 ∧ (advN t (m + 1) p).i = (SetTable.leap t.mask p.i p.perturb).1 ∧ (advN t (m + 1) p).perturb = (SetTable.leap t.mask p.i p.perturb).2 ∧ (advN t (m + 1) p).more ≤ 9
 | 0, p, h => by
   show (t.advance p).j = _ ∧ (t.advance p).i = _ ∧ (t.advance p).perturb = _ ∧ (t.advance p).more ≤ 9
   unfold SetTable.advance
   rw [if_neg (by omega)]
   exact ⟨rfl, rfl, rfl, runEnd_le _ _⟩
 | m + 1, p, h => by
   have e : t.advance p = { p with j := p.j + 1, more := p.more - 1 } := by
     unfold SetTable.advance
     rw [if_pos (by omega)]
   have := to_leap (t := t) m (t.advance p) (by rw [e]; show p.more - 1 = m; omega)
   rw [e] at this
   rw [show m + 1 + 1 = (m + 1) + 1 from rfl]
   show (advN t (m + 1) (t.advance p)).j = _ ∧ (advN t (m + 1) (t.advance p)).i = _ ∧ (advN t (m + 1) (t.advance p)).perturb = _ ∧ (advN t (m + 1) (t.advance p)).more ≤ 9
   rw [e]
   exact this
theorem to_leaps {t : SetTable} : ∀ (n : Nat) (p : SetTable.Probe), p.more ≤ 9 → ∃ k, k ≤ 10 * (n + 1) ∧ (advN t k p).j = (lp t.mask (n + 1) (p.i, p.perturb)).1 ∧ (advN t k p).i = (lp t.mask (n + 1) (p.i, p.perturb)).1 ∧ (advN t k p).perturb = (lp t.mask (n + 1) (p.i, p.perturb)).2 ∧ (advN t k p).more ≤ 9
 | 0, p, h => ⟨p.more + 1, by omega, to_leap p.more p rfl⟩
 | n + 1, p, h => by
   obtain ⟨k, h1, h2, h3, h4, h5⟩ := to_leaps (t := t) n p h
   obtain ⟨g2, g3, g4, g5⟩ := to_leap (t := t) _ (advN t k p) rfl
   refine ⟨k + ((advN t k p).more + 1), by omega, ?_⟩
   rw [advN_add, lp_succ, g2, g3, g4, h3, h4]
   exact ⟨rfl, rfl, rfl, g5⟩
theorem empty_slot {t : SetTable} (hd : t.dummies = #[]) (hs : t.place.size ≤ t.mask) : ∃ e, e ≤ t.mask ∧ t.slot e = .empty := by
 refine Classical.byContradiction fun hn => ?_
 have all : ∀ j, j ≤ t.mask → j ∈ t.place.toList := fun j hj => by
   have h1 : t.slot j ≠ .empty := fun z => hn ⟨j, hj, z⟩
   unfold SetTable.slot at h1
   dsimp only at h1
   by_cases h2 : t.place[SetTable.below t.place j]? = some j
   · obtain ⟨hlt, h3⟩ := Array.getElem?_eq_some_iff.mp h2
     rw [← h3]
     exact Array.mem_toList_iff.mpr (Array.getElem_mem hlt)
   · rw [if_neg (by simpa using h2), hd, has_empty] at h1
     simp at h1
 have := List.Nodup.length_le_of_subset (l₁ := List.range (t.mask + 1)) (l₂ := t.place.toList) List.nodup_range fun j hj => all j (Nat.le_of_lt_succ (List.mem_range.mp hj))
 rw [List.length_range, Array.length_toList] at this
 omega
theorem reach {t : SetTable} (hm : Msk t.mask) (hd : t.dummies = #[]) (hs : t.place.size ≤ t.mask) {p : SetTable.Probe} (hp : PrOk p) : ∃ k, k < 10 * SetTable.turns t.mask ∧ t.slot (advN t k p).j = .empty := by
 obtain ⟨e, he, hE⟩ := empty_slot hd hs
 obtain ⟨n, h1, h2⟩ := leap_at hm he (q := (p.i, p.perturb)) hp.pert
 obtain ⟨k, g1, g2, _⟩ := to_leaps (t := t) n p hp.more
 refine ⟨k, ?_, by rw [g2, h2]; exact hE⟩
 unfold SetTable.turns
 omega
theorem no_dummy {t : SetTable} (hd : t.dummies = #[]) (j : Nat) : t.slot j ≠ .dummy := fun hs => by
 unfold SetTable.slot at hs
 dsimp only at hs
 rw [hd, has_empty] at hs
 split at hs
 · cases hs
 · simp at hs
end L2
namespace L2
open PySem PySem.Spec PyProof.Rows PySem.W
section
variable {prog : Program} {w : World} {K : Type} [DecidableEq K] {knd : KeyKind prog w K} {A : Around} {E : Value → Shared → Prop} {s : Shared}
theorem ofAClass_byValue (n : Nat) {v : Value} (h : carriedByValue v = true) : ofAClassStatement n v = pure false := by
 cases v with
 | ref a => cases h
 | _ => first | rfl | simp [ofAClassStatement] | (unfold ofAClassStatement; rfl)
theorem ofAClass_tuple {ks : List K} {a : Addr} {Q : Bool → Shared → Prop} (hk : IsTupleKey knd s.heap ks a) (h : Q false s) : wpAny (model prog w) A (ofAClassStatement 8 (.ref a)) Q E s := by
 have hT := hk.typeIs
 obtain ⟨o, items, n, ho, _, hd, hi⟩ := hk
 unfold ofAClassStatement
 refine wpAny_bind (wpAny_typeOf hT ?_)
 show wpAny _ _ (pure true >>= _) _ _ s
 refine wpAny_bind (wpAny_pure ?_)
 simp only [Bool.not_true, Bool.false_eq_true, if_false]
 refine wpAny_bind (wpAny_seqItems ho hd ?_)
 dsimp only
 refine wpAny_bind ?_
 rw [← Array.forIn_toList]
 refine wpAny_forIn_list _ (fun rest r s' => r.1 = none ∧ s' = s ∧ ∀ v ∈ rest, carriedByValue v = true) _ ?_ ?_ _ _ ⟨rfl, rfl, hi.byValue⟩
 · rintro v rest r s' ⟨hr, rfl, hall⟩
   rw [ofAClass_byValue _ (hall v List.mem_cons_self)]
   refine wpAny_bind (wpAny_pure ?_)
   simp only [Bool.false_eq_true, if_false]
   exact wpAny_pure ⟨rfl, rfl, fun u hu' => hall u (List.mem_cons_of_mem _ hu')⟩
 · rintro ⟨r1, r2⟩ s' ⟨hr, rfl, _⟩
   simp only at hr
   subst hr
   exact wpAny_pure h
theorem hashBy_byValue (n : Nat) {v : Value} (h : carriedByValue v = true) : ∃ b, hashByValue n v = pure b := by
 cases v with
 | ref a => cases h
 | _ => first | exact ⟨_, rfl⟩ | exact ⟨_, by unfold hashByValue; rfl⟩
theorem hashBy_tuple {ks : List K} {a : Addr} {Q : Bool → Shared → Prop} (hk : IsTupleKey knd s.heap ks a) (h : ∀ b, Q b s) : wpAny (model prog w) A (hashByValue 8 (.ref a)) Q E s := by
 have hT := hk.typeIs
 obtain ⟨o, items, n, ho, _, hd, hi⟩ := hk
 unfold hashByValue
 refine wpAny_bind (wpAny_specialOf hT PySem.F.slot_tuple_hash.lookup ?_)
 dsimp only
 refine wpAny_bind (wpAny_seqItems ho hd ?_)
 refine wpAny_bind ?_
 show wpAny _ _ (forIn items _ _) _ _ s
 rw [← Array.forIn_toList]
 refine wpAny_forIn_list _ (fun rest r s' => s' = s ∧ ∀ v ∈ rest, carriedByValue v = true) _ ?_ ?_ _ _ ⟨rfl, hi.byValue⟩
 · rintro v rest r s' ⟨rfl, hall⟩
   obtain ⟨b, hb⟩ := hashBy_byValue 7 (hall v List.mem_cons_self)
   rw [hb]
   refine wpAny_bind (wpAny_pure ?_)
   cases b
   · exact wpAny_pure (wpAny_pure (h _))
   · exact wpAny_pure ⟨rfl, fun u hu' => hall u (List.mem_cons_of_mem _ hu')⟩
 · rintro ⟨r1, r2⟩ s' ⟨rfl, _⟩
   cases r1 with
   | none => exact wpAny_pure (h _)
   | some b => exact wpAny_pure (h _)
theorem seen_tuple {a : Addr} {k : List K} (hx : IsTupleKey knd s.heap k a) (stored : List Value) (hst : ∀ y ∈ stored, ∃ c k', y = .ref c ∧ IsTupleKey knd s.heap k' c) {Q : Bool → Shared → Prop} (h : Q false s) : wpAny (model prog w) A (searchCouldBeSeen (.ref a) stored) Q E s := by
 unfold searchCouldBeSeen
 refine wpAny_bind ?_
 refine wpAny_forIn_list _ (fun rest r s' => r.1 = none ∧ s' = s ∧ ∀ y ∈ rest, ∃ c k', y = .ref c ∧ IsTupleKey knd s.heap k' c) _ ?_ ?_ _ _ ⟨rfl, rfl, hst⟩
 · rintro y rest r s' ⟨hr, rfl, hall⟩
   obtain ⟨c, k', rfl, hc⟩ := hall y List.mem_cons_self
   have hrest : ∀ y ∈ rest, ∃ c k', y = .ref c ∧ IsTupleKey knd s'.heap k' c := fun u hu => hall u (List.mem_cons_of_mem _ hu)
   dsimp only
   split
   · exact wpAny_pure ⟨rfl, rfl, hrest⟩
   · refine wpAny_bind (wpAny_eqIsQuiet_tuple hx ?_)
     simp only [Bool.not_true, Bool.false_eq_true, if_false]
     refine wpAny_bind (wpAny_eqIsQuiet_tuple hc ?_)
     simp only [Bool.not_true, Bool.false_eq_true, if_false]
     refine wpAny_bind (ofAClass_tuple hx ?_)
     simp only [Bool.false_eq_true, if_false]
     refine wpAny_bind (ofAClass_tuple hc ?_)
     simp only [Bool.false_eq_true, if_false]
     exact wpAny_pure ⟨rfl, rfl, hrest⟩
 · rintro ⟨r1, r2⟩ s' ⟨hr, rfl, _⟩
   simp only at hr
   subst hr
   exact wpAny_pure h
def tEl (knd : KeyKind prog w K) (p : List K × Addr) : Int × Value := (tupleKeyHash knd p.1, .ref p.2)
theorem slot_live {t : SetTable} {j i : Nat} (h : t.slot j = .live i) : i < t.place.size := by
 unfold SetTable.slot at h
 dsimp only at h
 split at h
 · rename_i h2
   have h3 : t.place[SetTable.below t.place j]? = some j := by simpa using h2
   obtain ⟨hlt, _⟩ := Array.getElem?_eq_some_iff.mp h3
   injection h with h4
   rw [← h4]; exact hlt
 · split at h <;> cases h
theorem led_if {α : Type} {b : Bool} {sn : Sem Bool} {un cont : Sem α} {Q : α → Shared → Prop} (hs : wpAny (model prog w) A sn (fun r s' => r = false ∧ s' = s) E s) (hc : wpAny (model prog w) A cont Q E s) : wpAny (model prog w) A (if b = true then (sn >>= fun r => if r = true then un else cont) else cont) Q E s := by
 cases b
 · exact hc
 · refine wpAny_bind (wpAny_mono hs ?_ fun _ _ z => z)
   rintro r s' ⟨rfl, rfl⟩
   exact hc
end
end L2
namespace L2
open PySem PySem.Spec PyProof.Rows PySem.W
theorem perm_of_map {α β : Type} {f : α → β} {a b : List β} (h : a.Perm b) : ∀ {m : List α}, b = m.map f → ∃ l : List α, a = l.map f ∧ l.Perm m := by
 induction h with
 | nil =>
   intro m e
   cases m with
   | nil => exact ⟨[], rfl, .nil⟩
   | cons => cases e
 | cons x _ ih =>
   intro m e
   cases m with
   | nil => cases e
   | cons y m =>
     rw [List.map_cons] at e
     injection e with e1 e2
     obtain ⟨l, h1, h2⟩ := ih e2
     exact ⟨y :: l, by rw [List.map_cons, e1, h1], h2.cons y⟩
 | swap x y l =>
   intro m e
   cases m with
   | nil => cases e
   | cons u m =>
     cases m with
     | nil => cases e
     | cons v m =>
       rw [List.map_cons, List.map_cons] at e
       injection e with e1 e2
       injection e2 with e3 e4
       exact ⟨v :: u :: m, by rw [List.map_cons, List.map_cons, e1, e3, e4], .swap ..⟩
 | trans _ _ ih1 ih2 =>
   intro m e
   obtain ⟨l, h1, h2⟩ := ih2 e
   obtain ⟨l2, h3, h4⟩ := ih1 h1
   exact ⟨l2, h3, h4.trans h2⟩
section
variable {prog : Program} {w : World} {K : Type} [DecidableEq K] (knd : KeyKind prog w K)
variable {knd} {A : Around} {E : Value → Shared → Prop} {s : Shared}
theorem put_slot {t : SetTable} (hd : t.dummies = #[]) (j : Nat) : t.put j = ({ t with place := SetTable.insertAt t.place (SetTable.below t.place j) j }, SetTable.below t.place j) := by
 unfold SetTable.put
 dsimp only
 rw [hd, has_empty, if_neg (by decide)]
theorem slot_empty {t : SetTable} {j : Nat} (h : t.slot j = .empty) : t.place[SetTable.below t.place j]? ≠ some j := fun z => by
 unfold SetTable.slot at h
 dsimp only at h
 rw [z] at h
 simp at h
theorem sab20 : SetTable.sizeAbove (SetTable.grown 5) = 32 := by decide +kernel
end
end L2
namespace L2
open PySem PySem.Spec PyProof.Rows PySem.W
section
variable {prog : Program} {w : World} {K : Type} [DecidableEq K] {knd : KeyKind prog w K} {A : Around} {R : Result → Shared → Prop} {I : Addr} {fp wr : List Addr} {G : Array GenState → Array GenState → Prop} {n : Nat} {P : Nat → Value → Prop} {St : Nat → Shared → Prop}
theorem key_at {h h' : Heap} {ks : List K} {a : Addr} (x : IsTupleKey knd h ks a) (e : ∀ o, h.get? a = some o → h'.get? a = some o) : IsTupleKey knd h' ks a := let ⟨o, its, n, ho, r⟩ := x; ⟨o, its, n, e _ ho, r⟩
end
end L2
namespace L2
open PySem PySem.Spec PyProof.Rows PySem.W
def mKey (m : Msg) : List Key := [Sum.inl m.n, Sum.inr m.t, Sum.inr m.x]
theorem mKey_inj {a b : Msg} (h : mKey a = mKey b) : a = b := by
 unfold mKey at h
 injection h with h1 h2
 injection h2 with h3 h4
 injection h4 with h5 _
 cases a; cases b
 simp only [Sum.inl.injEq, Sum.inr.injEq] at h1 h3 h5
 subst h1; subst h3; subst h5; rfl
theorem ms_pairs {H : Hp} : ∀ {ys : List V} {ms : List Msg}, Ms H ys ms → ∃ xs : List (Msg × Addr), xs.map (·.1) = ms ∧ ys = xs.map (fun p => V.ref p.2) ∧ ∀ p ∈ xs, H p.2 = some (mT p.1)
 | ys, [], h => by
   have := h.len
   rw [List.length_nil] at this
   exact ⟨[], rfl, List.length_eq_zero_iff.mp this, fun p hp => nomatch hp⟩
 | ys, m :: ms, h => by
   have h' : HasL H ys (mD m :: ms.map mD) := h
   unfold HasL at h'
   obtain ⟨y, r, rfl, h1, h2⟩ := h'
   obtain ⟨c, rfl, hc⟩ := has_msg h1
   obtain ⟨xs, e1, e2, e3⟩ := ms_pairs (ys := r) (ms := ms) h2
   refine ⟨(m, c) :: xs, by rw [List.map_cons, e1], by rw [List.map_cons, e2], fun p hp => ?_⟩
   rcases List.mem_cons.mp hp with rfl | hp
   · exact hc
   · exact e3 p hp
end L2
namespace L2
open PySem PySem.Spec PyProof.Rows PySem.W
theorem slot_place {t : SetTable} {j i : Nat} (h : t.slot j = .live i) : t.place[i]? = some j := by
 unfold SetTable.slot at h
 dsimp only at h
 split at h
 · rename_i h2
   have h3 : t.place[SetTable.below t.place j]? = some j := by simpa using h2
   injection h with h4
   rw [← h4]; exact h3
 · split at h <;> cases h
theorem slot_at {t : SetTable} (hr : Ris t.place) {j : Nat} (h : j ∈ t.place.toList) : ∃ i, t.slot j = .live i := by
 obtain ⟨i, hi, e⟩ := List.getElem_of_mem h
 rw [Array.getElem_toList] at e
 rw [Array.length_toList] at hi
 obtain ⟨h0, h1, h2⟩ := below_spec hr j
 refine ⟨SetTable.below t.place j, ?_⟩
 have hb : SetTable.below t.place j ≤ i := Nat.le_of_not_lt fun z => by have := h1 i hi z; omega
 have hg : t.place[SetTable.below t.place j]? = some j := by
   have hlt : SetTable.below t.place j < t.place.size := by omega
   rw [Array.getElem?_eq_getElem hlt]
   have z1 := h2 _ hlt (Nat.le_refl _)
   have z2 := hr.le hlt hi hb
   congr 1; omega
 unfold SetTable.slot
 dsimp only
 rw [if_pos (by rw [hg]; simp)]
theorem adv_mask {t t' : SetTable} (h : t.mask = t'.mask) (p : SetTable.Probe) : t.advance p = t'.advance p := by unfold SetTable.advance; rw [h]
theorem advN_mask {t t' : SetTable} (h : t.mask = t'.mask) : ∀ (n : Nat) (p : SetTable.Probe), advN t n p = advN t' n p
 | 0, p => rfl
 | n + 1, p => by show advN t n (t.advance p) = advN t' n (t'.advance p); rw [adv_mask h, advN_mask h n]
theorem start_mask {t t' : SetTable} (h : t.mask = t'.mask) (x : Int) : t.probeStart x = t'.probeStart x := by unfold SetTable.probeStart; rw [h]
def Fnd (t : SetTable) (es : Array (Int × Value)) : Prop := ∀ z ∈ t.place.toList.zip es.toList, ∃ n, (advN t n (t.probeStart z.2.1)).j = z.1 ∧ ∀ m, m < n → (advN t m (t.probeStart z.2.1)).j ∈ t.place.toList
theorem zip_ins {α β : Type} {a : Array α} {b : Array β} (hl : a.size = b.size) (i : Nat) (x : α) (y : β) {z : α × β} (h : z ∈ (SetTable.insertAt a i x).toList.zip (SetTable.insertAt b i y).toList) : z = (x, y) ∨ z ∈ a.toList.zip b.toList := by
 rw [SetTable.toList_insertAt, SetTable.toList_insertAt, List.zip_append (by rw [List.length_take, List.length_take, Array.length_toList, Array.length_toList, hl]), List.zip_cons_cons] at h
 rcases List.mem_append.mp h with u | u
 · rw [List.zip, ← List.take_zipWith] at u
   exact .inr (List.mem_of_mem_take u)
 · rcases List.mem_cons.mp u with v | v
   · exact .inl v
   · rw [List.zip, ← List.drop_zipWith] at v
     exact .inr (List.mem_of_mem_drop v)
theorem Fnd.put {t t' : SetTable} {es : Array (Int × Value)} (hF : Fnd t es) (hl : t.place.size = es.size) {j n : Nat} {x : Int × Value} (hm : t'.mask = t.mask) {i : Nat} (hp : t'.place = SetTable.insertAt t.place i j)
   (hj : (advN t n (t.probeStart x.1)).j = j) (hb : ∀ m, m < n → (advN t m (t.probeStart x.1)).j ∈ t.place.toList) : Fnd t' (SetTable.insertAt es i x) := by
 have hsub : ∀ c ∈ t.place.toList, c ∈ t'.place.toList := fun c hc => by
   rw [hp, (SetTable.insertAt_perm t.place i j).mem_iff, Array.toList_push]
   exact List.mem_append_left _ hc
 intro z hz
 rw [hp] at hz
 rcases zip_ins hl i j x hz with rfl | hz
 · exact ⟨n, by rw [start_mask hm, advN_mask hm]; exact hj, fun m h => by rw [start_mask hm, advN_mask hm]; exact hsub _ (hb m h)⟩
 · obtain ⟨k, h1, h2⟩ := hF z hz
   exact ⟨k, by rw [start_mask hm, advN_mask hm]; exact h1, fun m h => by rw [start_mask hm, advN_mask hm]; exact hsub _ (h2 m h)⟩
theorem adv_lin {t : SetTable} : ∀ (m : Nat) (p : SetTable.Probe), m ≤ p.more → advN t m p = { p with j := p.j + m, more := p.more - m }
 | 0, p, _ => rfl
 | m + 1, p, h => by
   have e : t.advance p = { p with j := p.j + 1, more := p.more - 1 } := by
     unfold SetTable.advance
     rw [if_pos (by omega)]
   show advN t m (t.advance p) = _
   rw [adv_lin m (t.advance p) (by rw [e]; show m ≤ p.more - 1; omega), e]
   show ({ p with j := p.j + 1 + m, more := p.more - 1 - m } : SetTable.Probe) = _
   rw [show p.j + 1 + m = p.j + (m + 1) by omega, show p.more - 1 - m = p.more - (m + 1) by omega]
theorem adv_leap {t : SetTable} (p : SetTable.Probe) : advN t (p.more + 1) p = { p with j := (SetTable.leap t.mask p.i p.perturb).1, more := SetTable.runEnd t.mask (SetTable.leap t.mask p.i p.perturb).1 - (SetTable.leap t.mask p.i p.perturb).1, i := (SetTable.leap t.mask p.i p.perturb).1, perturb := (SetTable.leap t.mask p.i p.perturb).2 } := by
 rw [advN_add, adv_lin p.more p (Nat.le_refl _)]
 show t.advance _ = _
 unfold SetTable.advance
 rw [if_neg (by show ¬ p.more - p.more > 0; omega)]
theorem free_path {t : SetTable} {owner : Array (Option Nat)} : ∀ (fuel i p j : Nat), SetTable.layClean.free t.mask owner fuel i p = some j →
   ∃ n, (advN t n ⟨i, SetTable.runEnd t.mask i - i, i, p, none⟩).j = j ∧ Fre owner j ∧ ∀ m, m < n → ¬ Fre owner (advN t m ⟨i, SetTable.runEnd t.mask i - i, i, p, none⟩).j
 | 0, i, p, j, h => by unfold SetTable.layClean.free at h; cases h
 | fuel + 1, i, p, j, h => by
   unfold SetTable.layClean.free at h
   cases hf : (List.range (SetTable.runEnd t.mask i + 1 - i)).find? (fun k => (owner.getD (i + k) (some 0)).isNone) with
   | some k =>
     rw [hf] at h
     have hj : i + k = j := Option.some.inj h
     have h1 := List.find?_some hf
     have h2 := List.mem_range.mp (List.mem_of_find?_eq_some hf)
     refine ⟨k, ?_, by rw [← hj]; exact Option.isNone_iff_eq_none.mp h1, fun m hm hfr => ?_⟩
     · rw [adv_lin k _ (by show k ≤ SetTable.runEnd t.mask i - i; omega)]; exact hj
     · rw [adv_lin m _ (by show m ≤ SetTable.runEnd t.mask i - i; omega)] at hfr
       obtain ⟨_, as, bs, e1, e2⟩ := List.find?_eq_some_iff_append.mp hf
       have hmem : m ∈ as := by
         have hm' : m ∈ List.range (SetTable.runEnd t.mask i + 1 - i) := List.mem_range.mpr (by omega)
         rw [e1] at hm'
         rcases List.mem_append.mp hm' with u | u
         · exact u
         · exfalso
           have hp : (List.range (SetTable.runEnd t.mask i + 1 - i)).Pairwise (· < ·) := List.pairwise_lt_range
           rw [e1] at hp
           rcases List.mem_cons.mp u with v | v
           · omega
           · have := (List.pairwise_cons.mp (List.pairwise_append.mp hp).2.1).1 m v
             omega
       have := e2 m hmem
       unfold Fre at hfr
       have hfr' : owner.getD (i + m) (some 0) = none := hfr
       rw [hfr'] at this
       simp at this
   | none =>
     rw [hf] at h
     have h' : SetTable.layClean.free t.mask owner fuel (SetTable.leap t.mask i p).1 (SetTable.leap t.mask i p).2 = some j := h
     obtain ⟨n, h1, h2, h3⟩ := free_path fuel _ _ j h'
     have hn := List.find?_eq_none.mp hf
     have hl := adv_leap (t := t) ⟨i, SetTable.runEnd t.mask i - i, i, p, none⟩
     refine ⟨(SetTable.runEnd t.mask i - i + 1) + n, ?_, h2, fun m hm => ?_⟩
     · rw [advN_add]
       have hl' : advN t (SetTable.runEnd t.mask i - i + 1) ⟨i, SetTable.runEnd t.mask i - i, i, p, none⟩ = _ := hl
       rw [hl']; exact h1
     · by_cases hlt : m < SetTable.runEnd t.mask i - i + 1
       · rw [adv_lin m _ (by show m ≤ SetTable.runEnd t.mask i - i; omega)]
         intro hfr
         have hle : i ≤ SetTable.runEnd t.mask i := by unfold SetTable.runEnd; split <;> omega
         have := hn m (List.mem_range.mpr (by omega))
         have hfr' : owner.getD (i + m) (some 0) = none := hfr
         rw [hfr'] at this
         exact this rfl
       · obtain ⟨d, rfl⟩ : ∃ d, m = (SetTable.runEnd t.mask i - i + 1) + d := ⟨m - (SetTable.runEnd t.mask i - i + 1), by omega⟩
         rw [advN_add]
         have hl' : advN t (SetTable.runEnd t.mask i - i + 1) ⟨i, SetTable.runEnd t.mask i - i, i, p, none⟩ = _ := hl
         rw [hl']
         exact h3 d (by omega)
def OF (t : SetTable) (owner : Array (Option Nat)) (F : Nat → Int) : Prop := ∀ j i, owner.getD j none = some i → ∃ n, (advN t n (t.probeStart (F i))).j = j ∧ ∀ m, m < n → ¬ Fre owner (advN t m (t.probeStart (F i))).j
theorem OF.put {t : SetTable} {owner : Array (Option Nat)} {F : Nat → Int} {k j : Nat} (h : OF t owner F) (e : SetTable.layClean.free t.mask owner (SetTable.turns t.mask) (SetTable.bits (F k) % (t.mask + 1)) (SetTable.bits (F k)) = some j) : OF t (owner.setIfInBounds j (some k)) F := by
 have hk : ∀ x, ¬ Fre owner x → ¬ Fre (owner.setIfInBounds j (some k)) x := fun x hx hf => by
   unfold Fre at hx hf
   rw [Array.getD_eq_getD_getElem?] at hx hf
   by_cases z : j = x
   · subst z
     rw [Array.getElem?_setIfInBounds_self] at hf
     split at hf
     · cases hf
     · cases hf
   · rw [Array.getElem?_setIfInBounds_ne z] at hf
     exact hx hf
 intro x i hx
 rw [Array.getD_eq_getD_getElem?] at hx
 by_cases z : j = x
 · subst z
   rw [Array.getElem?_setIfInBounds_self] at hx
   split at hx
   · have hi : k = i := Option.some.inj hx
     subst hi
     obtain ⟨n, h1, _, h3⟩ := free_path (t := t) _ _ _ _ e
     exact ⟨n, h1, fun m hm => hk _ (h3 m hm)⟩
   · cases hx
 · rw [Array.getElem?_setIfInBounds_ne z, ← Array.getD_eq_getD_getElem?] at hx
   obtain ⟨n, h1, h2⟩ := h x i hx
   exact ⟨n, h1, fun m hm => hk _ (h2 m hm)⟩
theorem lay_none {mask : Nat} : ∀ hs : List Int, hs.foldl (layStep mask) none = none
 | [] => rfl
 | _ :: hs => lay_none hs
theorem layOF {t : SetTable} {F : Nat → Int} : ∀ (hs : List Int) (owner : Array (Option Nat)) (k : Nat), OF t owner F → (∀ i (hi : i < hs.length), F (k + i) = hs[i]) → ∀ o', hs.foldl (layStep t.mask) (some (owner, k)) = some o' → OF t o'.1 F
 | [], owner, k, h, _, o', e => by cases e; exact h
 | x :: hs, owner, k, h, hF, o', e => by
   rw [List.foldl_cons] at e
   have hx : F k = x := hF 0 (by simp)
   cases hf : SetTable.layClean.free t.mask owner (SetTable.turns t.mask) (SetTable.bits x % (t.mask + 1)) (SetTable.bits x) with
   | none =>
     have : layStep t.mask (some (owner, k)) x = none := by
       unfold layStep
       show (SetTable.layClean.free t.mask owner (SetTable.turns t.mask) (SetTable.bits x % (t.mask + 1)) (SetTable.bits x)).bind _ = _
       rw [hf]; rfl
     rw [this, lay_none] at e
     cases e
   | some j =>
     have : layStep t.mask (some (owner, k)) x = some (owner.setIfInBounds j (some k), k + 1) := by
       unfold layStep
       show (SetTable.layClean.free t.mask owner (SetTable.turns t.mask) (SetTable.bits x % (t.mask + 1)) (SetTable.bits x)).bind _ = _
       rw [hf]; rfl
     rw [this] at e
     refine layOF hs _ (k + 1) (h.put (by rw [hx]; exact hf)) (fun i hi => ?_) o' e
     have := hF (i + 1) (by simp; omega)
     rw [show k + 1 + i = k + (i + 1) by omega, this]; rfl
theorem zip_live {es : Array (Int × Value)} : ∀ {live : List (Nat × Nat)}, (∀ x ∈ live, x.2 < es.size) → ∀ z ∈ (live.map (·.1)).zip ((live.map (·.2)).filterMap (es[·]?)), ∃ x ∈ live, x.1 = z.1 ∧ es[x.2]? = some z.2
 | [], _, z, hz => by simp at hz
 | x :: live, h, z, hz => by
   have hx := h x List.mem_cons_self
   rw [List.map_cons, List.map_cons, List.filterMap_cons, Array.getElem?_eq_getElem hx] at hz
   dsimp only at hz
   rw [List.zip_cons_cons] at hz
   rcases List.mem_cons.mp hz with rfl | hz
   · exact ⟨x, List.mem_cons_self, rfl, Array.getElem?_eq_getElem hx⟩
   · obtain ⟨y, hy, e⟩ := zip_live (live := live) (fun y hy => h y (List.mem_cons_of_mem _ hy)) z hz
     exact ⟨y, List.mem_cons_of_mem _ hy, e⟩
theorem PrB {t : SetTable} : ∀ (n : Nat) (p : SetTable.Probe), p.j + p.more ≤ t.mask → (advN t n p).j + (advN t n p).more ≤ t.mask
 | 0, p, h => h
 | n + 1, p, h => by
   refine PrB n (t.advance p) ?_
   unfold SetTable.advance
   split
   · show p.j + 1 + (p.more - 1) ≤ _; omega
   · have h1 := leap_le (mask := t.mask) (i := p.i) (p := p.perturb)
     have h2 := run_le h1
     show (SetTable.leap t.mask p.i p.perturb).1 + (SetTable.runEnd t.mask (SetTable.leap t.mask p.i p.perturb).1 - (SetTable.leap t.mask p.i p.perturb).1) ≤ _
     omega
theorem start_in {t : SetTable} (n : Nat) (x : Int) : (advN t n (t.probeStart x)).j ≤ t.mask := by
 have := PrB (t := t) n (t.probeStart x) (by
   have h1 : SetTable.bits x % (t.mask + 1) ≤ t.mask := Nat.le_of_lt_succ (Nat.mod_lt _ (Nat.succ_pos _))
   have h2 := run_le h1
   show SetTable.bits x % (t.mask + 1) + (SetTable.runEnd t.mask (SetTable.bits x % (t.mask + 1)) - SetTable.bits x % (t.mask + 1)) ≤ _
   omega)
 omega
theorem laid_fnd {mask finger moves : Nat} {led plain : Bool} {es : Array (Int × Value)} {t : SetTable} {order : Array Nat} (hm : Mk3 mask) (hn : es.size ≤ mask) (e : SetTable.laid mask finger moves led plain (es.map (·.1)) = some (t, order)) : Fnd t (order.filterMap (es[·]?)) := by
 obtain ⟨o, e1, h1, h2⟩ := lay_fold hm (es.map (·.1)).toList _ 0 (own_new mask) (by rw [Array.length_toList, Array.size_map]; omega)
 have ec : SetTable.layClean mask (es.map (·.1)) = some o := by
   unfold SetTable.layClean
   rw [← Array.foldl_toList]
   show ((es.map (·.1)).toList.foldl (layStep mask) (some (Array.replicate (mask + 1) none, 0))).map (·.1) = _
   rw [e1]; rfl
 unfold SetTable.laid at e
 rw [ec] at e
 have e' := Option.some.inj e
 injection e' with e2 e3
 have tm : t.mask = mask := by rw [← e2]
 have hof : OF t o (fun i => ((es.map (·.1)).toList[i]?).getD 0) := by
   refine layOF (t := t) (F := fun i => ((es.map (·.1)).toList[i]?).getD 0) (es.map (·.1)).toList (Array.replicate (mask + 1) none) 0 (fun j i hj => ?_) (fun i hi => ?_) (o, 0 + (es.map (·.1)).toList.length) (by rw [tm]; exact e1)
   · exfalso
     rw [Array.getD_eq_getD_getElem?, Array.getElem?_replicate] at hj
     split at hj <;> cases hj
   · show ((es.map (·.1)).toList[0 + i]?).getD 0 = _
     rw [Nat.zero_add, List.getElem?_eq_getElem hi]; rfl
 have hpl : t.place.toList = ((List.range (mask + 1)).filterMap fun j => (o.getD j none).map (j, ·)).map (·.1) := by rw [← e2]
 have hlv : ∀ x ∈ (List.range (mask + 1)).filterMap (fun j => (o.getD j none).map (j, ·)), x.1 ≤ mask ∧ o.getD x.1 none = some x.2 := fun x hx => by
   obtain ⟨j, hj, ex⟩ := List.mem_filterMap.mp hx
   obtain ⟨i, hi, rfl⟩ := Option.map_eq_some_iff.mp ex
   exact ⟨Nat.le_of_lt_succ (List.mem_range.mp hj), hi⟩
 have hin : ∀ j, j ≤ mask → ¬ Fre o j → j ∈ t.place.toList := fun j hj hf => by
   rw [hpl]
   have hjs : j < o.size := by omega
   have : o.getD j none ≠ none := fun z => hf (by
     unfold Fre
     rw [Array.getD_eq_getD_getElem?, Array.getElem?_eq_getElem hjs] at z ⊢
     exact z)
   cases ho : o.getD j none with
   | none => exact absurd ho this
   | some i => exact List.mem_map.mpr ⟨(j, i), List.mem_filterMap.mpr ⟨j, List.mem_range.mpr (by omega), by rw [ho]; rfl⟩, rfl⟩
 have hsz : ∀ x ∈ (List.range (mask + 1)).filterMap (fun j => (o.getD j none).map (j, ·)), x.2 < es.size := fun x hx => by
   obtain ⟨hx1, hx2⟩ := hlv x hx
   have hjs : x.1 < o.size := by omega
   have : x.2 ∈ o.toList.filterMap id := List.mem_filterMap.mpr ⟨some x.2, by
     rw [Array.getD_eq_getD_getElem?, Array.getElem?_eq_getElem hjs, Option.getD_some] at hx2
     rw [← hx2]
     exact Array.mem_toList_iff.mpr (Array.getElem_mem hjs), rfl⟩
   have := List.mem_range.mp (h2.mem_iff.mp this)
   rw [Array.length_toList, Array.size_map] at this
   omega
 intro z hz
 have hz' : z ∈ (((List.range (mask + 1)).filterMap fun j => (o.getD j none).map (j, ·)).map (·.1)).zip ((((List.range (mask + 1)).filterMap fun j => (o.getD j none).map (j, ·)).map (·.2)).filterMap (es[·]?)) := by
   rw [hpl] at hz
   rw [← e3] at hz
   rw [Array.toList_filterMap] at hz
   exact hz
 obtain ⟨x, hx, ex, ez⟩ := zip_live hsz z hz'
 obtain ⟨n, g1, g2⟩ := hof x.1 x.2 (hlv x hx).2
 have hh : ((es.map (·.1)).toList[x.2]?).getD 0 = z.2.1 := by
   rw [Array.getElem?_toList, Array.getElem?_map, ez]; rfl
 rw [show (fun i => ((es.map (·.1)).toList[i]?).getD 0) x.2 = z.2.1 from hh] at g1 g2
 exact ⟨n, by rw [g1, ex], fun m hm' => hin _ (by rw [← tm]; exact start_in m _) (g2 m hm')⟩
end L2
namespace L2
open PySem PySem.Spec PyProof.Rows PySem.W
theorem probe_at {t : SetTable} (hd : t.dummies = #[]) {f : Nat → Int} {h : Int} : ∀ (k fuel : Nat) (p : SetTable.Probe), PrOk p → k < fuel → (∀ m, m < k → ∃ i, t.slot (advN t m p).j = .live i) → (t.slot (advN t k p).j = .empty ∨ ∃ i, t.slot (advN t k p).j = .live i ∧ f i = h) →
   (SetTable.probe.go t f h fuel p = some (.empty (advN t k p).j none) ∧ t.slot (advN t k p).j = .empty) ∨
   (∃ m i, m ≤ k ∧ SetTable.probe.go t f h fuel p = some (.candidate (advN t m p).j i (advN t (m + 1) p)) ∧ t.slot (advN t m p).j = .live i ∧ f i = h ∧ PrOk (advN t (m + 1) p))
 | k, 0, p, hp, hk, hb, he => absurd hk (Nat.not_lt_zero _)
 | 0, fuel + 1, p, hp, hk, hb, he => by
   unfold SetTable.probe.go
   rcases he with he | ⟨i, he, hf⟩
   · have he' : t.slot p.j = .empty := he
     rw [he']
     exact .inl ⟨by dsimp only; rw [hp.dum]; rfl, he⟩
   · have he' : t.slot p.j = .live i := he
     rw [he']
     refine .inr ⟨0, i, Nat.le_refl _, ?_, he, hf, hp.adv⟩
     dsimp only
     rw [if_pos (by simpa using hf)]; rfl
 | k + 1, fuel + 1, p, hp, hk, hb, he => by
   unfold SetTable.probe.go
   obtain ⟨i, hs⟩ := hb 0 (Nat.succ_pos _)
   have hs' : t.slot p.j = .live i := hs
   rw [hs']
   dsimp only
   by_cases hf : f i = h
   · rw [if_pos (by simpa using hf)]
     exact .inr ⟨0, i, Nat.zero_le _, rfl, hs, hf, hp.adv⟩
   · rw [if_neg (by simpa using hf)]
     rcases probe_at hd k fuel (t.advance p) hp.adv (by omega) (fun m hm => hb (m + 1) (by omega)) he with h1 | ⟨m, i', h1, h2, h3, h4, h5⟩
     · exact .inl h1
     · exact .inr ⟨m + 1, i', by omega, h2, h3, h4, h5⟩
section
variable {prog : Program} {w : World} {K : Type} [DecidableEq K] {knd : KeyKind prog w K} {A : Around} {E : Value → Shared → Prop} {s : Shared}
theorem search_any {a c : Addr} {o : Obj} {es : Array (Int × Value)} {ep : Nat} {t : SetTable} {xs : List (List K × Addr)} {k : List K} (hu : A.units < cLine) (ho : s.heap.get? a = some o) (hdat : o.data = .set es ep t) (hf : t.fits es.size = true) (hd : t.dummies = #[]) (hg : t.gaveWay = false)
   (hes : es.toList = xs.map (tEl knd)) (hk : ∀ p ∈ xs, IsTupleKey knd s.heap p.1 p.2) (hx : IsTupleKey knd s.heap k c) {Q : SetFound → Shared → Prop} {N : Nat} (hN : t.slot (advN t N (t.probeStart (tupleKeyHash knd k))).j = .empty ∨ ∃ i k' c', t.slot (advN t N (t.probeStart (tupleKeyHash knd k))).j = .live i ∧ xs[i]? = some (k', c') ∧ k' = k)
   (hB : ∀ m, m < N → ∃ i, t.slot (advN t m (t.probeStart (tupleKeyHash knd k))).j = .live i) (hT : N < 10 * SetTable.turns t.mask)
   (qo : (∃ p ∈ xs, p.1 = k) → Q (.there none) s) (qn : t.slot (advN t N (t.probeStart (tupleKeyHash knd k))).j = .empty → Q (.free (advN t N (t.probeStart (tupleKeyHash knd k))).j false) s) :
   ∀ (n c0 fuel : Nat) (stand : Option SetTable.Probe), c0 + n = N → stand.getD (t.probeStart (tupleKeyHash knd k)) = advN t c0 (t.probeStart (tupleKeyHash knd k)) → PrOk (advN t c0 (t.probeStart (tupleKeyHash knd k))) → n < fuel →
   wpAny (model prog w) A (setSearchFrom a (.ref c) (tupleKeyHash knd k) true fuel stand) Q E s := by
 intro n
 induction n using Nat.strongRecOn with
 | ind n ih =>
   intro c0 fuel stand hc hst hp hfu
   obtain ⟨fuel, rfl⟩ : ∃ m, fuel = m + 1 := ⟨fuel - 1, by omega⟩
   have hpl : t.place.size = es.size := by
     unfold SetTable.fits at hf
     have := (Bool.and_eq_true_iff.mp hf).1
     simpa using this
   have hlen : es.size = xs.length := by
     have := congrArg List.length hes
     rw [Array.length_toList, List.length_map] at this
     exact this
   unfold setSearchFrom
   refine wpAny_bind (wpAny_setState_of ho hdat hf ?_)
   dsimp only
   rw [hg]
   simp only [Bool.false_eq_true, if_false]
   rw [hst]
   unfold SetTable.probe
   have hgx : ∀ i p, xs[i]? = some p → es[i]? = some (tEl knd p) := fun i p h => by
     rw [← Array.getElem?_toList, hes, List.getElem?_map, h]; rfl
   have hadv : ∀ m, advN t m (advN t c0 (t.probeStart (tupleKeyHash knd k))) = advN t (c0 + m) (t.probeStart (tupleKeyHash knd k)) := fun m => (advN_add t c0 m _).symm
   rcases probe_at (f := fun i => (es[i]?.map (·.1)).getD 0) (h := tupleKeyHash knd k) hd n (10 * SetTable.turns t.mask) (advN t c0 (t.probeStart (tupleKeyHash knd k))) hp (by omega) (fun m hm => by rw [hadv]; exact hB _ (by omega)) (by
     rw [hadv, hc]
     rcases hN with z | ⟨i, k', c', z1, z2, rfl⟩
     · exact .inl z
     · exact .inr ⟨i, z1, by show (es[i]?.map (·.1)).getD 0 = _; rw [hgx i _ z2]; rfl⟩) with ⟨h1, h2⟩ | ⟨m, i, h1, h2, h3, h4, h5⟩
   · erw [h1]
     rw [hadv, hc] at h2
     have := qn h2
     rw [hadv, hc]
     exact wpAny_pure this
   · erw [h2]
     dsimp only
     have hi : i < es.size := by rw [← hpl]; exact slot_live h3
     have hix : i < xs.length := by omega
     have hgi : es[i]? = some (tEl knd xs[i]) := hgx i _ (List.getElem?_eq_getElem hix)
     have hmi : xs[i] ∈ xs := List.getElem_mem hix
     have hki := hk _ hmi
     have hxi : xs[i]? = some xs[i] := List.getElem?_eq_getElem hix
     generalize xs[i] = pr at hgi hki hmi hxi
     obtain ⟨k', c'⟩ := pr
     rw [hgi]
     refine led_if (seen_tuple hx _ (fun y hy => ?_) ⟨rfl, rfl⟩) ?_
     · obtain ⟨e, he', rfl⟩ := List.mem_map.mp hy
       have he2 : e ∈ es.toList := by
         rw [Array.toList_filter] at he'
         exact (List.mem_filter.mp he').1
       rw [hes] at he2
       obtain ⟨p', hp', rfl⟩ := List.mem_map.mp he2
       exact ⟨p'.2, p'.1, rfl, hk _ hp'⟩
     · unfold tEl
       dsimp only
       refine wpAny_bind (wpAny_holding (wpAny_eqBool_tuple hu hki hx ?_))
       refine wpAny_bind (wpAny_setState_of ho hdat hf ?_)
       by_cases hkk : k' = k
       · rw [decide_eq_true hkk]
         simp only [Bool.and_self, if_true]
         exact wpAny_pure (qo ⟨_, hmi, hkk⟩)
       rw [decide_eq_false hkk]
       simp only [Bool.and_false, Bool.false_eq_true, if_false]
       have hsm : t.sameMemory t.moves t.mask = some true := by unfold SetTable.sameMemory; simp
       rw [hsm]
       simp only [if_true]
       rw [h3]
       dsimp only
       rw [hgi]
       unfold tEl
       dsimp only
       refine wpAny_bind (wpAny_isSame_ref_self ?_)
       refine wpAny_bind (wpAny_pure ?_)
       simp only [if_true]
       have hmn : m < n := by
         rcases Nat.lt_or_eq_of_le h1 with z | z
         · exact z
         · exfalso
           subst z
           rw [hadv, hc] at h3
           rcases hN with y | ⟨i', k1, c1, y1, y2, y3⟩
           · rw [y] at h3; cases h3
           · rw [y1] at h3
             injection h3 with h3
             subst h3
             rw [hxi] at y2
             have := Option.some.inj y2
             injection this with e1 _
             exact hkk (e1.trans y3)
       refine ih (n - (m + 1)) (by omega) (c0 + (m + 1)) fuel (some (advN t (m + 1) (advN t c0 (t.probeStart (tupleKeyHash knd k))))) (by omega) (hadv (m + 1)) (by rw [← hadv]; exact h5) (by omega)
variable (knd) in
structure TObj2 (o : Obj) (es : Array (Int × Value)) (ep : Nat) (t : SetTable) (xs : List (List K × Addr)) : Prop where
 ex : o.ExactSet
 data : o.data = .set es ep t
 els : ∃ ys : List (List K × Addr), ys.Perm xs ∧ es.toList = ys.map (tEl knd)
 ok : OkT t es.size
 msk : Msk t.mask
 few : es.size ≤ 12
 sm : t.mask = 7 → es.size ≤ 4
 led : t.led = !w.params.followText "set-order"
 fnd : Fnd t es
theorem TObj2.len {o : Obj} {es : Array (Int × Value)} {ep : Nat} {t : SetTable} {xs : List (List K × Addr)} (X : TObj2 knd o es ep t xs) : es.size = xs.length := by
 obtain ⟨ys, h1, h2⟩ := X.els
 rw [← Array.length_toList, h2, List.length_map, h1.length_eq]
theorem first_nat {P : Nat → Prop} : ∀ n, P n → ∃ m, m ≤ n ∧ P m ∧ ∀ k, k < m → ¬ P k := by
 intro n
 induction n using Nat.strongRecOn with
 | ind n ih =>
   intro h
   by_cases z : ∃ k, k < n ∧ P k
   · obtain ⟨k, h1, h2⟩ := z
     obtain ⟨m, g1, g2, g3⟩ := ih k h1 h2
     exact ⟨m, by omega, g2, g3⟩
   · exact ⟨n, Nat.le_refl _, h, fun k hk hp => z ⟨k, hk, hp⟩⟩
theorem tset_any {a c : Addr} {o : Obj} {es : Array (Int × Value)} {ep : Nat} {t : SetTable} {xs : List (List K × Addr)} {k : List K} {Q : Bool → Shared → Prop} (hu : A.units < cLine) (ho : s.heap.get? a = some o) (X : TObj2 knd o es ep t xs) (hk : ∀ p ∈ xs, IsTupleKey knd s.heap p.1 p.2) (hx : IsTupleKey knd s.heap k c) (hl8 : (∀ p ∈ xs, p.1 ≠ k) → xs.length < 12)
   (qo : (∃ p ∈ xs, p.1 = k) → Q false s)
   (h : (∀ p ∈ xs, p.1 ≠ k) → ∀ h', Heap.SameBut a s.heap h' → (∃ o es ep t, h'.get? a = some o ∧ TObj2 knd o es ep t (xs ++ [(k, c)])) → Q true { s with heap := h' }) :
   wpAny (model prog w) A (setAddHashed a (.ref c) (tupleKeyHash knd k)) Q E s := by
 obtain ⟨ys, hp, hes⟩ := X.els
 have hlen := X.len
 have hpl : t.place.size = es.size := by
   have hf := X.ok.fits
   unfold SetTable.fits at hf
   have := (Bool.and_eq_true_iff.mp hf).1
   simpa using this
 have hmk : es.size ≤ t.mask := by
   have hf := X.ok.fits
   unfold SetTable.fits SetTable.fill at hf
   have := (Bool.and_eq_true_iff.mp hf).2
   have := of_decide_eq_true this
   omega
 have hgw : t.gaveWay = false := by
   unfold SetTable.gaveWay
   rcases X.msk with z | z <;> rw [z] <;> rfl
 unfold setAddHashed setAddHashedIn
 refine wpAny_holding (wpAny_bind (wpAny_setState_of ho X.data X.ok.fits ?_))
 dsimp only
 have hbs : byScan (.ref c) es = false := rfl
 rw [hbs]
 simp only [Bool.false_eq_true, if_false]
 obtain ⟨n0, hn0, he0⟩ := reach X.msk X.ok.nd (by omega) (PrOk.start t (tupleKeyHash knd k))
 have ht : SetTable.turns t.mask ≤ 46 := by
   unfold SetTable.turns
   rcases X.msk with z | z <;> rw [z] <;> decide
 obtain ⟨N1, hN1, he1, hm1⟩ := first_nat (P := fun n => t.slot (advN t n (t.probeStart (tupleKeyHash knd k))).j = .empty) n0 he0
 have live_of : ∀ j, t.slot j ≠ .empty → ∃ i, t.slot j = .live i := fun j hj => by
   cases hs : t.slot j with
   | empty => exact absurd hs hj
   | dummy => exact absurd hs (no_dummy X.ok.nd j)
   | live i => exact ⟨i, rfl⟩
 unfold setSearch
 by_cases hold : ∃ p ∈ xs, p.1 = k
 · obtain ⟨p, hpx, hpk⟩ := hold
   obtain ⟨i, hi, ei⟩ := List.getElem_of_mem (hp.mem_iff.mpr hpx)
   have hies : i < es.toList.length := by rw [hes, List.length_map]; exact hi
   have hipl : i < t.place.toList.length := by rw [Array.length_toList] at hies ⊢; omega
   have hei : es.toList[i] = tEl knd p := by
     have : es.toList[i]? = some (tEl knd p) := by rw [hes, List.getElem?_map, List.getElem?_eq_getElem hi, ei]; rfl
     rw [List.getElem?_eq_getElem hies] at this
     exact Option.some.inj this
   have hz : (t.place.toList[i], es.toList[i]) ∈ t.place.toList.zip es.toList := by
     have hzl : i < (t.place.toList.zip es.toList).length := by rw [List.length_zip]; omega
     have := List.getElem_mem hzl
     rw [List.getElem_zip] at this
     exact this
   obtain ⟨N, g1, g2⟩ := X.fnd _ hz
   have hh : (t.place.toList[i], es.toList[i]).2.1 = tupleKeyHash knd k := by
     show (es.toList[i]).1 = _
     rw [hei]
     show tupleKeyHash knd p.1 = _
     rw [hpk]
   rw [hh] at g1 g2
   have hlN : ∀ m, m < N → ∃ i, t.slot (advN t m (t.probeStart (tupleKeyHash knd k))).j = .live i := fun m hm => slot_at X.ok.ris (g2 m hm)
   obtain ⟨iN, hiN⟩ := slot_at X.ok.ris (j := t.place.toList[i]) (List.getElem_mem hipl)
   have hiN' : iN = i := by
     have h1 := slot_place hiN
     have hlt : iN < t.place.size := slot_live hiN
     rw [Array.getElem?_eq_getElem hlt] at h1
     have h2 := Option.some.inj h1
     rw [Array.getElem_toList] at h2
     rw [Array.length_toList] at hipl
     rcases Nat.lt_trichotomy iN i with z | z | z
     · have := X.ok.ris iN i hlt hipl z; omega
     · exact z
     · have := X.ok.ris i iN hipl hlt z; omega
   subst hiN'
   have hNT : N < 10 * SetTable.turns t.mask := by
     refine Nat.lt_of_lt_of_le (m := N1) ?_ (by omega)
     refine Nat.lt_of_not_le fun z => ?_
     rcases Nat.lt_or_eq_of_le z with y | y
     · obtain ⟨i', hi'⟩ := hlN N1 y
       rw [he1] at hi'; cases hi'
     · subst y
       rw [g1] at he1
       have he1' : t.slot t.place.toList[iN] = .empty := he1
       rw [hiN] at he1'; cases he1'
   refine wpAny_bind (search_any (es := es) (xs := ys) hu ho X.data X.ok.fits X.ok.nd hgw hes (fun p hp' => hk p (hp.mem_iff.mp hp')) hx (N := N) (.inr ⟨iN, p.1, p.2, by rw [g1]; exact hiN, by rw [List.getElem?_eq_getElem hi, ei], hpk⟩) hlN hNT (fun hq => ?_) (fun z => ?_) N 0 100000 none (Nat.zero_add _) rfl (PrOk.start t _) (by omega))
   · dsimp only
     exact wpAny_pure (qo ⟨p, hpx, hpk⟩)
   · exfalso
     rw [g1] at z
     have z' : t.slot t.place.toList[iN] = .empty := z
     rw [hiN] at z'; cases z'
 have hno : ∀ p ∈ xs, p.1 ≠ k := fun p h1 h2 => hold ⟨p, h1, h2⟩
 have hl12 := hl8 hno
 refine wpAny_bind (search_any (es := es) (xs := ys) hu ho X.data X.ok.fits X.ok.nd hgw hes (fun p hp' => hk p (hp.mem_iff.mp hp')) hx (N := N1) (.inl he1) (fun m hm => live_of _ (hm1 m hm)) (by omega) (fun hq => absurd (let ⟨p, h1, h2⟩ := hq; ⟨p, hp.mem_iff.mp h1, h2⟩) hold) (fun hj => ?_) N1 0 100000 none (Nat.zero_add _) rfl (PrOk.start t _) (by omega))
 dsimp only
 refine wpAny_bind (wpAny_setState_of ho X.data X.ok.fits ?_)
 dsimp only
 rw [put_slot X.ok.nd]
 dsimp only
 have hput := fun (t' : SetTable) (m1 : t'.mask = t.mask) (m2 : t'.place = SetTable.insertAt t.place (SetTable.below t.place (advN t N1 (t.probeStart (tupleKeyHash knd k))).j) (advN t N1 (t.probeStart (tupleKeyHash knd k))).j) => X.fnd.put hpl (x := (tupleKeyHash knd k, Value.ref c)) m1 m2 rfl (fun m hm => by
   obtain ⟨i, hi⟩ := live_of _ (hm1 m hm)
   have := slot_place hi
   obtain ⟨hlt, h3⟩ := Array.getElem?_eq_some_iff.mp this
   rw [← h3]; exact Array.mem_toList_iff.mpr (Array.getElem_mem hlt))
 generalize (advN t N1 (t.probeStart (tupleKeyHash knd k))).j = j at hj hput ⊢
 have hperm := SetTable.insertAt_perm es (SetTable.below t.place j) (tupleKeyHash knd k, Value.ref c)
 have hris := ins_ris X.ok.ris (slot_empty hj)
 have hpp := SetTable.insertAt_perm t.place (SetTable.below t.place j) j
 have hps : (SetTable.insertAt t.place (SetTable.below t.place j) j).size = es.size + 1 := by
   rw [← Array.length_toList, hpp.length_eq, Array.length_toList, Array.size_push, hpl]
 generalize SetTable.insertAt t.place (SetTable.below t.place j) j = pl1 at hris hps hput
 generalize SetTable.insertAt es (SetTable.below t.place j) (tupleKeyHash knd k, Value.ref c) = es1 at hperm hput
 have hs1 : es1.size = es.size + 1 := by rw [← Array.length_toList, hperm.length_eq, Array.length_toList, Array.size_push]
 obtain ⟨ys1, ey1, py1⟩ := perm_of_map (f := tEl knd) (m := ys ++ [(k, c)]) hperm (by rw [Array.toList_push, hes, List.map_append]; rfl)
 have hpx : ys1.Perm (xs ++ [(k, c)]) := py1.trans (hp.append_right _)
 have hf8 := X.few
 have hsz8 : es1.size ≤ 12 := by omega
 have hl1 : es1.size ≤ sizeLine := by rw [sizeLine_eq]; omega
 have tail : ∀ t1 : SetTable, t1.mask = t.mask → t1.place = pl1 → t1.dummies = #[] → t1.led = t.led → wpAny (model prog w) A (storeSet a es1 t1 >>= fun _ => if (!false && t1.tooFull) = true then (setRelay a (SetTable.grown (es.size + 1)) >>= fun _ => pure true) else pure true) Q E s := by
   intro t1 m1 m2 m3 m4
   have hok : OkT t1 es1.size := ⟨by
     unfold SetTable.fits SetTable.fill
     rw [m1, m2, m3, hps, hs1]
     rcases X.msk with z | z
     · have := X.sm z
       rw [z]; simp; omega
     · rw [z]; simp; omega, by rw [m2]; exact hris, m3⟩
   refine wpAny_bind (wpAny_storeSet_of ho X.data ?_ hl1)
   have hsb := Heap.SameBut.update s.heap a (Obj.putSet es1 t1)
   have ho1 : (s.heap.update a (Obj.putSet es1 t1)).get? a = some { o with data := .set es1 (ep + 1) t1 } := by
     have := Heap.get?_update_self (Obj.putSet es1 t1) ho (by rw [putSet_of es1 t1 X.data]; rfl)
     rw [putSet_of es1 t1 X.data] at this; exact this
   generalize s.heap.update a (Obj.putSet es1 t1) = h1 at hsb ho1 ⊢
   have hfill : t1.fill = es1.size := by unfold SetTable.fill; rw [m2, m3, hps, hs1]; rfl
   by_cases hfull : t1.tooFull = true
   · rw [hfull]
     simp only [Bool.not_false, Bool.and_self, if_true]
     have hff : es1.size * 5 ≥ t1.mask * 3 := by
       unfold SetTable.tooFull at hfull
       rw [hfill] at hfull
       exact of_decide_eq_true hfull
     have h5 : es.size + 1 = 5 := by
       rw [m1] at hff
       rcases X.msk with z | z
       · have := X.sm z
         rw [z] at hff; omega
       · rw [z] at hff; omega
     rw [h5]
     refine wpAny_bind ?_
     unfold setRelay
     refine wpAny_bind (wpAny_setState_of ho1 rfl hok.fits ?_)
     dsimp only
     rw [sab20]
     have hle : ¬ 32 > sizeLine := by rw [sizeLine_eq]; omega
     rw [if_neg hle]
     obtain ⟨t2, order, el, e1, e2, e3, e4, e5, e6⟩ := laid_ok (mask := 31) (by unfold Mk3; simp) t1.finger (t1.movedTo 31) t1.led t1.plain (hashes := es1.map (·.1)) (by rw [Array.size_map]; omega)
     have hfn := laid_fnd (by unfold Mk3; simp) (by omega) el
     rw [Array.size_map] at e5 e6
     have erl : t1.relaid (es1.map (·.1)) (SetTable.grown 5) = some (t2, order) := by
       unfold SetTable.relaid
       rw [sab20]; exact el
     obtain ⟨hs2, hp2⟩ := wp_reorder (t := t2) e6
     rw [erl]
     refine wpAny_bind ?_
     show wpAny _ _ (if ((order.filterMap (es1[·]?)).size != es1.size) = true then _ else pure (order.filterMap (es1[·]?), t2)) _ _ _
     rw [hs2]
     simp only [bne_self_eq_false, Bool.false_eq_true, if_false]
     refine wpAny_pure ?_
     dsimp only
     refine wpAny_storeSet_of ho1 rfl ?_ (by rw [hs2]; exact hl1)
     generalize hE2 : order.filterMap (es1[·]?) = es2 at hs2 hp2 hfn
     have ho2 : (h1.update a (Obj.putSet es2 t2)).get? a = some { o with data := .set es2 (ep + 1 + 1) t2 } := by
       have := Heap.get?_update_self (Obj.putSet es2 t2) ho1 (by rw [putSet_of es2 t2 rfl]; rfl)
       rw [putSet_of es2 t2 rfl] at this; exact this
     obtain ⟨ys2, ey2, py2⟩ := perm_of_map (f := tEl knd) hp2 ey1
     refine wpAny_pure (h hno _ (hsb.trans (Heap.SameBut.update _ a _)) ⟨_, es2, _, t2, ho2, ⟨X.ex, rfl, ⟨ys2, py2.trans hpx, ey2⟩, ⟨?_, e4, e3⟩, .inr e1, by omega, (fun z => by rw [e1] at z; cases z), by rw [e2, m4]; exact X.led, hfn⟩⟩)
     unfold SetTable.fits SetTable.fill
     rw [e5, e3, e1, hs2]
     simp; omega
   · rw [Bool.eq_false_iff.mpr hfull]
     simp only [Bool.and_false, Bool.false_eq_true, if_false]
     refine wpAny_pure (h hno _ hsb ⟨_, es1, _, t1, ho1, ⟨X.ex, rfl, ⟨ys1, hpx, ey1⟩, hok, by rw [m1]; exact X.msk, hsz8, fun z => ?_, by rw [m4]; exact X.led, hput t1 m1 m2⟩⟩)
     have hff : ¬ es1.size * 5 ≥ t1.mask * 3 := fun y => hfull (by
       unfold SetTable.tooFull
       rw [hfill]; exact decide_eq_true y)
     rw [z] at hff
     omega
 split
 · refine wpAny_bind (hashBy_tuple hx fun b => ?_)
   cases b
   · exact tail _ rfl rfl X.ok.nd rfl
   · exact tail _ rfl rfl X.ok.nd rfl
 · refine wpAny_bind (wpAny_pure ?_)
   exact tail _ rfl rfl X.ok.nd rfl
end
end L2
namespace L2
open PySem PySem.Spec PyProof.Rows PySem.W
section
variable {prog : Program} {w : World} {K : Type} [DecidableEq K] {knd : KeyKind prog w K} {A : Around} {R : Result → Shared → Prop} {I : Addr} {fp wr : List Addr} {G : Array GenState → Array GenState → Prop} {n : Nat} {P : Nat → Value → Prop} {St : Nat → Shared → Prop}
def TupU (knd : KeyKind prog w K) (val : Nat → List K) (adr : Nat → Addr) (S : Addr) (i : Nat) (h : Heap) : Prop := ∃ o es ep t, ∃ js : List Nat, h.get? S = some o ∧ TObj2 knd o es ep t (js.map fun j => (val j, adr j)) ∧ (∀ j ∈ js, j < i) ∧ (js.map val).Nodup ∧ ∀ j, j < i → ∃ j' ∈ js, val j' = val j
theorem TupU.at' {val : Nat → List K} {adr : Nat → Addr} {S : Addr} {i : Nat} {h h' : Heap} (x : TupU knd val adr S i h) (e : ∀ o, h.get? S = some o → h'.get? S = some o) : TupU knd val adr S i h' := let ⟨o, es, ep, t, js, ho, r⟩ := x; ⟨o, es, ep, t, js, e _ ho, r⟩
theorem uset_loop (W : WalksS prog w A.in1 I fp wr G n P St) (S : Addr) (hSf : S ∉ fp) (hu : A.in1.units < cLine)
   (val : Nat → List K) (adr : Nat → Addr) (hadr : ∀ j, j < n → adr j ∉ S :: wr) (hval : ∀ i v, P i v → v = .ref (adr i)) (L : List (List K)) (hL : L.length ≤ 12) (hb : ∀ j, j < n → val j ∈ L) :
   ∀ (k i : Nat) (s : Shared), n - i = k → i ≤ n → St i s → (∀ j, j < n → IsTupleKey knd s.heap (val j) (adr j)) →
     TupU knd val adr S i s.heap →
     (∀ s', Moved (S :: wr) G s s' → TupU knd val adr S n s'.heap → R (.ok (.ret .none)) s') →
     codeAny (model prog w) A (.builtin "set.update.loop" ⟨[.ref S, .ref I], []⟩) R s := by
 have hSw : S ∉ wr := fun h => hSf (W.sub _ h)
 have hsub : ∀ b ∈ wr, b ∈ S :: wr := fun b hb => List.mem_cons_of_mem _ hb
 intro k
 induction k with
 | zero =>
   intro i s hk hi hst hT hS hR
   have hin : i = n := by omega
   subst hin
   refine codeAny_builtin PyProof.Rows.F.entry_set_update_loop ?_
   rw [Around.under_plainId PyProof.Rows.F.plain_set_update_loop _]
   show wpAny _ A.in1 (pyNext (.ref I) >>= _) _ _ s
   refine wpAny_bind (W.done s _ _ hst fun s' hm => ?_)
   show wpAny _ A.in1 (ret Value.none) _ _ s'
   exact wpAny_pure (hR s' (hm.mono hsub) (hS.at' fun o e => hm.heap S _ hSw e))
 | succ k ih =>
   intro i s hk hi hst hT hS hR
   have hlt : i < n := by omega
   refine codeAny_builtin PyProof.Rows.F.entry_set_update_loop ?_
   rw [Around.under_plainId PyProof.Rows.F.plain_set_update_loop _]
   show wpAny _ A.in1 (pyNext (.ref I) >>= _) _ _ s
   refine wpAny_bind (W.item i s _ _ hlt hst fun v s' hP hst' hm => ?_)
   obtain rfl := hval i v hP
   have hS' := hS.at' (h' := s'.heap) fun o e => hm.heap S _ hSw e
   have hT' : ∀ j, j < n → IsTupleKey knd s'.heap (val j) (adr j) := fun j hj => key_at (hT j hj) fun o e => hm.heap _ _ (fun z => hadr j hj (hsub _ z)) e
   show wpAny _ A.in1 (holding [.ref (adr i)] (setAdd S (.ref (adr i))) >>= _) _ _ s'
   refine wpAny_bind (wpAny_holding ?_)
   unfold setAdd
   refine wpAny_holding ?_
   refine wpAny_bind (wpAny_pyHash_tuple hu (hT' i hlt) ?_)
   obtain ⟨o, es, ep, t, js, ho, X, hj1, hj2, hj3⟩ := hS'
   have fin : ∀ (b : Bool) (h' : Heap), (∀ c, c ≠ S → h'.get? c = s'.heap.get? c) → TupU knd val adr S (i + 1) h' → wpAny (model prog w) A.in1 (pure b >>= fun _ => again (.builtin "set.update.loop" ⟨[.ref S, .ref I], []⟩)) (fun fi s2 => match fi with | .done f => R (.ok f) s2 | .again c => c.quiet = true ∧ codeAny (model prog w) A c R s2) (fun e s2 => R (.error e) s2) { s' with heap := h', toks := s'.toks + ((val i).length + 1) } := by
     intro b h' hsb hSi
     refine wpAny_bind (wpAny_pure ?_)
     refine wpAny_pure ⟨plainId_quiet PyProof.Rows.F.plain_set_update_loop _, ih (i + 1) _ (by omega) hlt (W.frame _ s' _ _ hst' (Nat.le_add_right _ _) fun b hb o e => ?_) (fun j hj => key_at (hT' j hj) fun o e => ?_) hSi fun s'' hm'' hS'' => ?_⟩
     · rw [hsb b (fun h : b = S => hSf (by rw [← h]; exact hb))]; exact e
     · show h'.get? (adr j) = some o
       rw [hsb (adr j) (fun h : adr j = S => hadr j hj (by rw [h]; exact List.mem_cons_self))]; exact e
     · refine hR s'' (Moved.trans W.gtrans ((hm.mono hsub).then_heap (Nat.le_add_right _ _) fun b o hb e => ?_) hm'') hS''
       rw [hsb b (fun h : b = S => hb (by rw [h]; exact List.mem_cons_self))]; exact e
   refine tset_any (knd := knd) (s := { s' with toks := s'.toks + ((val i).length + 1) }) (xs := js.map fun j => (val j, adr j)) hu ho X (fun p hp => ?_) (hT' i hlt) (fun hno => ?_) (fun hq => ?_) (fun hno h' hsb hS2 => ?_)
   · obtain ⟨j, hj, rfl⟩ := List.mem_map.mp hp
     exact hT' j (by have := hj1 j hj; omega)
   · rw [List.length_map]
     have hnd : (val i :: js.map val).Nodup := List.nodup_cons.mpr ⟨fun z => by
       obtain ⟨j, hj, e⟩ := List.mem_map.mp z
       exact hno (val j, adr j) (List.mem_map.mpr ⟨j, hj, rfl⟩) e, hj2⟩
     have := List.Nodup.length_le_of_subset hnd (l₂ := L) fun x hx => by
       rcases List.mem_cons.mp hx with rfl | hx
       · exact hb i hlt
       · obtain ⟨j, hj, rfl⟩ := List.mem_map.mp hx
         exact hb j (by have := hj1 j hj; omega)
     rw [List.length_cons, List.length_map] at this
     omega
   · obtain ⟨p, hp, hpk⟩ := hq
     obtain ⟨j, hj, rfl⟩ := List.mem_map.mp hp
     refine fin false s'.heap (fun _ _ => rfl) ⟨o, es, ep, t, js, ho, X, fun j hj => by have := hj1 j hj; omega, hj2, fun j' hj' => ?_⟩
     by_cases z : j' = i
     · subst z; exact ⟨j, hj, hpk⟩
     · exact hj3 j' (by omega)
   · obtain ⟨o2, es2, ep2, t2, ho2, X2⟩ := hS2
     refine fin true h' hsb.2 ⟨o2, es2, ep2, t2, js ++ [i], ho2, by rw [List.map_append]; exact X2, fun j hj => ?_, ?_, fun j' hj' => ?_⟩
     · rcases List.mem_append.mp hj with z | z
       · have := hj1 j z; omega
       · rw [List.mem_singleton] at z; omega
     · rw [List.map_append]
       refine List.nodup_append.mpr ⟨hj2, by simp, fun x hx y hy e => ?_⟩
       obtain ⟨j, hj, rfl⟩ := List.mem_map.mp hx
       have hy' : y = val i := by simpa using hy
       exact hno (val j, adr j) (List.mem_map.mpr ⟨j, hj, rfl⟩) (e.trans hy')
     · by_cases z : j' = i
       · subst z; exact ⟨j', by simp, rfl⟩
       · obtain ⟨j, hj, e⟩ := hj3 j' (by omega)
         exact ⟨j, List.mem_append_left _ hj, e⟩
end
section
variable {prog : Program} {w : World} {K : Type} [DecidableEq K] {knd : KeyKind prog w K} {A : Around} {E : Value → Shared → Prop} {s : Shared}
theorem uset_list {l : Addr} {items : Array Value} {val : Nat → List K} {adr : Nat → Addr} {Q : Value → Shared → Prop}
   (hh : A.handled = none) (hl : s.heap.IsList l items) (hu : A.in1.in1.in1.units < cLine) (hval : ∀ (i : Nat) v, items[i]? = some v → v = .ref (adr i)) (L : List (List K)) (hL : L.length ≤ 12) (hb : ∀ j, j < items.size → val j ∈ L) (hTk : ∀ j, j < items.size → IsTupleKey knd s.heap (val j) (adr j))
   (h : ∀ (h' : Heap) (tk : Nat), TupU knd val adr s.heap.objs.size items.size h' →
     (∀ b o, b < s.heap.objs.size → s.heap.get? b = some o → h'.get? b = some o) → Q (.ref s.heap.objs.size) { s with heap := h', toks := tk }) :
   wpAny (model prog w) A (call (.type "set") [.ref l]) Q E s := by
 obtain ⟨c, tl, hmro⟩ := PySem.F.called_set.mro
 have hmade := PySem.F.called_set.made
 have hsub := PySem.F.called_set.sub
 refine wpAny_call (codeAny_of_tree ?_)
 show wpAny _ _ (callAny (.type "set") _) _ _ _
 refine wpAny_pure ⟨Code.quiet_builtin _ (by decide +kernel), codeAny_builtin PySem.F.entry_type_call ?_⟩
 rw [Around.under_plain (weight_type_call_type "set" [.ref l] []) rfl]
 have h1 := PySem.F.called_set.notType
 have h2 := PySem.F.called_set.canCreate
 have hct := PySem.F.typeCall_set_1 (.ref l)
 repeat (any_goals (first | assumption | wp_step))
 refine codeAny_mono (kset_new (.ref l) (E := E) (Q₁ := fun obj s₁ => obj = .ref s.heap.objs.size ∧ s₁ = { s with heap := s.heap.push { cls := .type "set", dict := none, data := .set #[] 0 (.fresh 0 0 (!w.params.followText "set-order")) } }) ⟨rfl, rfl⟩) fun r s₁ hr => ?_
 cases r with
 | error e => exact hr
 | ok fl =>
   cases fl with
   | ret obj =>
     obtain ⟨rfl, rfl⟩ := hr
     generalize hled : (!w.params.followText "set-order") = led
     have hS : (s.heap.push { cls := .type "set", dict := none, data := .set #[] 0 (.fresh 0 0 led) }).get? s.heap.objs.size = some { cls := .type "set", dict := none, data := .set #[] 0 (.fresh 0 0 led) } := Heap.get?_push_size _ rfl
     have hT : Shared.TypeIs { s with heap := s.heap.push { cls := .type "set", dict := none, data := .set #[] 0 (.fresh 0 0 led) } } (.ref s.heap.objs.size) "set" := ⟨_, hS, rfl⟩
     have hli := PySem.F.called_set.init.lookup
     have hbi := PySem.F.called_set.init.bind (.ref s.heap.objs.size)
     repeat (any_goals (first | assumption | wp_step))
     refine codeAny_mono (codeAny_call_builtin (R := wants (fun r s₂ => r = .none ∧ ∃ h' tk, s₂ = { s with heap := h', toks := tk } ∧
         TupU knd val adr s.heap.objs.size items.size h' ∧
         (∀ b o, b < s.heap.objs.size → s.heap.get? b = some o → h'.get? b = some o)) E) PySem.F.called_set.init.plain PySem.F.entry_set_init (check_set_init_1 hT ?_)) fun r₂ s₂ hr₂ => ?_
     · obtain ⟨ol, hol, hcl, nl, hdl⟩ := hl
       obtain ⟨ocls, odict, odata, oslots⟩ := ol
       simp only at hcl hdl
       subst hcl; subst hdl
       have hol' : (s.heap.push { cls := .type "set", dict := none, data := .set #[] 0 (.fresh 0 0 led) }).get? l = some { cls := .type "list", dict := odict, data := .seq items nl, slots := oslots } := Heap.get?_push_of_some _ hol
       have hsls := PySem.F.sub_list_set
       have hslf := PySem.F.sub_list_frozenset
       have hne : (Value.type "list" == Value.type "dict") = false := by decide
       have hl1 : (s.heap.push { cls := .type "set", dict := none, data := .set #[] 0 (.fresh 0 0 led) }).IsList l items := ⟨_, hol', rfl, nl, rfl⟩
       unfold Builtin.«set.__init__» noKeywords Builtin.Frozenset.updateFrom
       generalize hPI : pyIter = PI
       wp_walk
       subst hPI
       refine wpAny_pyIter_list hl1 ?_
       refine wpAny_bind (wpAny_runValue ?_)
       have hlS : l < s.heap.objs.size := Heap.lt_size hol
       have hh3 : A.in1.in1.in1.handled = none := by simp [hh]
       have hneI : l ≠ (s.heap.push { cls := .type "set", dict := none, data := .set #[] 0 (.fresh 0 0 led) }).objs.size := by
         rw [Heap.size_push]; exact Nat.ne_of_lt (Nat.lt_succ_of_lt hlS)
       have hSf : s.heap.objs.size ∉ [(s.heap.push { cls := .type "set", dict := none, data := .set #[] 0 (.fresh 0 0 led) }).objs.size, l] := by
         rw [Heap.size_push]; simp only [List.mem_cons, List.mem_singleton, List.not_mem_nil, or_false, not_or]
         exact ⟨Nat.ne_of_lt (Nat.lt_succ_self _), Nat.ne_of_gt hlS⟩
       have hlt0 : ∀ j, j < items.size → adr j < s.heap.objs.size := fun j hj => by
         obtain ⟨o, _, _, ho, _⟩ := hTk j hj
         exact Heap.lt_size ho
       refine uset_loop (knd := knd) ((Walks.list hh3 _ l hneI items).toS) s.heap.objs.size
         hSf hu val adr (fun j hj => by
           have := hlt0 j hj
           simp only [List.mem_cons, List.mem_singleton, List.not_mem_nil, or_false, not_or, Heap.size_push]
           exact ⟨Nat.ne_of_lt this, Nat.ne_of_lt (Nat.lt_succ_of_lt this)⟩) hval L hL hb (items.size - 0) 0 _ (by omega) (Nat.zero_le _)
         ⟨⟨_, Heap.get?_push_size _ rfl, rfl, rfl⟩, (hl1.push _)⟩ (fun j hj => key_at (hTk j hj) fun o e => Heap.get?_push_of_some _ (Heap.get?_push_of_some _ e)) ?hS0 ?hR
       case hS0 =>
         have hget : ((s.heap.push { cls := .type "set", dict := none, data := .set #[] 0 (.fresh 0 0 led) }).push { cls := .type "list_iterator", data := .fields #[.ref l, .int 0 0] }).get? s.heap.objs.size
             = some { cls := .type "set", dict := none, data := .set #[] 0 (.fresh 0 0 led) } := Heap.get?_push_of_some _ hS
         rw [← hled] at hget
         rw [hled] at hget
         exact ⟨_, #[], 0, _, [], hget, ⟨⟨rfl, rfl, rfl⟩, rfl, ⟨[], .nil, rfl⟩, okT_fresh _, .inl rfl, by decide, fun _ => by decide, hled.symm, fun z hz => by simp [SetTable.fresh] at hz⟩, fun j hj => absurd hj List.not_mem_nil, List.nodup_nil, fun j hj => absurd hj (Nat.not_lt_zero _)⟩
       case hR =>
         intro s' hm hS'
         obtain ⟨h', g', d', tk', os'⟩ := s'
         have eg : g' = s.gens := hm.gens
         have ed : d' = s.drawn := hm.drawn
         have eo : os' = s.os := hm.os
         subst eg; subst ed; subst eo
         show wpAny _ _ _ _ _ _
         refine wpAny_pure ?_
         show wpAny _ _ (ret Value.none) _ _ _
         refine wpAny_pure ⟨rfl, h', tk', rfl, hS', fun b o hb e => ?_⟩
         have hb1 : b ≠ s.heap.objs.size := Nat.ne_of_lt hb
         have hb2 : b ≠ (s.heap.push { cls := .type "set", dict := none, data := .set #[] 0 (.fresh 0 0 led) }).objs.size := by
           rw [Heap.size_push]; exact Nat.ne_of_lt (Nat.lt_succ_of_lt hb)
         exact hm.heap b o (by simp only [List.mem_cons, List.mem_singleton, List.not_mem_nil, or_false, not_or]; exact ⟨hb1, hb2⟩) (Heap.get?_push_of_some _ (Heap.get?_push_of_some _ e))
     · cases r₂ with
       | error e => exact hr₂
       | ok fl₂ =>
         cases fl₂ with
         | ret r =>
           obtain ⟨rfl, h', tk, rfl, hS', hk'⟩ := hr₂
           repeat (any_goals (first | assumption | wp_step))
           exact h _ _ hS' hk'
         | _ => exact hr₂.elim
   | _ => exact hr.elim
end
def SetU (P : Program) (w : World) (p : Addr) (ms : List Msg) : HO := .ext fun h => ∃ o es ep t, ∃ ds : List (Msg × Addr), h.get? p = some o ∧ TObj2 (mixKind P w) o es ep t (ds.map fun p => (mKey p.1, p.2)) ∧ (ds.map (·.1)).Nodup ∧ ∀ m, m ∈ ds.map (·.1) ↔ m ∈ ms
section
variable {X : Cx}
def rSetU (P : Program) (w : World) (K : W.Frag) : List V → Hp → VK → Prop := fun us H Q => ∃ (a : Addr) (xs : List (Msg × Addr)) (L : List Msg), us = [.ref a] ∧ SqL K H a (xs.map fun p => V.ref p.2) ∧ (∀ p ∈ xs, H p.2 = some (mT p.1)) ∧ (∀ p ∈ xs, p.1 ∈ L) ∧ L.length ≤ 12 ∧ ∀ p, H p = none → Q (.ref p) (upd H p (SetU P w p (xs.map (·.1))))
theorem call_setU (hc : X.calm = true) (hu : X.A.in1.in1.in1.units < cLine) : CallR X (.type "set") (rSetU X.prog X.w X.K) := by
 intro pins s σ H us ws Q I r h
 obtain ⟨a, xs, L, rfl, ha, hk, hnd, h8, q⟩ := h
 obtain ⟨u, rfl, ru⟩ := vals1 r
 cases ru
 obtain ⟨its, rv, pl, hz⟩ := I.list ha
 have hl := rv.length
 rw [List.length_map] at hl
 let d : Msg × Addr := (⟨0, "", ""⟩, 0)
 have hgd : ∀ (j : Nat) (hj : j < xs.length), xs.getD j d = xs[j] := fun j hj => by rw [List.getD_eq_getElem?_getD, List.getElem?_eq_getElem hj]; rfl
 refine uset_list (knd := mixKind X.prog X.w) (val := fun i => mKey (xs.getD i d).1) (adr := fun i => (xs.getD i d).2) (I.ok.hd hc) pl.isList hu (fun i v hv => ?_) (L.map mKey) (by rw [List.length_map]; exact h8) (fun j hj => ?_) (fun j hj => ?_) fun h' tk hS hk' => ?_
 · have hv' : its[i]? = some v := by simpa using hv
   obtain ⟨x, hx, rx⟩ := vals_at rv hv'
   rw [List.getElem?_map] at hx
   cases hki : xs[i]? with
   | none => rw [hki] at hx; cases hx
   | some p =>
     rw [hki] at hx
     cases hx
     have e : xs.getD i d = p := by rw [List.getD_eq_getElem?_getD, hki]; rfl
     show v = .ref (xs.getD i d).2
     rw [e]; exact rx
 · rw [List.size_toArray] at hj
   have hj' : j < xs.length := by omega
   show mKey (xs.getD j d).1 ∈ _
   rw [hgd j hj']
   exact List.mem_map.mpr ⟨_, hnd _ (List.getElem_mem hj'), rfl⟩
 · rw [List.size_toArray] at hj
   have hj' : j < xs.length := by omega
   show IsTupleKey (mixKind X.prog X.w) s.heap (mKey (xs.getD j d).1) (xs.getD j d).2
   rw [hgd j hj']
   have hm := hk _ (List.getElem_mem hj')
   generalize xs[j] = p at hm
   obtain ⟨ti, rt, ⟨o, ho, hcl, n, hdd⟩, _⟩ := I.tuple (SqT.ofT hm)
   refine ⟨o, ti.toArray, n, ho, hcl, hdd, ?_⟩
   cases rt with
   | cons r1 rt =>
     cases rt with
     | cons r2 rt =>
       cases rt with
       | cons r3 rt =>
         cases rt
         exact .cons (val_key (k := Sum.inl p.1.n) r1) (.cons (val_key (k := Sum.inr p.1.t) r2) (.cons (val_key (k := Sum.inr p.1.x) r3) .nil))
 · have hset : ∃ o es ep t, ∃ ds : List (Msg × Addr), h'.get? s.heap.objs.size = some o ∧ TObj2 (mixKind X.prog X.w) o es ep t (ds.map fun p => (mKey p.1, p.2)) ∧ (ds.map (·.1)).Nodup ∧ ∀ m, m ∈ ds.map (·.1) ↔ m ∈ xs.map (·.1) := by
     obtain ⟨o, es, ep, t, js, ho, Z, h1, h2, h3⟩ := hS
     rw [List.size_toArray] at h1 h3
     refine ⟨o, es, ep, t, js.map fun j => xs.getD j d, ho, by rw [List.map_map]; exact Z, ?_, fun m => ?_⟩
     · rw [List.map_map]
       refine List.pairwise_map.mpr ((List.pairwise_map.mp h2).imp fun hne e => hne ?_)
       show mKey _ = mKey _
       exact congrArg mKey e
     · rw [List.map_map]
       constructor
       · intro hm
         obtain ⟨j, hj, rfl⟩ := List.mem_map.mp hm
         have hj' : j < xs.length := by have := h1 j hj; omega
         show (xs.getD j d).1 ∈ _
         rw [hgd j hj']
         exact List.mem_map.mpr ⟨_, List.getElem_mem hj', rfl⟩
       · intro hm
         obtain ⟨p, hp, rfl⟩ := List.mem_map.mp hm
         obtain ⟨i, hi, e⟩ := List.getElem_of_mem hp
         obtain ⟨j, hj, e2⟩ := h3 i (by omega)
         refine List.mem_map.mpr ⟨j, hj, ?_⟩
         show (xs.getD j d).1 = _
         have e3 : mKey (xs.getD j d).1 = mKey (xs.getD i d).1 := e2
         rw [mKey_inj e3, hgd i hi, e]
   refine ⟨.ref s.heap.objs.size, _, I.laid (t' := tk) (o := SetU X.prog X.w s.heap.objs.size (xs.map (·.1))) (fun b u e => hk' b u (Heap.lt_size e) e) (Nat.le_refl _) ?_, rfl, q _ (I.hok.fresh (Nat.le_refl _))⟩
   obtain ⟨o, es, ep, t, ds, ho, _⟩ := id hset
   exact ⟨hset, ⟨o, ho⟩, fun h1 h2 ⟨o, es, ep, t, ds, ho, Z⟩ k => ⟨o, es, ep, t, ds, k _ ho, Z⟩⟩
theorem k_setU (P : Program) (w : World) (K : W.Frag) {k : Nat} (hr : Room k X.A) (hc : X.calm = true := by rfl) (h : X.K = K := by rfl) (hp : X.prog = P := by rfl) (hw : X.w = w := by rfl) : CallR X (.type "set") (rSetU P w K) := by
 subst h; subst hp; subst hw
 exact call_setU hc (by have := hr.un; show X.A.units + 1 + 1 + 1 < _; omega)
def rLenU (P : Program) (w : World) : List V → Hp → VK → Prop := fun us H Q => ∃ a ms, us = [.ref a] ∧ H a = some (SetU P w a ms) ∧ ∀ ds : List Msg, ds.Nodup → (∀ m, m ∈ ds ↔ m ∈ ms) → Q (.int ds.length) H
theorem call_lenU : CallR X (.builtin "len") (rLenU X.prog X.w) := by
 intro pins s σ H xs us Q I r h
 obtain ⟨a, ms, rfl, ha, q⟩ := h
 obtain ⟨u, rfl, ru⟩ := vals1 r
 cases ru
 obtain ⟨⟨o, es, ep, t, ds, ho, Z, h1, h2⟩, _, _⟩ := (show ObjOk X.prog X.w H s.heap a (SetU X.prog X.w a ms) from I.hok a _ ha)
 have hn : es.size = (ds.map (·.1)).length := by rw [Z.len, List.length_map, List.length_map]
 refine PySem.call_len_set ho Z.ex Z.data Z.ok.fits (by have := Z.few; omega) ⟨.int (es.size : Int), H, I.tok _, ⟨_, rfl⟩, ?_⟩
 rw [hn]
 exact q _ h1 h2
theorem k_lenU (P : Program) (w : World) (hp : X.prog = P := by rfl) (hw : X.w = w := by rfl) : CallR X (.builtin "len") (rLenU P w) := by subst hp; subst hw; exact call_lenU
def rLenS (P : Program) (w : World) : List V → Hp → VK → Prop := fun us H Q => ∃ a ks, us = [.ref a] ∧ H a = some (SetO P w a ks) ∧ ∀ ds : List Key, ds.Nodup → (∀ k, k ∈ ds ↔ k ∈ ks) → Q (.int ds.length) H
theorem call_lenS : CallR X (.builtin "len") (rLenS X.prog X.w) := by
 intro pins s σ H xs us Q I r h
 obtain ⟨a, ks, rfl, ha, q⟩ := h
 obtain ⟨u, rfl, ru⟩ := vals1 r
 cases ru
 obtain ⟨⟨n, o, es, ep, t, ho, Z, hn⟩, _, _⟩ := (show ObjOk X.prog X.w H s.heap a (SetO X.prog X.w a ks) from I.hok a _ ha)
 obtain ⟨ms, h1, h2, h3⟩ := keys_of Z.el Z.apart
 have hl : es.size = ms.length := by
   have := h1.length
   simp only [List.length_map, Array.length_toList] at this
   omega
 have hf := Z.few
 refine PySem.call_len_set ho Z.ex Z.data Z.ok.fits (by unfold scanBound at hf; omega) ⟨.int (es.size : Int), H, I.tok _, ⟨_, rfl⟩, ?_⟩
 rw [hl]
 exact q ms h2 fun k => by rw [h3 k, Z.mem k]
theorem k_lenS (P : Program) (w : World) (hp : X.prog = P := by rfl) (hw : X.w = w := by rfl) : CallR X (.builtin "len") (rLenS P w) := by subst hp; subst hw; exact call_lenS
end
end L2
namespace K41
open PySem L2
def top (i : Nat) : Stmt := PySem.Challenge.pw_tellroads_k41_whole_fans.main.body.getD i (.Pass ⟨0, 0, 0, 0⟩)
structure Txt (mg : Str → Option Value) : Prop where
 b_len : mg "len" = none
 b_range : mg "range" = none
 b_list : mg "list" = none
 b_max : mg "max" = none
 b_sorted : mg "sorted" = none
 b_set : mg "set" = none
 b_enumerate : mg "enumerate" = none
 b_zip : mg "zip" = none
structure TxtC (K : W.Frag) (mg : Str → Option Value) (C CH : Addr) : Prop where
 R_Teller : TellerC K mg C
 R_Hearer : HearK K mg CH
structure TxtF (K : W.Frag) (mg : Str → Option Value) (CF C CR CH : Addr) : Prop where
 R_Fan : FanC K mg CF
 R_Teller : TellerC K mg C
 R_Road : RoadC K mg CR
 R_Hearer : HearK K mg CH
section
variable {K : W.Frag} {mg : Str → Option Value} {C CH : Addr} (h : TxtC K mg C CH)
include h
theorem TxtC.cl_Teller : Cls K C := h.R_Teller.cl_Teller
theorem TxtC.mg_Teller : mg "Teller" = some (.ref C) := h.R_Teller.mg_Teller
theorem TxtC.cl_Hearer : Cls K CH := h.R_Hearer.cl_Hearer
theorem TxtC.mg_Hearer : mg "Hearer" = some (.ref CH) := h.R_Hearer.mg_Hearer
end
section
variable {K : W.Frag} {mg : Str → Option Value} {CF C CR CH : Addr} (h : TxtF K mg CF C CR CH)
include h
theorem TxtF.cl_Fan : Cls K CF := h.R_Fan.cl_Fan
theorem TxtF.mg_Fan : mg "Fan" = some (.ref CF) := h.R_Fan.mg_Fan
theorem TxtF.cl_Teller : Cls K C := h.R_Teller.cl_Teller
theorem TxtF.mg_Teller : mg "Teller" = some (.ref C) := h.R_Teller.mg_Teller
theorem TxtF.cl_Road : Cls K CR := h.R_Road.cl_Road
theorem TxtF.mg_Road : mg "Road" = some (.ref CR) := h.R_Road.mg_Road
theorem TxtF.cl_Hearer : Cls K CH := h.R_Hearer.cl_Hearer
theorem TxtF.mg_Hearer : mg "Hearer" = some (.ref CH) := h.R_Hearer.mg_Hearer
end
def cellF (ns : List Int) (k : Int) : Int := if ns = [] then 7 * k else ns.getD (k % (ns.length : Int)).toNat 0 + 6553 * (k / (ns.length : Int))
def draw1 (c k : Int) : Int := (c % 2147483563 * 69069 + 104723 * (k + 1)) % 2147483563
def draw2 (h : Int) : Int := (h * h + h / 3) % 2147483399
def draw3 (h m : Int) : Int := (h * h + h / 7) % 2147483647 / 11 % m
def drawnF (ns : List Int) (k m : Int) : Int := draw3 (draw2 (draw1 (cellF ns k) k)) m
theorem drawn_nn (ns : List Int) (k : Int) {m : Int} (h : 0 < m) : 0 ≤ drawnF ns k m := Int.emod_nonneg _ (by omega)
theorem drawn_lt (ns : List Int) (k : Int) {m : Int} (h : 0 < m) : drawnF ns k m < m := Int.emod_lt_of_pos _ h
def spCell (K : W.Frag) : Sp := fun vs H Q _ => ∃ (a : Addr) (ns : List Int) (k : Int), vs = [.ref a, .int k] ∧ SqL K H a (ns.map V.int) ∧ ns.length ≤ 63 ∧ 0 ≤ k ∧ ∀ H', Same H H' → Q (.int (cellF ns k)) H'
def spDrawn (K : W.Frag) : Sp := fun vs H Q _ => ∃ (a : Addr) (ns : List Int) (k m : Int), vs = [.ref a, .int k, .int m] ∧ SqL K H a (ns.map V.int) ∧ ns.length ≤ 63 ∧ 0 ≤ k ∧ 0 < m ∧ ∀ H', Same H H' → Q (.int (drawnF ns k m)) H'
section
variable {P : Program} {w : World} {K : W.Frag} {mg : Str → Option Value} {base : Heap}
abbrev s_l_cell : Stmt := top 23
abbrev N_l_cell : List Str := ["_law_script", "_law_k"]
theorem sc_l_cell : FnScope N_l_cell ["_law_script", "_law_k"] (defScope s_l_cell) := ⟨rfl, rfl, rfl, by decide +kernel, rfl, by decide +kernel, by decide +kernel⟩
theorem ok_l_cell {f : Addr} {fd : FuncData} (F : Fun K "_law_cell" "_law_cell" s_l_cell f fd) (T : Txt mg) : FnOk P w K mg base CX0 1 f fd ["_law_script", "_law_k"] (spCell K) := by
 refine F.ok sc_l_cell (fun vs H Q E h => ?_) (fun cdv A outer s H vs Q E hr h => ?_)
 · obtain ⟨a, ns, k, rfl, _⟩ := h; rfl
 · obtain ⟨a, ns, k, rfl, hS, hlen, hk, q⟩ := h
   refine ⟨_, (pss_cons (ps_if (pt_cmpR (k_eq0 K hr.units0) (pv 0) (as_lst as_nil) (nomark _)) (pss_one (ps_ret (pe_op op_mul pe_int (pv 1)))) pss_nil)
     (pss_one (ps_ret (pe_op op_add (pe_ix (k_ix_list K) (pv 0) (pe_op op_mod (pv 1) (as_callB (k_len_seq K) (by rfl) T.b_len PySem.boot_len (at_cons (pv 0) as_nil))) (fun _ _ => rfl)) (pe_op op_mul pe_int (pe_op op_fdiv (pv 1) (as_callB (k_len_seq K) (by rfl) T.b_len PySem.boot_len (at_cons (pv 0) as_nil)))))))), ?_⟩
   refine ⟨_, rfl, by decide, fun p hp => ?_⟩
   have s1 : Same H (upd H p (.lst [])) := Same.new hp
   refine ⟨a, p, _, rfl, rfl, s1.seq hS, SqL.ofL upd_same, _, rfl, ?_⟩
   refine ite2 (fun he => ?_) (fun he => ?_)
   · have e : ns = [] := by simpa using he
     refine ⟨_, rfl, _, _, rfl, rfl, .inl ⟨by decide, by decide⟩, ?_⟩
     have z := q _ s1
     unfold cellF at z
     rw [if_pos e] at z
     exact z
   · have e : ns ≠ [] := by simpa using he
     have hl : 0 < ns.length := List.length_pos_iff.mpr e
     refine ⟨_, rfl, _, rfl, _, rfl, a, _, rfl, .inl (s1.seq hS), _, _, rfl, rfl, ?_, ?_⟩
     · show (0 : Int) < ((ns.map V.int).length : Int)
       rw [List.length_map]; omega
     · have hlt : (k % (ns.length : Int)).toNat < ns.length := by
         have h1 := Int.emod_nonneg k (b := (ns.length : Int)) (by omega)
         have h2 := Int.emod_lt_of_pos k (b := (ns.length : Int)) (by omega)
         omega
       have hi : atI (ns.map V.int) (k % ((ns.map V.int).length : Int)) = some (V.int (ns.getD (k % (ns.length : Int)).toNat 0)) := by
         rw [List.length_map]
         have h1 := Int.emod_nonneg k (b := (ns.length : Int)) (by omega)
         have e2 : k % (ns.length : Int) = ((k % (ns.length : Int)).toNat : Int) := by omega
         rw [e2]
         refine atI_nat ?_
         rw [Int.toNat_natCast, List.getElem?_map, List.getElem?_eq_getElem hlt]
         simp [List.getD, List.getElem?_eq_getElem hlt]
       refine ⟨a, _, _, _, rfl, rfl, s1.seq hS, hi, _, rfl, _, rfl, a, _, rfl, .inl (s1.seq hS), _, _, rfl, rfl, ?_, _, _, rfl, rfl, .inl ⟨by decide, by decide⟩, _, _, rfl, rfl, ?_⟩
       · show (0 : Int) < ((ns.map V.int).length : Int) ∧ ((ns.map V.int).length : Int) < 1073741824
         rw [List.length_map]; omega
       · have z := q _ s1
         unfold cellF at z
         rw [if_neg e] at z
         show Q (.int (ns.getD (k % (ns.length : Int)).toNat 0 + 6553 * (k / ((ns.map V.int).length : Int)))) _
         rw [List.length_map]
         exact z
abbrev s_l_drawn : Stmt := top 24
abbrev N_l_drawn : List Str := ["_law_script", "_law_k", "_law_many", "_law_cell_here"]
theorem sc_l_drawn : FnScope N_l_drawn ["_law_script", "_law_k", "_law_many"] (defScope s_l_drawn) := ⟨rfl, rfl, rfl, by decide +kernel, rfl, by decide +kernel, by decide +kernel⟩
theorem ok_l_drawn {f : Addr} {fd : FuncData} (F : Fun K "_law_drawn" "_law_drawn" s_l_drawn f fd) (T : Txt mg) (c_l_cell : Callee P w K mg base 1 "_law_cell" ["_law_script", "_law_k"] (spCell K)) :
   FnOk P w K mg base CX0 2 f fd ["_law_script", "_law_k", "_law_many"] (spDrawn K) := by
 refine F.ok sc_l_drawn (fun vs H Q E h => ?_) (fun cdv A outer s H vs Q E hr h => ?_)
 · obtain ⟨a, ns, k, m, rfl, _⟩ := h; rfl
 · obtain ⟨a, ns, k, m, rfl, hS, hlen, hk, hm, q⟩ := h
   refine ⟨_, (pss_cons (ps_set (i := 3) sc_l_drawn.nd rfl (Or.inl rfl) (pe_op op_mod (pe_op op_add (pe_op op_mul (pe_op op_mod (as_fn c_l_cell (hr.mono (by decide)) (at_cons (pv 0) (as_cons (pv 1) as_nil))) pe_int) pe_int) (pe_op op_mul pe_int (pe_op op_add (pv 1) pe_int))) pe_int))
     (pss_cons (ps_set (i := 3) sc_l_drawn.nd rfl (Or.inl rfl) (pe_op op_mod (pe_op op_add (pe_op op_mul (pv 3) (pv 3)) (pe_op op_fdiv (pv 3) pe_int)) pe_int))
     (pss_one (ps_ret (pe_op op_mod (pe_op op_fdiv (pe_op op_mod (pe_op op_add (pe_op op_mul (pv 3) (pv 3)) (pe_op op_fdiv (pv 3) pe_int)) pe_int) pe_int) (pv 2)))))), ?_⟩
   refine ⟨_, rfl, _, rfl, a, ns, k, rfl, hS, hlen, hk, fun H1 s1 => ?_⟩
   have b1 : ∀ x : Int, 0 ≤ x % 2147483563 ∧ x % 2147483563 < 2147483563 := fun x => ⟨Int.emod_nonneg _ (by decide), Int.emod_lt_of_pos _ (by decide)⟩
   have b2 : ∀ x : Int, 0 ≤ x % 2147483399 ∧ x % 2147483399 < 2147483399 := fun x => ⟨Int.emod_nonneg _ (by decide), Int.emod_lt_of_pos _ (by decide)⟩
   refine ⟨_, _, rfl, rfl, (by decide : (0 : Int) < 2147483563), _, _, rfl, rfl, .inr ⟨by decide, by decide⟩, _, rfl, _, _, rfl, rfl, _, _, rfl, rfl, .inl ⟨by decide, by decide⟩, _, _, rfl, rfl, _, _, rfl, rfl, (by decide : (0 : Int) < 2147483563), ?_⟩
   have c1 := b1 (cellF ns k % 2147483563 * 69069 + 104723 * (k + 1))
   refine ⟨_, rfl, _, rfl, _, _, rfl, rfl, .inl ⟨?_, ?_⟩, _, rfl, _, _, rfl, rfl, ⟨by decide, by decide⟩, _, _, rfl, rfl, _, _, rfl, rfl, (by decide : (0 : Int) < 2147483399), ?_⟩
   · exact Int.lt_of_lt_of_le (by decide) c1.1
   · exact Int.lt_trans c1.2 (by decide)
   have c2 := b2 (draw1 (cellF ns k) k * draw1 (cellF ns k) k + draw1 (cellF ns k) k / 3)
   refine ⟨_, rfl, _, rfl, _, _, rfl, rfl, .inl ⟨?_, ?_⟩, _, rfl, _, _, rfl, rfl, ⟨by decide, by decide⟩, _, _, rfl, rfl, _, _, rfl, rfl, (by decide : (0 : Int) < 2147483647), _, _, rfl, rfl, ⟨by decide, by decide⟩, _, rfl, _, _, rfl, rfl, hm, ?_⟩
   · exact Int.lt_of_lt_of_le (by decide) c2.1
   · exact Int.lt_trans c2.2 (by decide)
   exact q H1 s1
end
section
variable {P : Program} {w : World} {K : W.Frag} {mg : Str → Option Value} {base : Heap}
abbrev s_number_of : Stmt := top 8
abbrev N_number_of : List Str := ["message"]
theorem sc_number_of : FnScope N_number_of ["message"] (defScope s_number_of) := ⟨rfl, rfl, rfl, by decide +kernel, rfl, by decide +kernel, by decide +kernel⟩
theorem ok_number_of {f : Addr} {fd : FuncData} (F : Fun K "number_of" "number_of" s_number_of f fd) : FnOk P w K mg base CX0 1 f fd ["message"] (spItem 0) := by
 refine F.ok sc_number_of (fun vs H Q E h => ?_) (fun cdv A outer s H vs Q E hr h => ?_)
 · obtain ⟨a, x, y, z, rfl, _⟩ := h; rfl
 · obtain ⟨a, x, y, z, rfl, h1, q⟩ := h
   refine ⟨_, (pss_one (ps_ret (pe_ix (k_ix_tup K) (pv 0) pe_int (fun _ _ => rfl)))), ?_⟩
   exact ⟨_, rfl, a, _, 0, x, rfl, rfl, SqT.ofT h1, rfl, q⟩
abbrev s_topic_of : Stmt := top 9
abbrev N_topic_of : List Str := ["message"]
theorem sc_topic_of : FnScope N_topic_of ["message"] (defScope s_topic_of) := ⟨rfl, rfl, rfl, by decide +kernel, rfl, by decide +kernel, by decide +kernel⟩
theorem ok_topic_of {f : Addr} {fd : FuncData} (F : Fun K "topic_of" "topic_of" s_topic_of f fd) : FnOk P w K mg base CX0 1 f fd ["message"] (spItem 1) := by
 refine F.ok sc_topic_of (fun vs H Q E h => ?_) (fun cdv A outer s H vs Q E hr h => ?_)
 · obtain ⟨a, x, y, z, rfl, _⟩ := h; rfl
 · obtain ⟨a, x, y, z, rfl, h1, q⟩ := h
   refine ⟨_, (pss_one (ps_ret (pe_ix (k_ix_tup K) (pv 0) pe_int (fun _ _ => rfl)))), ?_⟩
   exact ⟨_, rfl, a, _, 1, y, rfl, rfl, SqT.ofT h1, rfl, q⟩
abbrev s_of_topics : Stmt := top 10
abbrev N_of_topics : List Str := ["messages", "topics"]
theorem sc_of_topics : FnScope N_of_topics ["messages", "topics"] (defScope s_of_topics) := ⟨rfl, rfl, rfl, by decide +kernel, rfl, by decide +kernel, by decide +kernel⟩
theorem ok_of_topics {f : Addr} {fd : FuncData} (F : Fun K "of_topics" "of_topics" s_of_topics f fd) (T : Txt mg) (c_topic_of : Callee P w K mg base 1 "topic_of" ["message"] (spItem 1)) :
   FnOk P w K mg base CX0 2 f fd ["messages", "topics"] (spOfT K) := by
 refine F.ok sc_of_topics (fun vs H Q E h => ?_) (fun cdv A outer s H vs Q E hr h => ?_)
 · obtain ⟨a, xs, ms, tv, ts, rfl, _⟩ := h; rfl
 · obtain ⟨a, xs, ms, tv, ts, rfl, ha, hm, hlen, ht, q⟩ := h
   refine ⟨_, (pss_cons (ps_if (pt_cmpR op_isN (pv 1) pe_non (nomark _)) (pss_one (ps_ret (as_callTy (k_list_of K) (by rfl) T.b_list PyProof.Rows.boot_list (at_cons (pv 0) as_nil)))) pss_nil)
     (pss_one (ps_ret (pe_comp (N' := ["message", "topics"]) (ix := [none, some 1]) (own := [0]) rfl (cs_of (osc := defScope s_of_topics) (ON := N_of_topics) rfl rfl (by decide +kernel)) (by decide) (k_it_list K (pv 0)) (fun _ _ _ _ => (pg_name (i := 0) (show (["message", "topics"] : List Str).Nodup by decide +kernel) rfl (Or.inl rfl))) own_name (fun _ _ _ _ => (pifs_one (pt_cmpR (k_in_seq K) (as_fn c_topic_of (hr.mono (by decide)) (at_cons (pv 0) as_nil)) (pv 1) (by with_unfolding_all rfl)))) (fun _ _ _ _ => (pv 0)))))), ?_⟩
   refine ⟨_, rfl, rfl, _, rfl, ?_⟩
   rcases ht with ⟨rfl, rfl⟩ | ⟨b, l, rfl, hb, rfl⟩
   · refine ite2 (fun _ => ?_) (fun h => absurd (decide_eq_true rfl) h)
     refine ⟨_, rfl, a, xs, rfl, .inl (SqL.ofL ha), fun p hp => ?_⟩
     exact q p xs _ (Same.new hp) hp upd_same (hm.same (Same.new hp))
   · refine ite2 (fun h => absurd (of_decide_eq_true h) (by simp)) (fun _ => ?_)
     refine ⟨_, rfl, a, rfl, ⟨xs, SqL.ofL ha⟩, ms.length, fun i ys H2 => Same H H2 ∧ Ms H2 ys ((ms.take i).filter fun m => decide (m.t ∈ l)), (by rw [sizeLine_eq]; omega), ⟨Same.refl _, Ms.nil⟩, ?_, ?_⟩
     · rintro i ys H2 hi ⟨s2, hy⟩
       obtain ⟨c, ec, hc⟩ := (hm.same s2).get hi
       refine ⟨⟨xs, .ref c, SqL.ofL (s2 _ _ ha), ec⟩, ?_⟩
       rintro x H3 ⟨rfl, hx⟩
       have hx' := hx xs (SqL.ofL (s2 _ _ ha))
       rw [ec] at hx'
       obtain rfl := Option.some.inj hx'
       refine rd_name ?_
       refine ⟨_, rfl, c, _, _, _, rfl, hc, _, rfl, b, l.map V.str, rfl, .inl (s2.seq hb), rfl, flat_strs l, _, rfl, ?_⟩
       have e : (if false = true then !inV (.str ms[i].t) (l.map V.str) else inV (.str ms[i].t) (l.map V.str)) = decide (ms[i].t ∈ l) := in_strs _ l
       refine ite2 (fun h => ?_) (fun h => ?_)
       · refine ⟨_, rfl, s2, ?_⟩
         have h' : decide (ms[i].t ∈ l) = true := e.symm.trans h
         rw [flt_succ hi, if_pos h']
         exact hy.append (Ms.one hc)
       · refine ⟨s2, ?_⟩
         have h' : ¬ decide (ms[i].t ∈ l) = true := fun z => h (e.trans z)
         rw [flt_succ hi, if_neg h', List.append_nil]
         exact hy
     · rintro ys H2 ⟨s2, hy⟩
       refine ⟨⟨xs, SqL.ofL (s2 _ _ ha), by rw [hm.len]; exact Nat.le_refl _⟩, fun D hD => ?_⟩
       rw [List.take_length] at hy
       exact q D ys _ (s2.trans (Same.new hD)) (s2.free hD) upd_same (hy.same (Same.new hD))
abbrev s_with_greater_numbers : Stmt := top 11
abbrev N_with_greater_numbers : List Str := ["messages", "number"]
theorem sc_with_greater_numbers : FnScope N_with_greater_numbers ["messages", "number"] (defScope s_with_greater_numbers) := ⟨rfl, rfl, rfl, by decide +kernel, rfl, by decide +kernel, by decide +kernel⟩
theorem ok_with_greater_numbers {f : Addr} {fd : FuncData} (F : Fun K "with_greater_numbers" "with_greater_numbers" s_with_greater_numbers f fd) (T : Txt mg) (c_number_of : Callee P w K mg base 1 "number_of" ["message"] (spItem 0)) :
   FnOk P w K mg base CX0 2 f fd ["messages", "number"] spGreater := by
 refine F.ok sc_with_greater_numbers (fun vs H Q E h => ?_) (fun cdv A outer s H vs Q E hr h => ?_)
 · obtain ⟨a, xs, ms, n, rfl, _⟩ := h; rfl
 · obtain ⟨a, xs, ms, n, rfl, ha, hm, hlen, q⟩ := h
   refine ⟨_, (pss_one (ps_ret (pe_comp (N' := ["message", "number"]) (ix := [none, some 1]) (own := [0]) rfl (cs_of (osc := defScope s_with_greater_numbers) (ON := N_with_greater_numbers) rfl rfl (by decide +kernel)) (by decide) (k_it_list K (pv 0)) (fun _ _ _ _ => (pg_name (i := 0) (show (["message", "number"] : List Str).Nodup by decide +kernel) rfl (Or.inl rfl))) own_name (fun _ _ _ _ => (pifs_one (pt_cmpR op_gt (as_fn c_number_of (hr.mono (by decide)) (at_cons (pv 0) as_nil)) (pv 1) (nomark _)))) (fun _ _ _ _ => (pv 0))))), ?_⟩
   refine ⟨_, rfl, a, rfl, ⟨xs, SqL.ofL ha⟩, ms.length, fun i ys H2 => Same H H2 ∧ Ms H2 ys ((ms.take i).filter fun m => decide (m.n > n)), (by rw [sizeLine_eq]; omega), ⟨Same.refl _, Ms.nil⟩, ?_, ?_⟩
   · rintro i ys H2 hi ⟨s2, hy⟩
     obtain ⟨c, ec, hc⟩ := (hm.same s2).get hi
     refine ⟨⟨xs, .ref c, SqL.ofL (s2 _ _ ha), ec⟩, ?_⟩
     rintro x H3 ⟨rfl, hx⟩
     have hx' := hx xs (SqL.ofL (s2 _ _ ha))
     rw [ec] at hx'
     obtain rfl := Option.some.inj hx'
     refine rd_name ?_
     refine ⟨_, rfl, c, _, _, _, rfl, hc, _, rfl, _, _, rfl, rfl, _, rfl, ?_⟩
     refine ite2 (fun h => ?_) (fun h => ?_)
     · refine ⟨_, rfl, s2, ?_⟩
       rw [flt_succ hi, if_pos h]
       exact hy.append (Ms.one hc)
     · refine ⟨s2, ?_⟩
       rw [flt_succ hi, if_neg h, List.append_nil]
       exact hy
   · rintro ys H2 ⟨s2, hy⟩
     refine ⟨⟨xs, SqL.ofL (s2 _ _ ha), by rw [hm.len]; exact Nat.le_refl _⟩, fun D hD => ?_⟩
     rw [List.take_length] at hy
     exact q D ys _ (s2.trans (Same.new hD)) (s2.free hD) upd_same (hy.same (Same.new hD))
abbrev s_Teller___init__ : Stmt := inClass (top 19) 0
abbrev N_Teller___init__ : List Str := ["self", "keep"]
theorem sc_Teller___init__ : FnScope N_Teller___init__ ["self", "keep"] (defScope s_Teller___init__) := ⟨rfl, rfl, rfl, by decide +kernel, rfl, by decide +kernel, by decide +kernel⟩
theorem ok_Teller_init {f C : Addr} {fd : FuncData} (F : Fun K "__init__" "Teller.__init__" s_Teller___init__ f fd) (TC : TellerC K mg C) : FnOk P w K mg base CX0 1 f fd ["self", "keep"] (spInitT C) := by
 refine F.ok sc_Teller___init__ (fun vs H Q E h => ?_) (fun cdv A outer s H vs Q E hr h => ?_)
 · obtain ⟨p, dx, k, rfl, _⟩ := h; rfl
 · obtain ⟨p, dx, k, rfl, hp, q⟩ := h
   refine ⟨_, (pss_cons (k_sfld K (pv 0) (pv 1) rfl)
     (pss_cons (k_sfld K (pv 0) pe_int rfl)
     (pss_cons (k_sfld K (pv 0) pe_int rfl)
     (pss_cons (k_sfld K (pv 0) (as_lst as_nil) rfl)
     (pss_one (k_sfld K (pv 0) pe_dnewK rfl)))))), ?_⟩
   have l1 := putF_len "keep" (.int k) []
   have l2 := putF_len "turn" (.int 0) (putF "keep" (.int k) [])
   have l3 := putF_len "total" (.int 0) (putF "turn" (.int 0) (putF "keep" (.int k) []))
   have l0 : ([] : List (Str × V)).length = 0 := rfl
   refine ⟨_, rfl, _, rfl, p, C, dx, [], rfl, hp, TC.cl_Teller, TC.n_keep, (by show 0 < 1000; decide), ?_⟩
   refine ⟨_, rfl, p, C, dx, _, rfl, upd_same, TC.cl_Teller, TC.n_turn, by omega, ?_⟩
   refine ⟨_, rfl, p, C, dx, _, rfl, upd_same, TC.cl_Teller, TC.n_total, by omega, ?_⟩
   refine ⟨Nat.zero_le _, fun s hs => ?_⟩
   have nps : p ≠ s := ne_of_none upd_same hs
   refine ⟨_, rfl, p, C, dx, _, rfl, (by rw [upd_ne nps]; exact upd_same), TC.cl_Teller, TC.n_stored, by omega, ?_⟩
   intro d hd
   have npd : p ≠ d := ne_of_none upd_same hd
   have nsd : s ≠ d := fun e => by rw [← e, upd_ne nps.symm, upd_same] at hd; cases hd
   have l4 := putF_len "stored" (.ref s) (putF "total" (.int 0) (putF "turn" (.int 0) (putF "keep" (.int k) [])))
   refine ⟨_, rfl, p, C, dx, _, rfl, (by rw [upd_ne npd]; exact upd_same), TC.cl_Teller, TC.n_newest, by omega, ?_⟩
   rw [tF_make]
   have hs0 : H s = none := by rw [upd_ne nps.symm, upd_ne nps.symm, upd_ne nps.symm] at hs; exact hs
   have hd0 : H d = none := by rw [upd_ne npd.symm, upd_ne nsd.symm, upd_ne npd.symm, upd_ne npd.symm, upd_ne npd.symm] at hd; exact hd
   refine q s d _ hs0 hd0 ⟨⟨dx, upd_same⟩, ⟨[], ?_, (by unfold lastK; rw [List.drop_nil]; exact Ms.nil)⟩, ⟨[], ?_, .nil⟩⟩ fun b o e hb => ?_
   · rw [upd_ne nps.symm, upd_ne nsd, upd_ne nps.symm, upd_same]
   · rw [upd_ne npd.symm, upd_same]
   · rw [upd_ne hb, upd_ne (ne_of_none e hd0), upd_ne hb, upd_ne (ne_of_none e hs0), upd_ne hb, upd_ne hb, upd_ne hb]
     exact e
abbrev s_Teller_tell : Stmt := inClass (top 19) 1
abbrev N_Teller_tell : List Str := ["self", "topic", "text", "message"]
theorem sc_Teller_tell : FnScope N_Teller_tell ["self", "topic", "text"] (defScope s_Teller_tell) := ⟨rfl, rfl, rfl, by decide +kernel, rfl, by decide +kernel, by decide +kernel⟩
theorem ok_Teller_tell {f C : Addr} {fd : FuncData} (F : Fun K "tell" "Teller.tell" s_Teller_tell f fd) (T : Txt mg) (TC : TellerC K mg C) : FnOk P w K mg base CX0 1 f fd ["self", "topic", "text"] (spTell C) := by
 refine F.ok sc_Teller_tell (fun vs H Q E h => ?_) (fun cdv A outer s0 H vs Q E hr h => ?_)
 · obtain ⟨p, t, x, k, r, all, s, d, rfl, _⟩ := h; rfl
 · obtain ⟨p, t, x, k, r, all, s, d, rfl, TA, hlen, hk, q⟩ := h
   refine ⟨_, (pss_cons (k_sfld K (pv 0) (pe_op op_add (k_fld K (pv 0) rfl) pe_int) rfl)
     (pss_cons (ps_set (i := 3) sc_Teller_tell.nd rfl (Or.inl rfl) (as_tup (as_cons (k_fld K (pv 0) rfl) (as_cons (pv 1) (as_cons (pv 2) as_nil)))))
     (pss_cons (ps_dput (hu_of hr) (k_fld K (pv 0) rfl) (pv 1) (pv 3) rfl)
     (pss_cons (ps_expr (k_bm K PySem.F.plainAttrs_list PySem.F.slot_list_append PySem.F.type_list_append mt_append (k_fld K (pv 0) rfl) (pa_cons (pv 3) pa_nil)))
     (pss_cons (ps_if (pt_cmpR op_gt (as_callB (k_len_seq K) (by rfl) T.b_len PySem.boot_len (at_cons (k_fld K (pv 0) rfl) as_nil)) (k_fld K (pv 0) rfl) (nomark _)) (pss_one (ps_expr (k_bm K PySem.F.plainAttrs_list PySem.F.slot_list_pop PySem.F.type_list_pop mt_popAt (k_fld K (pv 0) rfl) (pa_cons pe_int pa_nil)))) pss_nil)
     (pss_one (ps_ret (k_fld K (pv 0) rfl)))))))), ?_⟩
   obtain ⟨⟨dx, h1⟩, ⟨ys, hs, hms⟩, ⟨kvs, hd, hdm⟩⟩ := id TA
   have nps : p ≠ s := ne_of h1 hs (by intro z; cases z)
   have npd : p ≠ d := ne_of h1 hd (by intro z; cases z)
   have nsd : s ≠ d := ne_of hs hd (by intro z; cases z)
   have lF : ∀ n, (tF k r n s d).length < 1000 := fun n => by show 5 < 1000; decide
   refine ⟨_, rfl, p, C, dx, _, _, rfl, h1, TC.cl_Teller, TC.n_total, tF_total, _, _, rfl, rfl, _, rfl, p, C, dx, _, rfl, h1, TC.cl_Teller, TC.n_total, lF _, ?_⟩
   rw [tF_setTotal]
   have a1 : upd H p (.ins C dx (tF k r ((all.length : Int) + 1) s d)) p = some (.ins C dx (tF k r ((all.length : Int) + 1) s d)) := upd_same
   have a2 : upd H p (.ins C dx (tF k r ((all.length : Int) + 1) s d)) s = some (.lst ys) := by rw [upd_ne nps.symm]; exact hs
   have a3 : upd H p (.ins C dx (tF k r ((all.length : Int) + 1) s d)) d = some (.dK kvs) := by rw [upd_ne npd.symm]; exact hd
   have aB : But [p, s, d] H (upd H p (.ins C dx (tF k r ((all.length : Int) + 1) s d))) := fun c o e hc => by rw [upd_ne (fun z => hc (by rw [z]; exact List.mem_cons_self))]; exact e
   have aT : Tups H (upd H p (.ins C dx (tF k r ((all.length : Int) + 1) s d))) := (Tups.refl H).put h1 (fun _ z => by cases z)
   generalize upd H p (.ins C dx (tF k r ((all.length : Int) + 1) s d)) = Ha at a1 a2 a3 aB aT ⊢
   refine ⟨_, rfl, p, C, dx, _, _, rfl, a1, TC.cl_Teller, TC.n_total, tF_total, _, rfl, _, rfl, (show 3 ≤ sizeLine by decide), fun c hc => ?_⟩
   have sb := Same.new (o := .tup [.int ((all.length : Int) + 1), .str t, .str x]) hc
   have b1 := sb _ _ a1
   have b2 := sb _ _ a2
   have b3 := sb _ _ a3
   have bc : upd Ha c (.tup [.int ((all.length : Int) + 1), .str t, .str x]) c = some (mT ⟨(all.length : Int) + 1, t, x⟩) := upd_same
   have bB : But [p, s, d] H _ := fun c' o e hc' => sb _ _ (aB c' o e hc')
   have bT := aT.trans sb.tups
   generalize upd Ha c (.tup [.int ((all.length : Int) + 1), .str t, .str x]) = Hb at b1 b2 b3 bc bB bT ⊢
   have hkl : kvs.length < sizeLine := by
     have h1 := newest_len all
     rw [hdm.len, sizeLine_eq]
     omega
   refine ⟨_, rfl, _, rfl, p, C, dx, _, _, rfl, b1, TC.cl_Teller, TC.n_newest, tF_newest, _, rfl, d, _, rfl, DPut.k (k := Sum.inr t) b3 hkl, ?_⟩
   have cT : Tups Hb (upd Hb d (.dK (putK kvs (Sum.inr t) (.ref c)))) := (Tups.refl Hb).put b3 (fun _ z => by cases z)
   have c1 : upd Hb d (.dK (putK kvs (Sum.inr t) (.ref c))) p = _ := (upd_ne npd).trans b1
   have c2 : upd Hb d (.dK (putK kvs (Sum.inr t) (.ref c))) s = _ := (upd_ne nsd).trans b2
   have c3 : upd Hb d (.dK (putK kvs (Sum.inr t) (.ref c))) d = some (.dK (putK kvs (Sum.inr t) (.ref c))) := upd_same
   have cc := cT _ _ bc
   have cB : But [p, s, d] H (upd Hb d (.dK (putK kvs (Sum.inr t) (.ref c)))) := fun c' o e hc' => by rw [upd_ne (fun z => hc' (by rw [z]; simp))]; exact bB c' o e hc'
   have cTT := bT.trans cT
   generalize upd Hb d (.dK (putK kvs (Sum.inr t) (.ref c))) = Hc at c1 c2 c3 cc cB cTT ⊢
   have hyl := hms.len
   have hll := lastK_len k all
   refine ⟨_, rfl, p, C, dx, _, _, rfl, c1, TC.cl_Teller, TC.n_stored, tF_stored, .inl ⟨rfl, _, SqL.ofL c2⟩, _, rfl, s, ys, .ref c, rfl, rfl, c2, by rw [sizeLine_eq]; omega, ?_⟩
   have dT : Tups Hc (upd Hc s (.lst (ys ++ [.ref c]))) := (Tups.refl Hc).put c2 (fun _ z => by cases z)
   have d1 : upd Hc s (.lst (ys ++ [.ref c])) p = _ := (upd_ne nps).trans c1
   have d2 : upd Hc s (.lst (ys ++ [.ref c])) s = some (.lst (ys ++ [.ref c])) := upd_same
   have d3 : upd Hc s (.lst (ys ++ [.ref c])) d = _ := (upd_ne nsd.symm).trans c3
   have dc := dT _ _ cc
   have dB : But [p, s, d] H (upd Hc s (.lst (ys ++ [.ref c]))) := fun c' o e hc' => by rw [upd_ne (fun z => hc' (by rw [z]; simp))]; exact cB c' o e hc'
   have dTT := cTT.trans dT
   generalize upd Hc s (.lst (ys ++ [.ref c])) = Hd at d1 d2 d3 dc dB dTT ⊢
   have mAll : Ms Hd (ys ++ [.ref c]) (lastK k all ++ [⟨(all.length : Int) + 1, t, x⟩]) := (hms.tups dTT).append (Ms.one dc)
   have nAll : DM Hd (putK kvs (Sum.inr t) (.ref c)) (newest (all ++ [⟨(all.length : Int) + 1, t, x⟩])) := by
     rw [newest_snoc]
     exact (hdm.tups dTT).put t (msg_has dc)
   have eT : tF k r ((all.length : Int) + 1) s d = tF k r ((all ++ [(⟨(all.length : Int) + 1, t, x⟩ : Msg)]).length : Int) s d := by rw [List.length_append, List.length_singleton]; rfl
   have elen : (((ys ++ [V.ref c]).length : Nat) : Int) = (min all.length k.toNat : Nat) + 1 := by rw [List.length_append, List.length_singleton, hyl, hll]; rfl
   refine ⟨_, rfl, p, C, dx, _, _, rfl, d1, TC.cl_Teller, TC.n_stored, tF_stored, s, _, rfl, .inl (SqL.ofL d2), _, rfl, p, C, dx, _, _, rfl, d1, TC.cl_Teller, TC.n_keep, tF_keep, _, _, rfl, rfl, _, rfl, ?_⟩
   refine ite2 (fun hg => ?_) (fun hg => ?_)
   · have hg' : (((ys ++ [V.ref c]).length : Nat) : Int) > k := of_decide_eq_true hg
     have hfull : k.toNat ≤ all.length := by omega
     obtain ⟨y, yr, ey⟩ : ∃ y yr, ys ++ [V.ref c] = y :: yr := by
       cases ys with
       | nil => exact ⟨_, _, rfl⟩
       | cons y yr => exact ⟨_, _, rfl⟩
     have hix : seqIndex? 0 (ys ++ [V.ref c]).length = some 0 := by
       refine (ixN_seq (j := 0) ?_).1
       unfold ixN
       rw [if_pos (by decide), if_pos (by rw [ey, List.length_cons]; omega)]
       rfl
     refine ⟨_, rfl, p, C, dx, _, _, rfl, d1, TC.cl_Teller, TC.n_stored, tF_stored, .inl ⟨rfl, _, SqL.ofL d2⟩, s, _, 0, 0, y, rfl, rfl, d2, by decide, by decide, hix, by rw [ey]; rfl, ?_⟩
     have e1 : upd Hd s (.lst ((ys ++ [V.ref c]).eraseIdx 0)) p = _ := (upd_ne nps).trans d1
     refine ⟨_, rfl, p, C, dx, _, _, rfl, e1, TC.cl_Teller, TC.n_total, tF_total, ?_⟩
     have eT2 : Tups Hd (upd Hd s (.lst ((ys ++ [V.ref c]).eraseIdx 0))) := (Tups.refl Hd).put d2 (fun _ z => by cases z)
     refine q _ ⟨⟨dx, ?_⟩, ⟨_, upd_same, ?_⟩, ⟨_, (upd_ne nsd.symm).trans d3, nAll.tups eT2⟩⟩ fun c' o e hc' => ?_
     · rw [← eT]; exact e1
     · have ee : (ys ++ [V.ref c]).eraseIdx 0 = (ys ++ [V.ref c]).drop 1 := by rw [ey]; rfl
       rw [lastK_full hfull]
       rw [ee] at eT2 ⊢
       exact (mAll.drop 1).tups eT2
     · rw [upd_ne (fun z => hc' (by rw [z]; simp))]; exact dB c' o e hc'
   · have hg' : ¬ (((ys ++ [V.ref c]).length : Nat) : Int) > k := fun z => hg (decide_eq_true z)
     have hsm : all.length + 1 ≤ k.toNat := by omega
     refine ⟨_, rfl, p, C, dx, _, _, rfl, d1, TC.cl_Teller, TC.n_total, tF_total, ?_⟩
     refine q _ ⟨⟨dx, ?_⟩, ⟨_, d2, ?_⟩, ⟨_, d3, nAll⟩⟩ dB
     · rw [← eT]; exact d1
     · rw [lastK_small hsm]; exact mAll
abbrev s_Teller_told : Stmt := inClass (top 19) 2
abbrev N_Teller_told : List Str := ["self"]
theorem sc_Teller_told : FnScope N_Teller_told ["self"] (defScope s_Teller_told) := ⟨rfl, rfl, rfl, by decide +kernel, rfl, by decide +kernel, by decide +kernel⟩
theorem ok_Teller_told {f C : Addr} {fd : FuncData} (F : Fun K "told" "Teller.told" s_Teller_told f fd) (TC : TellerC K mg C) : FnOk P w K mg base CX0 1 f fd ["self"] (spTold C) := by
 refine F.ok sc_Teller_told (fun vs H Q E h => ?_) (fun cdv A outer s0 H vs Q E hr h => ?_)
 · obtain ⟨p, k, r, all, s, d, rfl, _⟩ := h; rfl
 · obtain ⟨p, k, r, all, s, d, rfl, TA, q⟩ := h
   refine ⟨_, (pss_one (ps_ret (k_fld K (pv 0) rfl))), ?_⟩
   obtain ⟨dx, h1⟩ := TA.ob
   exact ⟨_, rfl, p, C, dx, _, _, rfl, h1, TC.cl_Teller, TC.n_total, tF_total, q⟩
abbrev s_Teller_oldest : Stmt := inClass (top 19) 4
abbrev N_Teller_oldest : List Str := ["self"]
theorem sc_Teller_oldest : FnScope N_Teller_oldest ["self"] (defScope s_Teller_oldest) := ⟨rfl, rfl, rfl, by decide +kernel, rfl, by decide +kernel, by decide +kernel⟩
theorem ok_Teller_oldest {f C : Addr} {fd : FuncData} (F : Fun K "oldest" "Teller.oldest" s_Teller_oldest f fd) (T : Txt mg) (TC : TellerC K mg C) : FnOk P w K mg base CX0 1 f fd ["self"] (spOldest C) := by
 refine F.ok sc_Teller_oldest (fun vs H Q E h => ?_) (fun cdv A outer s0 H vs Q E hr h => ?_)
 · obtain ⟨p, k, r, all, s, d, rfl, _⟩ := h; rfl
 · obtain ⟨p, k, r, all, s, d, rfl, TA, q⟩ := h
   refine ⟨_, (pss_one (ps_ret (pe_op op_add (pe_op op_sub (k_fld K (pv 0) rfl) (as_callB (k_len_seq K) (by rfl) T.b_len PySem.boot_len (at_cons (k_fld K (pv 0) rfl) as_nil))) pe_int))), ?_⟩
   obtain ⟨dx, h1⟩ := TA.ob
   obtain ⟨ys, hs, hm⟩ := TA.st
   rw [← hm.len] at q
   exact ⟨_, rfl, p, C, dx, _, _, rfl, h1, TC.cl_Teller, TC.n_total, tF_total, _, rfl, p, C, dx, _, _, rfl, h1, TC.cl_Teller, TC.n_stored, tF_stored, s, ys, rfl, .inl (SqL.ofL hs), _, _, rfl, rfl, _, _, rfl, rfl, q⟩
abbrev s_Teller_behind : Stmt := inClass (top 19) 6
abbrev N_Teller_behind : List Str := ["self", "number", "topics", "found"]
theorem sc_Teller_behind : FnScope N_Teller_behind ["self", "number", "topics"] (defScope s_Teller_behind) := ⟨rfl, rfl, rfl, by decide +kernel, rfl, by decide +kernel, by decide +kernel⟩
theorem ok_Teller_behind {f C : Addr} {fd : FuncData} (F : Fun K "behind" "Teller.behind" s_Teller_behind f fd) (T : Txt mg) (TC : TellerC K mg C) (c_of_topics : Callee P w K mg base 2 "of_topics" ["messages", "topics"] (spOfT K)) (c_with_greater_numbers : Callee P w K mg base 2 "with_greater_numbers" ["messages", "number"] spGreater)
   (m_oldest : CalleeM P w K mg base 1 C "oldest" ["self"] (spOldest C)) : FnOk P w K mg base CX0 3 f fd ["self", "number", "topics"] (spBehind K C) := by
 refine F.ok sc_Teller_behind (fun vs H Q E h => ?_) (fun cdv A outer s0 H vs Q E hr h => ?_)
 · obtain ⟨p, n, tv, ts, k, r, all, s, d, rfl, _⟩ := h; rfl
 · obtain ⟨p, n, tv, ts, k, r, all, s, d, rfl, TA, hlen, hn0, hn1, htv, q⟩ := h
   refine ⟨_, (pss_cons (ps_if (PW.pt (pw_or (pt_cmpR op_lt (pv 1) pe_int (nomark _)) (pw_or1 (pt_cmpR op_gt (pv 1) (k_fld K (pv 0) rfl) (nomark _))))) (pss_one ps_never) pss_nil)
     (pss_cons (ps_set (i := 3) sc_Teller_behind.nd rfl (Or.inl rfl) (as_fn c_of_topics (hr.mono (by decide)) (at_cons (as_fn c_with_greater_numbers (hr.mono (by decide)) (at_cons (k_fld K (pv 0) rfl) (as_cons (pv 1) as_nil))) (as_cons (pv 2) as_nil))))
     (pss_one (ps_ret (as_tup (as_cons (pv 3) (as_cons (as_callB (call_max2 rfl) (by rfl) T.b_max PyProof.Rows.boot_max (at_cons pe_int (as_cons (pe_op op_sub (pe_op op_sub (as_meth0 m_oldest TC.cl_Teller (hr.mono (by decide)) (pv 0)) pe_int) (pv 1)) as_nil))) as_nil))))))), ?_⟩
   obtain ⟨dx, h1⟩ := TA.ob
   obtain ⟨ys, hs, hm⟩ := TA.st
   have hll := lastK_len k all
   refine ⟨_, rfl, _, _, rfl, rfl, _, rfl, ?_⟩
   refine ite2 (fun z => absurd (of_decide_eq_true z) (by omega)) (fun _ => ?_)
   refine ⟨_, rfl, _, rfl, p, C, dx, _, _, rfl, h1, TC.cl_Teller, TC.n_total, tF_total, _, _, rfl, rfl, _, rfl, ?_⟩
   refine ite2 (fun z => absurd (of_decide_eq_true z) (by omega)) (fun _ => ?_)
   refine ⟨_, rfl, p, C, dx, _, _, rfl, h1, TC.cl_Teller, TC.n_stored, tF_stored, _, rfl, s, ys, _, n, rfl, hs, hm, by omega, fun p1 y1 H1 s1 n1 e1 m1 => ?_⟩
   have hfl : ((lastK k all).filter fun m => decide (m.n > n)).length ≤ (lastK k all).length := List.length_filter_le _ _
   refine ⟨_, rfl, p1, y1, _, tv, ts, rfl, e1, m1, by omega, htv.same s1, fun p2 y2 H2 s2 n2 e2 m2 => ?_⟩
   have s12 := s1.trans s2
   obtain ⟨dx', g1⟩ := (TA.same s12).ob
   refine ⟨_, rfl, _, rfl, p, dx', _, rfl, g1, tF_no (by decide +kernel) (by decide +kernel) (by decide +kernel) (by decide +kernel) (by decide +kernel), p, k, r, all, s, d, rfl, TA.same s12, ?_⟩
   refine ⟨_, _, rfl, rfl, _, rfl, _, _, rfl, rfl, 0, _, rfl, (show 2 ≤ sizeLine by decide), fun p3 hp3 => ?_⟩
   have s3 := Same.new (o := .tup [.ref p2, .int (missedF k n all)]) hp3
   exact q p3 p2 y2 _ (s12.trans s3) (s12.free hp3) (s1.free n2) upd_same (s3 _ _ e2) (m2.same s3)
abbrev s_Road___init__ : Stmt := inClass (top 17) 0
abbrev N_Road___init__ : List Str := ["self", "size", "way"]
theorem sc_Road___init__ : FnScope N_Road___init__ ["self", "size", "way"] (defScope s_Road___init__) := ⟨rfl, rfl, rfl, by decide +kernel, rfl, by decide +kernel, by decide +kernel⟩
theorem ok_Road_init {f C : Addr} {fd : FuncData} (F : Fun K "__init__" "Road.__init__" s_Road___init__ f fd) (TC : RoadC K mg C) : FnOk P w K mg base CX0 1 f fd ["self", "size", "way"] (spInitR C) := by
 refine F.ok sc_Road___init__ (fun vs H Q E h => ?_) (fun cdv A outer s H vs Q E hr h => ?_)
 · obtain ⟨p, dx, sz, way, rfl, _⟩ := h; rfl
 · obtain ⟨p, dx, sz, way, rfl, hp, q⟩ := h
   refine ⟨_, (pss_cons (k_sfld K (pv 0) (pv 1) rfl)
     (pss_cons (k_sfld K (pv 0) (pv 2) rfl)
     (pss_cons (k_sfld K (pv 0) (as_lst as_nil) rfl)
     (pss_cons (k_sfld K (pv 0) (as_lst as_nil) rfl)
     (pss_one (k_sfld K (pv 0) pe_bl rfl)))))), ?_⟩
   have l1 := putF_len "size" (.int sz) []
   have l2 := putF_len "way" (.str way) (putF "size" (.int sz) [])
   have l0 : ([] : List (Str × V)).length = 0 := rfl
   refine ⟨_, rfl, _, rfl, p, C, dx, [], rfl, hp, TC.cl_Road, TC.n_size, (by show 0 < 1000; decide), ?_⟩
   refine ⟨_, rfl, _, rfl, p, C, dx, _, rfl, upd_same, TC.cl_Road, TC.n_way, by omega, ?_⟩
   refine ⟨Nat.zero_le _, fun r hr => ?_⟩
   have npr : p ≠ r := ne_of_none upd_same hr
   refine ⟨_, rfl, p, C, dx, _, rfl, (by rw [upd_ne npr]; exact upd_same), TC.cl_Road, TC.n_row, by omega, ?_⟩
   refine ⟨Nat.zero_le _, fun d hd => ?_⟩
   have npd : p ≠ d := ne_of_none upd_same hd
   have nrd : r ≠ d := fun e => by rw [← e, upd_ne npr.symm, upd_same] at hd; cases hd
   have l3 := putF_len "row" (.ref r) (putF "way" (.str way) (putF "size" (.int sz) []))
   refine ⟨_, rfl, p, C, dx, _, rfl, (by rw [upd_ne npd]; exact upd_same), TC.cl_Road, TC.n_dropped, by omega, ?_⟩
   have l4 := putF_len "dropped" (.ref d) (putF "row" (.ref r) (putF "way" (.str way) (putF "size" (.int sz) [])))
   refine ⟨_, rfl, p, C, dx, _, rfl, upd_same, TC.cl_Road, TC.n_broken, by omega, ?_⟩
   rw [rF_make]
   have hr0 : H r = none := by rw [upd_ne npr.symm, upd_ne npr.symm] at hr; exact hr
   have hd0 : H d = none := by rw [upd_ne npd.symm, upd_ne nrd.symm, upd_ne npd.symm, upd_ne npd.symm] at hd; exact hd
   refine q r d _ ⟨⟨dx, upd_same⟩, ⟨[], ?_, Ms.nil⟩, ?_, nrd⟩ ⟨fun b o e hb => ?_, fun b xs e => ?_, fun c hc => ?_⟩
   · rw [upd_ne npr.symm, upd_ne npr.symm, upd_ne nrd, upd_ne npr.symm, upd_same]
   · rw [upd_ne npd.symm, upd_ne npd.symm, upd_same]; rfl
   · have hb' : b ≠ p := by simpa using hb
     rw [upd_ne hb', upd_ne hb', upd_ne (ne_of_none e hd0), upd_ne hb', upd_ne (ne_of_none e hr0), upd_ne hb', upd_ne hb']; exact e
   · have hb' : b ≠ p := ne_of e hp (by intro z; cases z)
     rw [upd_ne hb', upd_ne hb', upd_ne (ne_of_none e hd0), upd_ne hb', upd_ne (ne_of_none e hr0), upd_ne hb', upd_ne hb']; exact e
   · simp only [List.mem_cons, List.not_mem_nil, or_false] at hc
     rcases hc with rfl | rfl | rfl
     · exact .inl (by simp)
     · exact .inr hr0
     · exact .inr hd0
abbrev s_Road_leave_out : Stmt := inClass (top 17) 3
abbrev N_Road_leave_out : List Str := ["self", "messages"]
theorem sc_Road_leave_out : FnScope N_Road_leave_out ["self", "messages"] (defScope s_Road_leave_out) := ⟨rfl, rfl, rfl, by decide +kernel, rfl, by decide +kernel, by decide +kernel⟩
theorem ok_Road_leave_out {f C : Addr} {fd : FuncData} (F : Fun K "leave_out" "Road.leave_out" s_Road_leave_out f fd) (TC : RoadC K mg C) (c_number_of : Callee P w K mg base 1 "number_of" ["message"] (spItem 0)) : FnOk P w K mg base CX0 2 f fd ["self", "messages"] (spLeave C) := by
 refine F.ok sc_Road_leave_out (fun vs H Q E h => ?_) (fun cdv A outer s0 H vs Q E hr h => ?_)
 · obtain ⟨p, b, xs, ms, sz, way, s, r, d, rfl, _⟩ := h; rfl
 · obtain ⟨p, b, xs, ms, sz, way, s, r, d, rfl, RA, hb, hm, hml, hol, q⟩ := h
   refine ⟨_, (pss_one (ps_expr (k_bm K PySem.F.plainAttrs_list PySem.F.slot_list_extend PySem.F.type_list_extend mt_extend (k_fld K (pv 0) rfl) (pa_cons (pe_comp (N' := ["message"]) (ix := [none]) (own := [0]) rfl (cs_of (osc := defScope s_Road_leave_out) (ON := N_Road_leave_out) rfl rfl (by decide +kernel)) (by decide) (k_it_list K (pv 1)) (fun _ _ _ _ => (pg_name (i := 0) (show (["message"] : List Str).Nodup by decide +kernel) rfl (Or.inl rfl))) own_name (fun _ _ _ _ => pifs_nil) (fun _ _ _ _ => (as_fn c_number_of (hr.mono (by decide)) (at_cons (pv 0) as_nil)))) pa_nil)))), ?_⟩
   obtain ⟨⟨dx, h1⟩, ⟨ys, h2, h3⟩, h4, h5⟩ := id RA
   refine ⟨_, rfl, p, C, dx, _, _, rfl, h1, TC.cl_Road, TC.n_dropped, rF_dropped, .inl ⟨rfl, _, SqL.ofL h4⟩, _, rfl, b, rfl, ⟨xs, SqL.ofL hb⟩, ?_⟩
   refine ⟨_, PMap H ms fun m => .int m.n, szl (by omega), PMap.zero, PMap.step hb hm (fun c m R N hmm hc hR => ?_), fun ys' H2 hP => ?_⟩
   · exact rd_name (rd_yes (iteT ⟨_, rfl, c, _, _, _, rfl, hc, hR⟩))
   · obtain ⟨hst, rfl, rfl⟩ := PMap.done (K := K) hb hm hP
     refine ⟨hst, fun D hD => ?_⟩
     have s1 := Same.new (o := .lst (ms.map fun m => V.int m.n)) hD
     refine ⟨d, D, _, _, rfl, rfl, s1 _ _ h4, upd_same, by rw [List.length_map, List.length_map, sizeLine_eq]; omega, ?_⟩
     have st : Stp [d] H [d] _ := (s1.step [d]).trans (Stp.put (o := .lst (s.out.map V.int ++ ms.map fun m => V.int m.n)) (s1 _ _ h4) (fun _ z => by cases z) (by simp))
     refine q _ ⟨⟨dx, st.keep h1 (by simp [RA.npd])⟩, ⟨ys, st.keep h2 (by simp [h5]), h3.step st⟩, ?_, h5⟩ st
     rw [upd_same, List.map_append, List.map_map]; rfl
abbrev s_Road_put_without_room : Stmt := inClass (top 17) 2
abbrev N_Road_put_without_room : List Str := ["self", "message"]
theorem sc_Road_put_without_room : FnScope N_Road_put_without_room ["self", "message"] (defScope s_Road_put_without_room) := ⟨rfl, rfl, rfl, by decide +kernel, rfl, by decide +kernel, by decide +kernel⟩
theorem ok_Road_put_without_room {f C : Addr} {fd : FuncData} (F : Fun K "put_without_room" "Road.put_without_room" s_Road_put_without_room f fd) (TC : RoadC K mg C) (m_leave_out : CalleeM P w K mg base 2 C "leave_out" ["self", "messages"] (spLeave C)) : FnOk P w K mg base CX0 3 f fd ["self", "message"] (spPutW C) := by
 refine F.ok sc_Road_put_without_room (fun vs H Q E h => ?_) (fun cdv A outer s0 H vs Q E hr h => ?_)
 · obtain ⟨p, c, m, sz, way, s, r, d, rfl, _⟩ := h; rfl
 · obtain ⟨p, c, m, sz, way, s, r, d, rfl, RA, hc, hrl, hol, hcut, hns, q⟩ := h
   refine ⟨_, (pss_cons (ps_if (pt_cmpR op_eq (k_fld K (pv 0) rfl) pe_str (nomark _)) (pss_cons (ps_expr (as_meth m_leave_out TC.cl_Road (hr.mono (by decide)) (pv 0) (at_cons (pe_slice (k_sl_list K) (k_fld K (pv 0) rfl) po_none (po_some pe_int)) as_nil)))
     (pss_cons (k_sfld K (pv 0) (pe_op op_cat (pe_slice (k_sl_list K) (k_fld K (pv 0) rfl) (po_some pe_int) po_none) (as_lst (as_cons (pv 1) as_nil))) rfl)
     (pss_one (ps_ret pe_bl)))) pss_nil)
     (pss_cons (ps_if (pt_cmpR op_eq (k_fld K (pv 0) rfl) pe_str (nomark _)) (pss_cons (ps_expr (as_meth m_leave_out TC.cl_Road (hr.mono (by decide)) (pv 0) (at_cons (as_lst (as_cons (pv 1) as_nil)) as_nil)))
     (pss_one (ps_ret pe_bl))) pss_nil)
     (pss_cons (ps_expr (as_meth m_leave_out TC.cl_Road (hr.mono (by decide)) (pv 0) (at_cons (pe_op op_cat (k_fld K (pv 0) rfl) (as_lst (as_cons (pv 1) as_nil))) as_nil)))
     (pss_cons (k_sfld K (pv 0) (as_lst as_nil) rfl)
     (pss_cons (k_sfld K (pv 0) pe_bl rfl)
     (pss_one (ps_ret pe_bl))))))), ?_⟩
   obtain ⟨⟨dx, h1⟩, ⟨ys, h2, h3⟩, h4, h5⟩ := id RA
   have no : ∀ {r d : Addr} {b : Bool}, (rF sz way r d b).lookup ("leave_out" : Str) = none := rF_no (by decide +kernel) (by decide +kernel) (by decide +kernel) (by decide +kernel) (by decide +kernel)
   have lF : ∀ {r d : Addr} {b : Bool}, (rF sz way r d b).length < 1000 := by intro r d b; show 5 < 1000; decide
   have hyl := h3.len
   have hsc : ¬ s.cut = true := by rw [hcut]; decide
   refine ⟨_, rfl, p, C, dx, _, _, rfl, h1, TC.cl_Road, TC.n_way, rF_way, rfl, _, rfl, ?_⟩
   refine ite2 (fun ho => ?_) (fun ho => ?_)
   · have how : way = "old" := by simpa using ho
     have eS : rputS sz way s m = { s with rows := s.rows.drop 1 ++ [m], out := s.out ++ (s.rows.take 1).map (·.n) } := by
       unfold rputS; rw [if_neg hsc, if_neg hns, if_pos how]
     have eB : rputB sz way s = true := by unfold rputB; rw [if_neg hsc, if_neg hns, if_pos how]
     rw [eS, eB] at q
     refine ⟨_, rfl, p, dx, _, rfl, h1, no, _, rfl, p, C, dx, _, _, rfl, h1, TC.cl_Road, TC.n_row, rF_row, _, rfl, r, ys, rfl, SqL.ofL h2, fun l hl => ?_⟩
     rw [cut_to (by decide)]
     have s1 := Same.new (o := .lst (ys.take (1 : Int).toNat)) hl
     refine ⟨p, l, _, s.rows.take 1, sz, way, s, r, d, rfl, RA.same s1, upd_same, (h3.same s1).take 1, by rw [List.length_take]; omega, hol, fun H2 RA2 st2 => ?_⟩
     have st2' := (s1.step [d]).trans st2
     obtain ⟨⟨dx2, g1⟩, ⟨ys2, g2, g3⟩, g4, g5⟩ := id RA2
     refine ⟨_, rfl, p, C, dx2, _, _, rfl, g1, TC.cl_Road, TC.n_row, rF_row, _, rfl, r, ys2, rfl, SqL.ofL g2, fun l2 hl2 => ?_⟩
     rw [cut_from (by decide)]
     have s3 := Same.new (o := .lst (ys2.drop (1 : Int).toNat)) hl2
     refine ⟨_, rfl, (show 1 ≤ sizeLine by decide), fun l3 hl3 => ?_⟩
     have s4 := s3.trans (Same.new (o := .lst [.ref c]) hl3)
     refine ⟨l2, l3, _, _, rfl, rfl, (Same.new (o := .lst [.ref c]) hl3) _ _ upd_same, upd_same, by rw [List.length_drop, sizeLine_eq, g3.len]; show _ - _ + 1 ≤ _; have : ({ s with out := s.out ++ (s.rows.take 1).map (·.n) } : RS).rows.length = s.rows.length := rfl; omega, fun l4 hl4 => ?_⟩
     have s5 := s4.trans (Same.new (o := .lst (ys2.drop (1 : Int).toNat ++ [.ref c])) hl4)
     have i1 := s5 _ _ g1
     refine ⟨_, rfl, p, C, dx2, _, rfl, i1, TC.cl_Road, TC.n_row, lF, ?_⟩
     rw [rF_setRow]
     have np4 : p ≠ l4 := ne_of_none (s4 _ _ g1) hl4
     have nd4 : l4 ≠ d := (ne_of_none (s4 _ _ g4) hl4).symm
     have st : Stp [p, r, d] H [p, l4, d] _ := ((st2'.up (qs := [p, r, d]) (by simp)).trans ((s4.step [p, r, d]).trans (Stp.make (o := .lst (ys2.drop (1 : Int).toNat ++ [.ref c])) hl4))).trans ((Stp.put (p := p) (ps := [p, l4, d]) (o := .ins C dx2 (rF sz way l4 d s.cut)) i1 (fun _ z => by cases z) (by simp)).weak (qs := l4 :: [p, r, d]) (by simp) (by simp))
     have hc2 := st.tup _ _ hc
     refine q l4 _ ⟨⟨dx2, upd_same⟩, ⟨_, (upd_ne np4.symm).trans upd_same, ?_⟩, ?_, nd4⟩ st
     · exact ((g3.drop 1).tups (s5.tups.trans (Stp.put (ps := [p]) (o := .ins C dx2 (rF sz way l4 d s.cut)) i1 (fun _ z => by cases z) (by simp)).tup)).append (Ms.one hc2)
     · rw [upd_ne (ne_of g1 g4 (by intro z; cases z)).symm]
       exact s5 _ _ g4
   · have how : ¬ way = "old" := by simpa using ho
     refine ⟨_, rfl, p, C, dx, _, _, rfl, h1, TC.cl_Road, TC.n_way, rF_way, rfl, _, rfl, ?_⟩
     refine ite2 (fun hw => ?_) (fun hw => ?_)
     · have hwn : way = "new" := by simpa using hw
       have eS : rputS sz way s m = { s with out := s.out ++ [m.n] } := by
         unfold rputS; rw [if_neg hsc, if_neg hns, if_neg how, if_pos hwn]
       have eB : rputB sz way s = false := by unfold rputB; rw [if_neg hsc, if_neg hns, if_neg how]
       rw [eS, eB] at q
       refine ⟨_, rfl, p, dx, _, rfl, h1, no, _, rfl, (show 1 ≤ sizeLine by decide), fun l hl => ?_⟩
       have s1 := Same.new (o := .lst [.ref c]) hl
       exact ⟨p, l, _, [m], sz, way, s, r, d, rfl, RA.same s1, upd_same, Ms.one (s1 _ _ hc), (show 1 < 64 by decide), hol, fun H2 RA2 st2 => q r H2 RA2 (((s1.step [d]).trans st2).up (by simp))⟩
     · have hwn : ¬ way = "new" := by simpa using hw
       have eS : rputS sz way s m = ⟨[], s.out ++ (s.rows ++ [m]).map (·.n), true⟩ := by
         unfold rputS; rw [if_neg hsc, if_neg hns, if_neg how, if_neg hwn]
       have eB : rputB sz way s = false := by unfold rputB; rw [if_neg hsc, if_neg hns, if_neg how]
       rw [eS, eB] at q
       refine ⟨_, rfl, p, dx, _, rfl, h1, no, _, rfl, p, C, dx, _, _, rfl, h1, TC.cl_Road, TC.n_row, rF_row, _, rfl, (show 1 ≤ sizeLine by decide), fun l hl => ?_⟩
       have s1 := Same.new (o := .lst [.ref c]) hl
       refine ⟨r, l, _, _, rfl, rfl, s1 _ _ h2, upd_same, by rw [sizeLine_eq, hyl]; show _ + 1 ≤ _; omega, fun l2 hl2 => ?_⟩
       have s2 := s1.trans (Same.new (o := .lst (ys ++ [.ref c])) hl2)
       refine ⟨p, l2, _, s.rows ++ [m], sz, way, s, r, d, rfl, RA.same s2, upd_same, (h3.same s2).append (Ms.one (s2 _ _ hc)), by rw [List.length_append]; show _ + 1 < _; omega, hol, fun H3 RA3 st3 => ?_⟩
       obtain ⟨⟨dx3, g1⟩, ⟨ys3, g2, g3⟩, g4, g5⟩ := id RA3
       refine ⟨Nat.zero_le _, fun l4 hl4 => ?_⟩
       have s4 := Same.new (o := .lst []) hl4
       have i1 := s4 _ _ g1
       refine ⟨_, rfl, p, C, dx3, _, rfl, i1, TC.cl_Road, TC.n_row, lF, ?_⟩
       rw [rF_setRow]
       refine ⟨_, rfl, p, C, dx3, _, rfl, upd_same, TC.cl_Road, TC.n_broken, lF, ?_⟩
       rw [rF_setBroken, upd_upd]
       have np4 : p ≠ l4 := ne_of_none g1 hl4
       have nd4 : l4 ≠ d := (ne_of_none g4 hl4).symm
       have st : Stp [p, r, d] H [p, l4, d] _ := ((((s2.step [d]).trans st3).up (qs := [p, r, d]) (by simp)).trans (Stp.make (o := .lst []) hl4)).trans ((Stp.put (p := p) (ps := [p, l4, d]) (o := .ins C dx3 (rF sz way l4 d true)) i1 (fun _ z => by cases z) (by simp)).weak (qs := l4 :: [p, r, d]) (by simp) (by simp))
       refine q l4 _ ⟨⟨dx3, upd_same⟩, ⟨_, (upd_ne np4.symm).trans upd_same, Ms.nil⟩, ?_, nd4⟩ st
       rw [upd_ne (ne_of g1 g4 (by intro z; cases z)).symm]
       exact s4 _ _ g4
abbrev s_Road_put : Stmt := inClass (top 17) 1
abbrev N_Road_put : List Str := ["self", "message"]
theorem sc_Road_put : FnScope N_Road_put ["self", "message"] (defScope s_Road_put) := ⟨rfl, rfl, rfl, by decide +kernel, rfl, by decide +kernel, by decide +kernel⟩
theorem ok_Road_put {f C : Addr} {fd : FuncData} (F : Fun K "put" "Road.put" s_Road_put f fd) (T : Txt mg) (TC : RoadC K mg C) (m_leave_out : CalleeM P w K mg base 2 C "leave_out" ["self", "messages"] (spLeave C)) (m_put_without_room : CalleeM P w K mg base 3 C "put_without_room" ["self", "message"] (spPutW C)) : FnOk P w K mg base CX0 4 f fd ["self", "message"] (spPut C) := by
 refine F.ok sc_Road_put (fun vs H Q E h => ?_) (fun cdv A outer s0 H vs Q E hr h => ?_)
 · obtain ⟨p, c, m, sz, way, s, r, d, rfl, _⟩ := h; rfl
 · obtain ⟨p, c, m, sz, way, s, r, d, rfl, RA, hc, hrl, hol, q⟩ := h
   refine ⟨_, (pss_cons (ps_if (pt_val (k_fld K (pv 0) rfl)) (pss_cons (ps_expr (as_meth m_leave_out TC.cl_Road (hr.mono (by decide)) (pv 0) (at_cons (as_lst (as_cons (pv 1) as_nil)) as_nil)))
     (pss_one (ps_ret pe_bl))) pss_nil)
     (pss_cons (ps_if (pt_cmpR op_lt (as_callB (k_len_seq K) (by rfl) T.b_len PySem.boot_len (at_cons (k_fld K (pv 0) rfl) as_nil)) (k_fld K (pv 0) rfl) (nomark _)) (pss_cons (ps_expr (k_bm K PySem.F.plainAttrs_list PySem.F.slot_list_append PySem.F.type_list_append mt_append (k_fld K (pv 0) rfl) (pa_cons (pv 1) pa_nil)))
     (pss_one (ps_ret pe_bl))) pss_nil)
     (pss_one (ps_ret (as_meth m_put_without_room TC.cl_Road (hr.mono (by decide)) (pv 0) (at_cons (pv 1) as_nil)))))), ?_⟩
   obtain ⟨⟨dx, h1⟩, ⟨ys, h2, h3⟩, h4, h5⟩ := id RA
   have no1 : ∀ {r d : Addr} {b : Bool}, (rF sz way r d b).lookup ("leave_out" : Str) = none := rF_no (by decide +kernel) (by decide +kernel) (by decide +kernel) (by decide +kernel) (by decide +kernel)
   have no2 : ∀ {r d : Addr} {b : Bool}, (rF sz way r d b).lookup ("put_without_room" : Str) = none := rF_no (by decide +kernel) (by decide +kernel) (by decide +kernel) (by decide +kernel) (by decide +kernel)
   have hyl := h3.len
   refine ⟨_, rfl, p, C, dx, _, _, rfl, h1, TC.cl_Road, TC.n_broken, rF_broken, _, rfl, ?_⟩
   refine ite2 (fun hsc => ?_) (fun hsc => ?_)
   · have eS : rputS sz way s m = { s with out := s.out ++ [m.n] } := by unfold rputS; rw [if_pos hsc]
     have eB : rputB sz way s = false := by unfold rputB; rw [if_pos hsc]
     rw [eS, eB] at q
     refine ⟨_, rfl, p, dx, _, rfl, h1, no1, _, rfl, (show 1 ≤ sizeLine by decide), fun l hl => ?_⟩
     have s1 := Same.new (o := .lst [.ref c]) hl
     exact ⟨p, l, _, [m], sz, way, s, r, d, rfl, RA.same s1, upd_same, Ms.one (s1 _ _ hc), (show 1 < 64 by decide), hol, fun H2 RA2 st2 => q r H2 RA2 (((s1.step [d]).trans st2).up (by simp))⟩
   · refine ⟨_, rfl, p, C, dx, _, _, rfl, h1, TC.cl_Road, TC.n_row, rF_row, r, ys, rfl, .inl (SqL.ofL h2), _, rfl, p, C, dx, _, _, rfl, h1, TC.cl_Road, TC.n_size, rF_size, _, _, rfl, rfl, _, rfl, ?_⟩
     refine ite2 (fun hlt => ?_) (fun hlt => ?_)
     · have hlt' : (s.rows.length : Int) < sz := by rw [← hyl]; exact of_decide_eq_true hlt
       have eS : rputS sz way s m = { s with rows := s.rows ++ [m] } := by unfold rputS; rw [if_neg hsc, if_pos hlt']
       have eB : rputB sz way s = true := by unfold rputB; rw [if_neg hsc, if_pos hlt']
       rw [eS, eB] at q
       refine ⟨_, rfl, p, C, dx, _, _, rfl, h1, TC.cl_Road, TC.n_row, rF_row, .inl ⟨rfl, _, SqL.ofL h2⟩, _, rfl, r, ys, .ref c, rfl, rfl, h2, by rw [sizeLine_eq, hyl]; omega, ?_⟩
       have st : Stp [r] H [r] (upd H r (.lst (ys ++ [.ref c]))) := Stp.put h2 (fun _ z => by cases z) (by simp)
       exact q r _ ⟨⟨dx, st.keep h1 (by simp [RA.npr])⟩, ⟨_, upd_same, (h3.step st).append (Ms.one (st.tup _ _ hc))⟩, st.keep h4 (by simp [h5.symm]), h5⟩ (st.up (by simp))
     · have hlt' : ¬ (s.rows.length : Int) < sz := by rw [← hyl]; exact fun z => hlt (decide_eq_true z)
       exact ⟨_, rfl, p, dx, _, rfl, h1, no2, _, rfl, p, c, m, sz, way, s, r, d, rfl, RA, hc, hrl, hol, by simpa using hsc, hlt', q⟩
abbrev s_Road_take : Stmt := inClass (top 17) 4
abbrev N_Road_take : List Str := ["self", "many", "taken"]
theorem sc_Road_take : FnScope N_Road_take ["self", "many"] (defScope s_Road_take) := ⟨rfl, rfl, rfl, by decide +kernel, rfl, by decide +kernel, by decide +kernel⟩
theorem ok_Road_take {f C : Addr} {fd : FuncData} (F : Fun K "take" "Road.take" s_Road_take f fd) (T : Txt mg) (TC : RoadC K mg C) : FnOk P w K mg base CX0 1 f fd ["self", "many"] (spTakeR C) := by
 refine F.ok sc_Road_take (fun vs H Q E h => ?_) (fun cdv A outer s0 H vs Q E hr h => ?_)
 · obtain ⟨p, n, sz, way, s, r, d, rfl, _⟩ := h; rfl
 · obtain ⟨p, n, sz, way, s, r, d, rfl, RA, hn, q⟩ := h
   refine ⟨_, (pss_cons (ps_set (i := 2) sc_Road_take.nd rfl (Or.inl rfl) (pe_slice (k_sl_list K) (k_fld K (pv 0) rfl) po_none (po_some (as_callB (call_max2 rfl) (by rfl) T.b_max PyProof.Rows.boot_max (at_cons pe_int (as_cons (pv 1) as_nil))))))
     (pss_cons (k_sfld K (pv 0) (pe_slice (k_sl_list K) (k_fld K (pv 0) rfl) (po_some (as_callB (k_len_seq K) (by rfl) T.b_len PySem.boot_len (at_cons (pv 2) as_nil))) po_none) rfl)
     (pss_one (ps_ret (pv 2))))), ?_⟩
   obtain ⟨⟨dx, h1⟩, ⟨ys, h2, h3⟩, h4, h5⟩ := id RA
   have lF : ∀ {r d : Addr} {b : Bool}, (rF sz way r d b).length < 1000 := by intro r d b; show 5 < 1000; decide
   have hmx : (if n > 0 then n else 0) = n := by split <;> omega
   refine ⟨_, rfl, p, C, dx, _, _, rfl, h1, TC.cl_Road, TC.n_row, rF_row, _, rfl, _, _, rfl, _, rfl, r, ys, rfl, SqL.ofL h2, fun l hl => ?_⟩
   rw [hmx, cut_to hn]
   have s1 := Same.new (o := .lst (ys.take n.toNat)) hl
   refine ⟨_, rfl, p, C, dx, _, _, rfl, s1 _ _ h1, TC.cl_Road, TC.n_row, rF_row, _, rfl, l, _, rfl, .inl (SqL.ofL upd_same), _, rfl, r, ys, rfl, SqL.ofL (s1 _ _ h2), fun l2 hl2 => ?_⟩
   have e2 : cutV ys (some (((ys.take n.toNat).length : Nat) : Int)) none = ys.drop n.toNat := by
     rw [cut_from (by omega), Int.toNat_natCast, List.length_take]
     by_cases hh : n.toNat ≤ ys.length
     · rw [Nat.min_eq_left hh]
     · rw [Nat.min_eq_right (by omega), List.drop_of_length_le (Nat.le_refl _), List.drop_of_length_le (by omega)]
   rw [e2]
   have s2 := s1.trans (Same.new (o := .lst (ys.drop n.toNat)) hl2)
   have i1 := s2 _ _ h1
   refine ⟨_, rfl, p, C, dx, _, rfl, i1, TC.cl_Road, TC.n_row, lF, ?_⟩
   rw [rF_setRow]
   have np2 : p ≠ l2 := ne_of_none (s1 _ _ h1) hl2
   have nd2 : l2 ≠ d := (ne_of_none (s1 _ _ h4) hl2).symm
   have nl2 : l ≠ l2 := ne_of_none upd_same hl2
   have nlp : l ≠ p := (ne_of_none h1 hl).symm
   have stp := Stp.put (p := p) (ps := [p]) (o := .ins C dx (rF sz way l2 d s.cut)) i1 (fun _ z => by cases z) (by simp)
   have st : Stp [p, r, d] H [p, l2, d] _ := ((s1.step [p, r, d]).trans (Stp.make (o := .lst (ys.drop n.toNat)) hl2)).trans (stp.weak (qs := l2 :: [p, r, d]) (by simp) (by simp))
   refine ⟨_, rfl, q l _ l2 _ ⟨⟨dx, upd_same⟩, ⟨_, (upd_ne np2.symm).trans upd_same, (h3.drop _).step st⟩, ?_, nd2⟩ st hl ?_ ?_ ((h3.take _).step st)⟩
   · rw [upd_ne RA.npd.symm]; exact s2 _ _ h4
   · simp [nlp, nl2, (ne_of_none h4 hl).symm]
   · rw [upd_ne nlp, upd_ne nl2, upd_same]
abbrev s_Road_waiting : Stmt := inClass (top 17) 5
abbrev N_Road_waiting : List Str := ["self"]
theorem sc_Road_waiting : FnScope N_Road_waiting ["self"] (defScope s_Road_waiting) := ⟨rfl, rfl, rfl, by decide +kernel, rfl, by decide +kernel, by decide +kernel⟩
theorem ok_Road_waiting {f C : Addr} {fd : FuncData} (F : Fun K "waiting" "Road.waiting" s_Road_waiting f fd) (T : Txt mg) (TC : RoadC K mg C) : FnOk P w K mg base CX0 1 f fd ["self"] (spWait C) := by
 refine F.ok sc_Road_waiting (fun vs H Q E h => ?_) (fun cdv A outer s0 H vs Q E hr h => ?_)
 · obtain ⟨p, sz, way, s, r, d, rfl, _⟩ := h; rfl
 · obtain ⟨p, sz, way, s, r, d, rfl, RA, q⟩ := h
   refine ⟨_, (pss_one (ps_ret (as_callTy (k_list_of K) (by rfl) T.b_list PyProof.Rows.boot_list (at_cons (k_fld K (pv 0) rfl) as_nil)))), ?_⟩
   obtain ⟨⟨dx, h1⟩, ⟨ys, h2, h3⟩, h4, h5⟩ := id RA
   exact ⟨_, rfl, p, C, dx, _, _, rfl, h1, TC.cl_Road, TC.n_row, rF_row, r, ys, rfl, .inl (SqL.ofL h2), fun l hl => q l ys hl (h3.same (Same.new hl))⟩
abbrev s_Road_mend : Stmt := inClass (top 17) 8
abbrev N_Road_mend : List Str := ["self"]
theorem sc_Road_mend : FnScope N_Road_mend ["self"] (defScope s_Road_mend) := ⟨rfl, rfl, rfl, by decide +kernel, rfl, by decide +kernel, by decide +kernel⟩
theorem ok_Road_mend {f C : Addr} {fd : FuncData} (F : Fun K "mend" "Road.mend" s_Road_mend f fd) (TC : RoadC K mg C) : FnOk P w K mg base CX0 1 f fd ["self"] (spMend C) := by
 refine F.ok sc_Road_mend (fun vs H Q E h => ?_) (fun cdv A outer s0 H vs Q E hr h => ?_)
 · obtain ⟨p, sz, way, s, r, d, rfl, _⟩ := h; rfl
 · obtain ⟨p, sz, way, s, r, d, rfl, RA, q⟩ := h
   refine ⟨_, (pss_one (k_sfld K (pv 0) pe_bl rfl)), ?_⟩
   obtain ⟨⟨dx, h1⟩, ⟨ys, h2, h3⟩, h4, h5⟩ := id RA
   refine ⟨_, rfl, p, C, dx, _, rfl, h1, TC.cl_Road, TC.n_broken, (show 5 < 1000 by decide), ?_⟩
   rw [rF_setBroken]
   have st : Stp [p] H [p] (upd H p (.ins C dx (rF sz way r d false))) := Stp.put h1 (fun _ z => by cases z) (by simp)
   exact q _ ⟨⟨dx, upd_same⟩, ⟨ys, st.keep h2 (by simp [RA.npr.symm]), h3.step st⟩, st.keep h4 (by simp [RA.npd.symm]), h5⟩ (st.up (by simp))
theorem no_h {C : Addr} {H : Hp} {a : HA} {s : HS} {ex : List (Str × V)} (h : HAt C H a s ex) {nx : Int} {f : Str} (hf : f = "expects" ∨ f = "take" ∨ f = "take_all" ∨ f = "refuse_others" ∨ f = "hear_held" ∨ f = "heard" ∨ f = "early" ∨ f = "missing" ∨ f = "lost" ∨ f = "give_up" ∨ f = "state") : (hF nx a.q a.h a.k a.g ex).lookup f = none := by
 rcases hf with rfl | rfl | rfl | rfl | rfl | rfl | rfl | rfl | rfl | rfl | rfl <;> exact (hF_no (by decide +kernel) (by decide +kernel) (by decide +kernel) (by decide +kernel) (by decide +kernel)).trans (h.exn _ (by decide +kernel))
abbrev s_Hearer___init__ : Stmt := inClass (top 14) 0
abbrev N_Hearer___init__ : List Str := ["self"]
theorem sc_Hearer___init__ : FnScope N_Hearer___init__ ["self"] (defScope s_Hearer___init__) := ⟨rfl, rfl, rfl, by decide +kernel, rfl, by decide +kernel, by decide +kernel⟩
theorem ok_Hearer_init {f C : Addr} {fd : FuncData} (F : Fun K "__init__" "Hearer.__init__" s_Hearer___init__ f fd) (TC : HearC K C) : FnOk P w K mg base CX0 1 f fd ["self"] (spInitH C) := by
 refine F.ok sc_Hearer___init__ (fun vs H Q E h => ?_) (fun cdv A outer s H vs Q E hr h => ?_)
 · obtain ⟨p, dx, rfl, _⟩ := h; rfl
 · obtain ⟨p, dx, rfl, hp, qq⟩ := h
   refine ⟨_, (pss_cons (k_sfld K (pv 0) pe_int rfl)
     (pss_cons (k_sfld K (pv 0) (as_lst as_nil) rfl)
     (pss_cons (k_sfld K (pv 0) pe_dnewK rfl)
     (pss_cons (k_sfld K (pv 0) pe_dnewK rfl)
     (pss_one (k_sfld K (pv 0) (as_lst as_nil) rfl)))))), ?_⟩
   have l0 : ([] : List (Str × V)).length = 0 := rfl
   have l1 := putF_len "next_number" (.int 1) []
   refine ⟨_, rfl, p, C, dx, [], rfl, hp, TC.cl_Hearer, TC.n_next_number, (by show 0 < 1000; decide), ?_⟩
   refine ⟨Nat.zero_le _, fun q hq => ?_⟩
   have npq : p ≠ q := ne_of_none upd_same hq
   refine ⟨_, rfl, p, C, dx, _, rfl, (by rw [upd_ne npq]; exact upd_same), TC.cl_Hearer, TC.n_past, by omega, ?_⟩
   have l2 := putF_len "past" (.ref q) (putF "next_number" (.int 1) [])
   intro h hh
   have nph : p ≠ h := ne_of_none upd_same hh
   have nqh : q ≠ h := fun e => by rw [← e, upd_ne npq.symm, upd_same] at hh; cases hh
   refine ⟨_, rfl, p, C, dx, _, rfl, (by rw [upd_ne nph]; exact upd_same), TC.cl_Hearer, TC.n_held, by omega, ?_⟩
   have l3 := putF_len "held" (.ref h) (putF "past" (.ref q) (putF "next_number" (.int 1) []))
   intro k hk
   have npk : p ≠ k := ne_of_none upd_same hk
   have nhk : h ≠ k := fun e => by rw [← e, upd_ne nph.symm, upd_same] at hk; cases hk
   have nqk : q ≠ k := fun e => by rw [← e, upd_ne npq.symm, upd_ne nqh, upd_ne npq.symm, upd_same] at hk; cases hk
   refine ⟨_, rfl, p, C, dx, _, rfl, (by rw [upd_ne npk]; exact upd_same), TC.cl_Hearer, TC.n_known, by omega, ?_⟩
   have l4 := putF_len "known" (.ref k) (putF "held" (.ref h) (putF "past" (.ref q) (putF "next_number" (.int 1) [])))
   refine ⟨Nat.zero_le _, fun g hg => ?_⟩
   have npg : p ≠ g := ne_of_none upd_same hg
   have nkg : k ≠ g := fun e => by rw [← e, upd_ne npk.symm, upd_same] at hg; cases hg
   have nhg : h ≠ g := fun e => by rw [← e, upd_ne nph.symm, upd_ne nhk, upd_ne nph.symm, upd_same] at hg; cases hg
   have nqg : q ≠ g := fun e => by rw [← e, upd_ne npq.symm, upd_ne nqk, upd_ne npq.symm, upd_ne nqh, upd_ne npq.symm, upd_same] at hg; cases hg
   refine ⟨_, rfl, p, C, dx, _, rfl, (by rw [upd_ne npg]; exact upd_same), TC.cl_Hearer, TC.n_given_up, by omega, ?_⟩
   rw [hF_make]
   have q0 : H q = none := by rw [upd_ne npq.symm] at hq; exact hq
   have h0 : H h = none := by rw [upd_ne nph.symm, upd_ne nqh.symm, upd_ne nph.symm] at hh; exact hh
   have k0 : H k = none := by rw [upd_ne npk.symm, upd_ne nhk.symm, upd_ne npk.symm, upd_ne nqk.symm, upd_ne npk.symm] at hk; exact hk
   have g0 : H g = none := by rw [upd_ne npg.symm, upd_ne nkg.symm, upd_ne npg.symm, upd_ne nhg.symm, upd_ne npg.symm, upd_ne nqg.symm, upd_ne npg.symm] at hg; exact hg
   refine qq ⟨p, q, h, k, g⟩ _ rfl ⟨⟨dx, upd_same⟩, ⟨[], ?_, Ms.nil⟩, ⟨[], ?_, .nil⟩, ⟨[], [], ?_, .nil, List.nodup_nil, Nat.le_refl _, (fun m => by simp [hs0])⟩, ?_, nqg, nhk, fun _ _ => rfl, by decide⟩ ⟨fun b o e hb => ?_, fun b xs e => ?_, fun c hc => ?_⟩
   · show upd _ _ _ q = _; rw [upd_ne npq.symm, upd_ne nqg, upd_ne npq.symm, upd_ne nqk, upd_ne npq.symm, upd_ne nqh, upd_ne npq.symm, upd_same]
   · show upd _ _ _ h = _; rw [upd_ne nph.symm, upd_ne nhg, upd_ne nph.symm, upd_ne nhk, upd_ne nph.symm, upd_same]
   · show upd _ _ _ k = _; rw [upd_ne npk.symm, upd_ne nkg, upd_ne npk.symm, upd_same]
   · show upd _ _ _ g = _; rw [upd_ne npg.symm, upd_same]; rfl
   · have hb' : b ≠ p := by simpa using hb
     rw [upd_ne hb', upd_ne (ne_of_none e g0), upd_ne hb', upd_ne (ne_of_none e k0), upd_ne hb', upd_ne (ne_of_none e h0), upd_ne hb', upd_ne (ne_of_none e q0), upd_ne hb']; exact e
   · have hb' : b ≠ p := ne_of e hp (by intro z; cases z)
     rw [upd_ne hb', upd_ne (ne_of_none e g0), upd_ne hb', upd_ne (ne_of_none e k0), upd_ne hb', upd_ne (ne_of_none e h0), upd_ne hb', upd_ne (ne_of_none e q0), upd_ne hb']; exact e
   · simp only [HA.fp, List.mem_cons, List.not_mem_nil, or_false] at hc
     rcases hc with rfl | rfl | rfl | rfl | rfl
     · exact .inl (by simp)
     · exact .inr q0
     · exact .inr h0
     · exact .inr k0
     · exact .inr g0
abbrev s_Hearer_expects : Stmt := inClass (top 14) 1
abbrev N_Hearer_expects : List Str := ["self"]
theorem sc_Hearer_expects : FnScope N_Hearer_expects ["self"] (defScope s_Hearer_expects) := ⟨rfl, rfl, rfl, by decide +kernel, rfl, by decide +kernel, by decide +kernel⟩
theorem ok_Hearer_expects {f C : Addr} {fd : FuncData} (F : Fun K "expects" "Hearer.expects" s_Hearer_expects f fd) (TC : HearC K C) : FnOk P w K mg base CX0 1 f fd ["self"] (spExpects C) := by
 refine F.ok sc_Hearer_expects (fun vs H Q E h => ?_) (fun cdv A outer s0 H vs Q E hr h => ?_)
 · obtain ⟨a, s, ex, rfl, _⟩ := h; rfl
 · obtain ⟨a, s, ex, rfl, hA, q⟩ := h
   refine ⟨_, (pss_one (ps_ret (k_fld K (pv 0) rfl))), ?_⟩
   obtain ⟨dx, h1⟩ := hA.ob
   exact ⟨_, rfl, a.p, C, dx, _, _, rfl, h1, TC.cl_Hearer, TC.n_next_number, hF_next, q⟩
abbrev s_Hearer_heard : Stmt := inClass (top 14) 6
abbrev N_Hearer_heard : List Str := ["self"]
theorem sc_Hearer_heard : FnScope N_Hearer_heard ["self"] (defScope s_Hearer_heard) := ⟨rfl, rfl, rfl, by decide +kernel, rfl, by decide +kernel, by decide +kernel⟩
theorem ok_Hearer_heard {f C : Addr} {fd : FuncData} (F : Fun K "heard" "Hearer.heard" s_Hearer_heard f fd) (T : Txt mg) (TC : HearC K C) : FnOk P w K mg base CX0 1 f fd ["self"] (spHeard C) := by
 refine F.ok sc_Hearer_heard (fun vs H Q E h => ?_) (fun cdv A outer s0 H vs Q E hr h => ?_)
 · obtain ⟨a, s, ex, rfl, _⟩ := h; rfl
 · obtain ⟨a, s, ex, rfl, hA, q⟩ := h
   refine ⟨_, (pss_one (ps_ret (as_callTy (k_list_of K) (by rfl) T.b_list PyProof.Rows.boot_list (at_cons (k_fld K (pv 0) rfl) as_nil)))), ?_⟩
   obtain ⟨dx, h1⟩ := hA.ob
   obtain ⟨ys, h2, h3⟩ := hA.pa
   exact ⟨_, rfl, a.p, C, dx, _, _, rfl, h1, TC.cl_Hearer, TC.n_past, hF_past, a.q, ys, rfl, .inl (SqL.ofL h2), fun l hl => q l ys hl (h3.same (Same.new hl))⟩
abbrev s_Hearer_hear_held : Stmt := inClass (top 14) 5
abbrev N_Hearer_hear_held : List Str := ["self", "heard"]
theorem sc_Hearer_hear_held : FnScope N_Hearer_hear_held ["self"] (defScope s_Hearer_hear_held) := ⟨rfl, rfl, rfl, by decide +kernel, rfl, by decide +kernel, by decide +kernel⟩
theorem hear_mem {s : HS} (d : Diff s.held) : Diff (hearS s).held ∧ (hearS s).heard.length + (hearS s).held.length = s.heard.length + s.held.length ∧ ∀ m, (m ∈ (hearS s).heard ∨ m ∈ (hearS s).held) ↔ (m ∈ s.heard ∨ m ∈ s.held) := by
 refine (hearS_ind (P := fun t => Diff t.held ∧ t.heard.length + t.held.length = s.heard.length + s.held.length ∧ ∀ m, (m ∈ t.heard ∨ m ∈ t.held) ↔ (m ∈ s.heard ∨ m ∈ s.held)) ?_ s ⟨d, rfl, fun _ => Iff.rfl⟩).1
 rintro t m ⟨h1, h2, h3⟩ e
 obtain ⟨hm, hn⟩ := findN_some e
 refine ⟨dropN_diff h1, ?_, fun x => ?_⟩
 · have := dropN_len h1 hm
   show (t.heard ++ [m]).length + (dropN t.held m.n).length = _
   rw [List.length_append, List.length_singleton]; omega
 · rw [← h3 x]
   show (x ∈ t.heard ++ [m] ∨ x ∈ dropN t.held m.n) ↔ _
   rw [List.mem_append, List.mem_singleton, dropN_mem]
   constructor
   · rintro ((z | rfl) | ⟨z, _⟩)
     · exact .inl z
     · exact .inr hm
     · exact .inr z
   · rintro (z | z)
     · exact .inl (.inl z)
     · by_cases ee : x.n = m.n
       · exact .inl (.inr (h1.eq z hm ee))
       · exact .inr ⟨z, ee⟩
theorem ok_Hearer_hear_held {f C : Addr} {fd : FuncData} (F : Fun K "hear_held" "Hearer.hear_held" s_Hearer_hear_held f fd) (TC : HearC K C) : FnOk P w K mg base CX0 1 f fd ["self"] (spHear C) := by
 refine F.ok sc_Hearer_hear_held (fun vs H Q E h => ?_) (fun cdv A outer s0 H vs Q E hr h => ?_)
 · obtain ⟨a, s, ex, rfl, _⟩ := h; rfl
 · obtain ⟨a, s, ex, rfl, hA, hd, hsm, q⟩ := h
   refine ⟨_, (pss_cons (ps_set (i := 1) sc_Hearer_hear_held.nd rfl (Or.inl rfl) (as_lst as_nil))
     (pss_cons (ps_while PassesOwn.never (pt_cmp (pc_din (hu_of hr) (k_fld K (pv 0) rfl) (k_fld K (pv 0) rfl))) (pss_cons (ps_expr (k_bm K PySem.F.plainAttrs_list PySem.F.slot_list_append PySem.F.type_list_append mt_append (pv 1) (pa_cons (pe_dpop1 (k_fld K (pv 0) rfl) (k_fld K (pv 0) rfl) ⟨rfl, rfl, rfl, rfl⟩) pa_nil)))
     (pss_one (k_sfld K (pv 0) (pe_op op_add (k_fld K (pv 0) rfl) pe_int) rfl))))
     (pss_cons (ps_expr (k_bm K PySem.F.plainAttrs_list PySem.F.slot_list_extend PySem.F.type_list_extend mt_extend (k_fld K (pv 0) rfl) (pa_cons (pv 1) pa_nil)))
     (pss_one (ps_ret (pv 1)))))), ?_⟩
   obtain ⟨npq, nph, npk, npg, nqh, nqk, nqg, nhk, nhg, nkg⟩ := hA.apart
   obtain ⟨⟨dx, h1⟩, ⟨yq, h2, m2⟩, ⟨kh, h3, d3⟩, hkn, h5, _, _, hex, hexl⟩ := id hA
   obtain ⟨hD, hL, hM⟩ := hear_mem hd
   unfold HS.small at hsm
   refine ⟨Nat.zero_le _, fun l hl0 => ?_⟩
   have nl : l ∉ a.fp := hA.free hl0
   have nl' : l ≠ a.p ∧ l ≠ a.q ∧ l ≠ a.h ∧ l ≠ a.k ∧ l ≠ a.g := by simpa [HA.fp] using nl
   have s1 := Same.new (o := .lst []) hl0
   let W : Nat → St → Hp → Prop := fun m σ H' => ∃ (t : HS) (found : List Msg) (fs : List V) (kv : List (Key × V)), m = t.held.length ∧ σ = [some (.ref a.p), some (.ref l)] ∧ hearS t = hearS s ∧ t.heard = s.heard ++ found ∧ t.lost = s.lost ∧ t.heard.length + t.held.length = s.heard.length + s.held.length ∧
     H' a.p = some (.ins C dx (hF t.next a.q a.h a.k a.g ex)) ∧ H' a.h = some (.dK kv) ∧ DI H' kv t.held ∧ H' l = some (.lst fs) ∧ Ms H' fs found ∧ Diff t.held ∧ Stp [l, a.p, a.h] (upd H l (.lst [])) [l, a.p, a.h] H'
   refine ⟨W, ?_, ?_⟩
   · exact ⟨_, s, [], [], kh, rfl, rfl, rfl, (List.append_nil _).symm, rfl, rfl, s1 _ _ h1, s1 _ _ h3, d3.same s1, upd_same, Ms.nil, hd, Stp.refl _ _⟩
   · rintro m σ H' ⟨t, found, fs, kv, rfl, rfl, et, eh, el, esz, g1, g3, gd, gl, gm, gdf, st⟩
     refine ⟨_, rfl, a.p, C, dx, _, _, rfl, g1, TC.cl_Hearer, TC.n_next_number, hF_next, _, rfl, a.p, C, dx, _, _, rfl, g1, TC.cl_Hearer, TC.n_held, hF_held, a.h, _, rfl, DGet.k (k := Sum.inl t.next) g3, _, rfl, ?_⟩
     have lfs := gm.len
     have lfo : found.length ≤ 3000 := by have := congrArg List.length eh; rw [List.length_append] at this; omega
     cases e : findN t.held t.next with
     | none =>
       rw [gd.none _ e]
       refine iteF ?_
       have eS : hearS s = t := by rw [← et]; exact hearS_none e
       have g2 := st.keep (s1 _ _ h2) (by simp [nl'.2.1.symm, npq.symm, nqh])
       have g5 := st.keep (s1 _ _ h5) (by simp [nl'.2.2.2.2.symm, npg.symm, nhg.symm])
       obtain ⟨kvk, mk, hk1, hk2, hk3, hk4, hk5⟩ := hkn
       have g4 := st.keep (s1 _ _ hk1) (by simp [nl'.2.2.2.1.symm, npk.symm, nhk.symm])
       have m2' := (m2.same s1).step st
       have lyq := m2.len
       refine ⟨_, rfl, a.p, C, dx, _, _, rfl, g1, TC.cl_Hearer, TC.n_past, hF_past, .inl ⟨rfl, _, SqL.ofL g2⟩, _, rfl, a.q, l, yq, fs, rfl, rfl, g2, gl, by rw [sizeLine_eq]; omega, ?_⟩
       have sq := Stp.put (ps := [a.q]) (o := .lst (yq ++ fs)) g2 (fun _ z => by cases z) (by simp)
       refine ⟨_, rfl, ?_⟩
       rw [eS] at q hM hL
       have st' : Stp a.fp H (l :: a.fp) _ := ((Stp.make (ps := a.fp) (o := .lst []) hl0).trans (st.weak (qs := l :: a.fp) (by simp [HA.fp]) (by intro c hc; exact .inr hc))).trans (sq.weak (qs := l :: a.fp) (by simp [HA.fp]) (by intro c hc; exact .inr hc))
       refine q l fs found _ ⟨⟨dx, sq.keep g1 (by simp [npq])⟩, ⟨_, upd_same, ?_⟩, ⟨kv, sq.keep g3 (by simp [nqh.symm]), gd.tups sq.tup⟩, ⟨kvk, mk, sq.keep g4 (by simp [nqk.symm]), ((hk2.same s1).tups st.tup).tups sq.tup, hk3, by omega, fun m => (hk5 m).trans (hM m).symm⟩, ?_, nqg, nhk, hex, hexl⟩ eh st' hl0 nl (sq.keep gl (by simp [nl'.2.1])) (gm.step sq)
       · rw [eh]; exact (m2'.step sq).append (gm.step sq)
       · rw [el]; exact sq.keep g5 (by simp [nqg.symm])
     | some m =>
       obtain ⟨c, hv, hc⟩ := gd.some _ e
       obtain ⟨hmm, hmn⟩ := findN_some e
       rw [hv]
       refine iteT ?_
       refine ⟨fun σ' H2 => ∃ m', m' < t.held.length ∧ W m' σ' H2, fun _ _ z => z, ?body⟩
       case body =>
         refine ⟨_, rfl, .inl ⟨rfl, _, SqL.ofL gl⟩, _, rfl, a.p, C, dx, _, _, rfl, g1, TC.cl_Hearer, TC.n_held, hF_held, a.h, rfl, .inl ⟨kv, .inl g3⟩, _, rfl, a.p, C, dx, _, _, rfl, g1, TC.cl_Hearer, TC.n_next_number, hF_next, kv, Sum.inl t.next, .ref c, g3, rfl, hv, ?_⟩
         have sa := Stp.put (ps := [a.h]) (o := .dK (dropK kv (Sum.inl t.next))) g3 (fun _ z => by cases z) (by simp)
         have gl1 := sa.keep gl (by simp [nl'.2.2.1])
         refine ⟨l, fs, .ref c, rfl, rfl, gl1, by rw [sizeLine_eq]; omega, ?_⟩
         have sb := Stp.put (ps := [l]) (o := .lst (fs ++ [.ref c])) gl1 (fun _ z => by cases z) (by simp)
         have g1b := sb.keep (sa.keep g1 (by simp [nph])) (by simp [nl'.1.symm])
         refine ⟨_, rfl, a.p, C, dx, _, _, rfl, g1b, TC.cl_Hearer, TC.n_next_number, hF_next, _, _, rfl, rfl, _, rfl, a.p, C, dx, _, rfl, g1b, TC.cl_Hearer, TC.n_next_number, ?_, ?_⟩
         · exact hF_len hexl
         rw [hF_setNext]
         have sc := Stp.put (ps := [a.p]) (o := .ins C dx (hF (t.next + 1) a.q a.h a.k a.g ex)) g1b (fun _ z => by cases z) (by simp)
         have dl := dropN_len gdf hmm
         exact ⟨_, dropN_lt hmm, ⟨t.heard ++ [m], dropN t.held m.n, t.lost⟩, found ++ [m], fs ++ [.ref c], dropK kv (Sum.inl t.next), rfl, rfl, by rw [← hearS_some e]; exact et, by rw [eh, List.append_assoc], el, by show (t.heard ++ [m]).length + (dropN t.held m.n).length = _; rw [List.length_append, List.length_singleton]; omega,
           by rw [next_snoc]; exact upd_same, sc.keep (sb.keep upd_same (by simp [nl'.2.2.1.symm])) (by simp [nph.symm]), by rw [hmn]; exact ((gd.drop t.next).tups sa.tup).tups (sb.tup.trans sc.tup), sc.keep upd_same (by simp [nl'.1]), (((gm.step sa).step sb).append (Ms.one (sb.tup _ _ (sa.tup _ _ hc)))).step sc, dropN_diff gdf,
           st.trans ((sa.up (by simp)).trans ((sb.up (by simp)).trans (sc.up (by simp))))⟩
abbrev s_Hearer_refuse_others : Stmt := inClass (top 14) 4
abbrev N_Hearer_refuse_others : List Str := ["self", "messages", "fresh", "message", "number"]
theorem sc_Hearer_refuse_others : FnScope N_Hearer_refuse_others ["self", "messages"] (defScope s_Hearer_refuse_others) := ⟨rfl, rfl, rfl, by decide +kernel, rfl, by decide +kernel, by decide +kernel⟩
theorem ok_Hearer_refuse_others {f C : Addr} {fd : FuncData} (F : Fun K "refuse_others" "Hearer.refuse_others" s_Hearer_refuse_others f fd) (TC : HearC K C) (c_number_of : Callee P w K mg base 1 "number_of" ["message"] (spItem 0)) : FnOk P w K mg base CX0 2 f fd ["self", "messages"] (spRefuse C) := by
 refine F.ok sc_Hearer_refuse_others (fun vs H Q E h => ?_) (fun cdv A outer s0 H vs Q E hr h => ?_)
 · obtain ⟨a, s, ex, b, xs, ms, rfl, _⟩ := h; rfl
 · obtain ⟨a, s, ex, b, xs, ms, rfl, hA, hb, hm, hml, hfit, hok, q⟩ := h
   refine ⟨_, (pss_cons (ps_set (i := 2) sc_Hearer_refuse_others.nd rfl (Or.inl rfl) pe_dnewK)
     (pss_one (ps_for PassesOwn.never rfl (k_it_list K (pv 1)) (pg_name (i := 3) sc_Hearer_refuse_others.nd rfl (Or.inl rfl)) (pss_cons (ps_set (i := 4) sc_Hearer_refuse_others.nd rfl (Or.inl rfl) (as_fn c_number_of (hr.mono (by decide)) (at_cons (pv 3) as_nil)))
     (pss_cons (ps_if (pt_cmpR (op_neD hr.units) (pe_dget2 (hu_of hr) (k_fld K (pv 0) rfl) (pv 4) (pe_dget2 (hu_of hr) (pv 2) (pv 4) (pv 3) ⟨rfl, rfl, rfl, rfl⟩) ⟨rfl, rfl, rfl, rfl⟩) (pv 3) (nomark _)) (pss_one ps_never) pss_nil)
     (pss_one (ps_if (pt_cmpR op_ge (pv 4) (k_fld K (pv 0) rfl) (nomark _)) (pss_one (ps_dput (hu_of hr) (pv 2) (pv 4) (pv 3) rfl)) pss_nil))))))), ?_⟩
   intro f0 hf0
   have s1 := Same.new (o := .dK []) hf0
   have hxl := hm.len
   refine ⟨_, rfl, b, rfl, ⟨xs, SqL.ofL (s1 _ _ hb)⟩, for_list (K := K) (a := b) (xs := xs) (fun i σ H' => ∃ (o3 o4 : Option V) (kv : List (Key × V)) (fr : List Msg), σ = [some (.ref a.p), some (.ref b), some (.ref f0), o3, o4] ∧ H' f0 = some (.dK kv) ∧ DI H' kv fr ∧ fr.length ≤ i ∧ (∀ x ∈ fr, x ∈ ms) ∧ Same H H')
     ⟨none, none, [], [], rfl, upd_same, .nil, Nat.le_refl _, (fun _ z => nomatch z), s1⟩ (fun i σ H' _ ⟨_, _, _, _, _, _, _, _, _, sH⟩ => SqL.ofL (sH _ _ hb)) ?_ ?_⟩
   · rintro i y σ H' hi ⟨o3, o4, kv, fr, rfl, hf, dF, hfl, hfm, sH⟩
     have hil : i < ms.length := by rw [← hxl]; exact (List.getElem?_eq_some_iff.mp hi).1
     obtain ⟨c, ec, hc⟩ := (hm.same sH).get hil
     rw [hi] at ec
     obtain rfl := Option.some.inj ec
     have hmem := List.getElem_mem hil
     generalize ms[i] = m at hc hmem
     refine rd_name ?_
     obtain ⟨⟨dx, h1⟩, _, _, ⟨kvk, mk, hk1, hk2, hk3, hk4, hk5⟩, _, _, _, _, _⟩ := hA.same sH
     refine ⟨_, rfl, c, _, _, _, rfl, hc, ?_⟩
     have hv : ∃ c', (valV kvk (Sum.inl m.n)).getD ((valV kv (Sum.inl m.n)).getD (.ref c)) = .ref c' ∧ H' c' = some (mT m) := by
       cases e : findN mk m.n with
       | some x =>
         obtain ⟨c', h1, h2⟩ := hk2.some _ e
         obtain ⟨hx, hn⟩ := findN_some e
         have : x = m := hfit.1 m hmem x ((hk5 x).mp hx) hn
         rw [h1]; exact ⟨c', rfl, by rw [← this]; exact h2⟩
       | none =>
         rw [hk2.none _ e]
         cases e' : findN fr m.n with
         | some x =>
           obtain ⟨c', h1, h2⟩ := dF.some _ e'
           obtain ⟨hx, hn⟩ := findN_some e'
           have : x = m := hfit.2 m hmem x (hfm x hx) hn
           rw [h1]; exact ⟨c', rfl, by rw [← this]; exact h2⟩
         | none => rw [dF.none _ e']; exact ⟨c, rfl, hc⟩
     obtain ⟨c', ev, hc'⟩ := hv
     refine ⟨_, rfl, a.p, C, dx, _, _, rfl, h1, TC.cl_Hearer, TC.n_known, hF_known, a.k, rfl, .inl ⟨kvk, .inl hk1⟩, _, rfl, _, rfl, f0, rfl, .inl ⟨kv, .inl hf⟩, _, rfl, _, rfl, _, DGet.k (k := Sum.inl m.n) hf, _, DGet.k (k := Sum.inl m.n) hk1, ?_⟩
     rw [ev]
     refine ⟨_, rfl, ne_D (msg_has hc') (msg_has hc) (shaped_m (hok m hmem)) ⟨_, rfl, iteF ?_⟩⟩
     refine ⟨_, rfl, _, rfl, a.p, C, dx, _, _, rfl, h1, TC.cl_Hearer, TC.n_next_number, hF_next, _, _, rfl, rfl, _, rfl, ?_⟩
     refine ite2 (fun hz => ?_) (fun hz => ?_)
     · refine ⟨_, rfl, _, rfl, _, rfl, f0, _, rfl, DPut.k (k := Sum.inl m.n) hf (by rw [dF.len, sizeLine_eq]; omega), ?_⟩
       have st := Stp.put (ps := [f0]) (o := .dK (putK kv (Sum.inl m.n) (.ref c))) hf (fun _ z => by cases z) (by simp)
       have hpl : (putM fr m).length ≤ fr.length + 1 := putM_len
       refine ⟨_, _, _, putM fr m, rfl, upd_same, (dF.put (msg_has hc)).tups st.tup, by omega, fun x hx => ?_, fun z o hz => st.keep (sH z o hz) (by simp [ne_of_none hz hf0])⟩
       rcases (putM_mem (fun y hy e => hfit.2 m hmem y (hfm y hy) e)).mp hx with z | rfl
       · exact hfm x z
       · exact hmem
     · exact ⟨_, _, kv, fr, rfl, hf, dF, by omega, hfm, sH⟩
   · rintro σ H' ⟨o3, o4, kv, fr, rfl, hf, dF, hfl, hfm, sH⟩
     exact q _ sH
abbrev s_Hearer_take_all : Stmt := inClass (top 14) 3
abbrev N_Hearer_take_all : List Str := ["self", "messages", "message", "number"]
theorem sc_Hearer_take_all : FnScope N_Hearer_take_all ["self", "messages"] (defScope s_Hearer_take_all) := ⟨rfl, rfl, rfl, by decide +kernel, rfl, by decide +kernel, by decide +kernel⟩
theorem fits_adds {s : HS} {ms : List Msg} (hf : Fits s ms) (i : Nat) : ∀ x, x ∈ ((ms.take i).foldl addS s).held → x ∈ s.held ∨ x ∈ ms := by
 induction i with
 | zero => intro x hx; exact .inl hx
 | succ i ih =>
   intro x hx
   by_cases hi : i < ms.length
   · rw [List.take_add_one, List.getElem?_eq_getElem hi, List.foldl_append] at hx
     have hx' : x ∈ (addS ((ms.take i).foldl addS s) ms[i]).held := hx
     unfold addS at hx'
     split at hx'
     · have hpp : ∀ y ∈ ((ms.take i).foldl addS s).held, y.n = ms[i].n → y = ms[i] := fun y hy e => by
         rcases ih y hy with w | w
         · exact hf.1 _ (List.getElem_mem hi) y (.inr w) e
         · exact hf.2 _ (List.getElem_mem hi) y w e
       rcases (putM_mem hpp).mp hx' with z | z
       · exact ih x z
       · exact .inr (by rw [z]; exact List.getElem_mem hi)
     · exact ih x hx'
   · rw [List.take_of_length_le (by omega)] at hx
     rw [List.take_of_length_le (by omega)] at ih
     exact ih x hx
theorem ok_Hearer_take_all {f C : Addr} {fd : FuncData} (F : Fun K "take_all" "Hearer.take_all" s_Hearer_take_all f fd) (TC : HearC K C) (c_number_of : Callee P w K mg base 1 "number_of" ["message"] (spItem 0)) (m_refuse_others : CalleeM P w K mg base 2 C "refuse_others" ["self", "messages"] (spRefuse C)) (m_hear_held : CalleeM P w K mg base 1 C "hear_held" ["self"] (spHear C)) : FnOk P w K mg base CX0 3 f fd ["self", "messages"] (spTakeAll C) := by
 refine F.ok sc_Hearer_take_all (fun vs H Q E h => ?_) (fun cdv A outer s0 H vs Q E hr h => ?_)
 · obtain ⟨a, s, ex, b, xs, ms, rfl, _⟩ := h; rfl
 · obtain ⟨a, s, ex, b, xs, ms, rfl, hA, hb, hm, hml, hfit, hok, hd, hsz, q⟩ := h
   refine ⟨_, (pss_cons (ps_expr (as_meth m_refuse_others TC.cl_Hearer (hr.mono (by decide)) (pv 0) (at_cons (pv 1) as_nil)))
     (pss_cons (ps_for PassesOwn.never rfl (k_it_list K (pv 1)) (pg_name (i := 2) sc_Hearer_take_all.nd rfl (Or.inl rfl)) (pss_cons (ps_set (i := 3) sc_Hearer_take_all.nd rfl (Or.inl rfl) (as_fn c_number_of (hr.mono (by decide)) (at_cons (pv 2) as_nil)))
     (pss_one (ps_if (pt_cmpR op_ge (pv 3) (k_fld K (pv 0) rfl) (nomark _)) (pss_cons (ps_dput (hu_of hr) (k_fld K (pv 0) rfl) (pv 3) (pv 2) rfl)
     (pss_one (ps_dput (hu_of hr) (k_fld K (pv 0) rfl) (pv 3) (pv 2) rfl))) pss_nil))))
     (pss_one (ps_ret (as_meth0 m_hear_held TC.cl_Hearer (hr.mono (by decide)) (pv 0)))))), ?_⟩
   obtain ⟨dx, h1⟩ := hA.ob
   have hxl := hm.len
   refine ⟨_, rfl, a.p, dx, _, rfl, h1, no_h hA (.inr (.inr (.inr (.inl rfl)))), _, rfl, a, s, ex, b, xs, ms, rfl, hA, hb, hm, hml, hfit, hok, fun H1 s1 => ?_⟩
   refine ⟨_, rfl, b, rfl, ⟨xs, SqL.ofL (s1 _ _ hb)⟩, for_list (K := K) (a := b) (xs := xs) (fun i σ H' => ∃ (o2 o3 : Option V), σ = [some (.ref a.p), some (.ref b), o2, o3] ∧ HAt C H' a ((ms.take i).foldl addS s) ex ∧ Diff ((ms.take i).foldl addS s).held ∧ ((ms.take i).foldl addS s).held.length ≤ s.held.length + i ∧ Stp [a.h, a.k] H [a.h, a.k] H')
     ⟨none, none, rfl, hA.same s1, hd, Nat.le_refl _, s1.step _⟩ (fun i σ H' _ ⟨_, _, _, _, _, _, st⟩ => SqL.ofL (st.keep hb ?nb)) ?_ ?_⟩
   case nb =>
     obtain ⟨kvs, h3, _⟩ := hA.he
     obtain ⟨kvs', _, h4, _⟩ := hA.kn
     simp [ne_of hb h3 (by intro z; cases z), ne_of hb h4 (by intro z; cases z)]
   · rintro i y σ H' hi ⟨o2, o3, rfl, hA', hd', hl', st⟩
     have hil : i < ms.length := by rw [← hxl]; exact (List.getElem?_eq_some_iff.mp hi).1
     obtain ⟨c, ec, hc⟩ := (hm.step st).get hil
     rw [hi] at ec
     obtain rfl := Option.some.inj ec
     have hmem := List.getElem_mem hil
     have enx := adds_next (ms.take i) s
     have ehd := adds_heard (ms.take i) s
     have hfa := fits_adds hfit i
     rw [List.take_add_one, List.getElem?_eq_getElem hil, List.foldl_append]
     show gName _ _ _ _ _
     generalize ms[i] = m at hc hmem ⊢
     generalize (ms.take i).foldl addS s = t at hA' hd' hl' enx ehd hfa ⊢
     refine rd_name ?_
     obtain ⟨npq, nph, npk, npg, nqh, nqk, nqg, nhk, nhg, nkg⟩ := hA'.apart
     obtain ⟨⟨dx', g1⟩, ⟨yq, g2, m2⟩, ⟨kh, g3, d3⟩, ⟨kvk, mk, g4, d4, hk3, hk4, hk5⟩, g5, _, _, hex, hexl⟩ := id hA'
     refine ⟨_, rfl, c, _, _, _, rfl, hc, ?_⟩
     refine ⟨_, rfl, _, rfl, a.p, C, dx', _, _, rfl, g1, TC.cl_Hearer, TC.n_next_number, hF_next, _, _, rfl, rfl, _, rfl, ?_⟩
     have hsh : ∀ x ∈ t.held, x.n = m.n → x = m := fun x hx e => by
       rcases hfa x hx with z | z
       · exact hfit.1 m hmem x (.inr z) e
       · exact hfit.2 m hmem x z e
     have hsk : ∀ x ∈ mk, x.n = m.n → x = m := fun x hx e => by
       rcases (hk5 x).mp hx with z | z
       · exact hfit.1 m hmem x (.inl (ehd ▸ z)) e
       · exact hsh x z e
     refine ite2 (fun hz => ?_) (fun hz => ?_)
     · have hz' : m.n ≥ t.next := of_decide_eq_true hz
       have eA : (some m).toList.foldl addS t = ⟨t.heard, putM t.held m, t.lost⟩ := by show addS t m = _; unfold addS; rw [if_pos hz']
       refine ⟨_, rfl, _, rfl, a.p, C, dx', _, _, rfl, g1, TC.cl_Hearer, TC.n_held, hF_held, _, rfl, a.h, _, rfl, DPut.k (k := Sum.inl m.n) g3 (by rw [d3.len, sizeLine_eq]; omega), ?_⟩
       have sa := Stp.put (ps := [a.h]) (o := .dK (putK kh (Sum.inl m.n) (.ref c))) g3 (fun _ z => by cases z) (by simp)
       have g1a := sa.keep g1 (by simp [nph])
       have g4a := sa.keep g4 (by simp [nhk.symm])
       have hml2 : mk.length < 3000 := by
         have h2 := congrArg List.length ehd
         omega
       refine ⟨_, rfl, _, rfl, a.p, C, dx', _, _, rfl, g1a, TC.cl_Hearer, TC.n_known, hF_known, _, rfl, a.k, _, rfl, DPut.k (k := Sum.inl m.n) g4a (by rw [d4.len, sizeLine_eq]; omega), ?_⟩
       have sb := Stp.put (ps := [a.k]) (o := .dK (putK kvk (Sum.inl m.n) (.ref c))) g4a (fun _ z => by cases z) (by simp)
       have sab : Stp [a.h, a.k] H' [a.h, a.k] _ := (sa.up (by simp)).trans (sb.up (by simp))
       have hpl : (putM t.held m).length ≤ t.held.length + 1 := putM_len
       have hcb := sab.tup _ _ hc
       rw [eA]
       refine ⟨_, _, rfl, ⟨⟨dx', sab.keep g1 (by simp [nph, npk])⟩, ⟨yq, sab.keep g2 (by simp [nqh, nqk]), m2.step sab⟩, ⟨_, sb.keep upd_same (by simp [nhk]), (d3.tups sab.tup).put (msg_has hcb)⟩, ⟨_, putM mk m, upd_same, (d4.tups sab.tup).put (msg_has hcb), putM_diff hsk hk3, ?_, fun x => ?_⟩, sab.keep g5 (by simp [nhg.symm, nkg.symm]), nqg, nhk, hex, hexl⟩, putM_diff hsh hd', by show (putM t.held m).length ≤ _; omega, st.trans sab⟩
       · show (putM mk m).length ≤ t.heard.length + (putM t.held m).length
         rcases putM_case hsk with ⟨h, e⟩ | ⟨h, e⟩
         · rw [e]
           rcases putM_case hsh with ⟨_, e'⟩ | ⟨_, e'⟩
           · rw [e']; exact hk4
           · rw [e', List.length_append]; show _ ≤ _ + (_ + 1); omega
         · rw [e]
           rcases putM_case hsh with ⟨h', e'⟩ | ⟨_, e'⟩
           · exact absurd rfl (h m ((hk5 m).mpr (.inr h')))
           · rw [e', List.length_append, List.length_append]; show _ + 1 ≤ _ + (_ + 1); omega
       · rw [putM_mem hsk, hk5 x]
         show _ ↔ x ∈ t.heard ∨ x ∈ putM t.held m
         rw [putM_mem hsh]
         constructor
         · rintro ((z | z) | z)
           · exact .inl z
           · exact .inr (.inl z)
           · exact .inr (.inr z)
         · rintro (z | z | z)
           · exact .inl (.inl z)
           · exact .inl (.inr z)
           · exact .inr z
     · have hz' : ¬ m.n ≥ t.next := fun z => hz (decide_eq_true z)
       have eA : (some m).toList.foldl addS t = t := by show addS t m = _; unfold addS; rw [if_neg hz']
       rw [eA]
       exact ⟨_, _, rfl, hA', hd', by omega, st⟩
   · rintro σ H' ⟨o2, o3, rfl, hA', hd', hl', st⟩
     rw [hxl, List.take_length] at hA' hd' hl'
     obtain ⟨dx', g1⟩ := hA'.ob
     have e1 := adds_heard ms s
     have e2 := adds_lost ms s
     refine ⟨_, rfl, a.p, dx', _, rfl, g1, no_h hA' (.inr (.inr (.inr (.inr (.inl rfl))))), a, _, ex, rfl, hA', hd', by unfold HS.small; rw [e1, e2]; omega, fun l ys found H2 hA2 eh st2 hl0 nl el ml => ?_⟩
     rw [e1] at eh
     refine q l ys found H2 hA2 eh ((st.weak (qs := a.fp) (qs' := a.fp) (by simp [HA.fp]) (fun _ z => .inr z)).trans st2) ?_ nl el ml
     rcases (st.free' hl0) with z | z
     · exact absurd (show l ∈ a.fp by simp only [List.mem_cons, List.not_mem_nil, or_false] at z; rcases z with rfl | rfl <;> simp [HA.fp]) nl
     · exact z
abbrev s_Hearer_lost : Stmt := inClass (top 14) 9
abbrev N_Hearer_lost : List Str := ["self"]
theorem sc_Hearer_lost : FnScope N_Hearer_lost ["self"] (defScope s_Hearer_lost) := ⟨rfl, rfl, rfl, by decide +kernel, rfl, by decide +kernel, by decide +kernel⟩
theorem ok_Hearer_lost {f C : Addr} {fd : FuncData} (F : Fun K "lost" "Hearer.lost" s_Hearer_lost f fd) (T : Txt mg) (TC : HearC K C) : FnOk P w K mg base CX0 1 f fd ["self"] (spLost C) := by
 refine F.ok sc_Hearer_lost (fun vs H Q E h => ?_) (fun cdv A outer s0 H vs Q E hr h => ?_)
 · obtain ⟨a, s, ex, rfl, _⟩ := h; rfl
 · obtain ⟨a, s, ex, rfl, hA, q⟩ := h
   refine ⟨_, (pss_one (ps_ret (as_callTy (k_list_of K) (by rfl) T.b_list PyProof.Rows.boot_list (at_cons (k_fld K (pv 0) rfl) as_nil)))), ?_⟩
   obtain ⟨dx, h1⟩ := hA.ob
   exact ⟨_, rfl, a.p, C, dx, _, _, rfl, h1, TC.cl_Hearer, TC.n_given_up, hF_given, a.g, _, rfl, .inl (SqL.ofL hA.lo), fun l hl => q l hl⟩
abbrev s_Hearer_give_up : Stmt := inClass (top 14) 10
abbrev N_Hearer_give_up : List Str := ["self", "number", "heard"]
theorem sc_Hearer_give_up : FnScope N_Hearer_give_up ["self", "number"] (defScope s_Hearer_give_up) := ⟨rfl, rfl, rfl, by decide +kernel, rfl, by decide +kernel, by decide +kernel⟩
theorem ok_Hearer_give_up {f C : Addr} {fd : FuncData} (F : Fun K "give_up" "Hearer.give_up" s_Hearer_give_up f fd) (TC : HearC K C) (m_hear_held : CalleeM P w K mg base 1 C "hear_held" ["self"] (spHear C)) : FnOk P w K mg base CX0 2 f fd ["self", "number"] (spGive C) := by
 refine F.ok sc_Hearer_give_up (fun vs H Q E h => ?_) (fun cdv A outer s0 H vs Q E hr h => ?_)
 · obtain ⟨a, s, ex, n, rfl, _⟩ := h; rfl
 · obtain ⟨a, s, ex, n, rfl, hA, hd, hsm, hsl, hn, q⟩ := h
   refine ⟨_, (pss_cons (ps_set (i := 2) sc_Hearer_give_up.nd rfl (Or.inl rfl) (as_lst as_nil))
     (pss_cons (ps_while PassesOwn.never (pt_cmpR op_lt (k_fld K (pv 0) rfl) (pv 1) (nomark _)) (pss_cons (ps_expr (k_bm K PySem.F.plainAttrs_list PySem.F.slot_list_append PySem.F.type_list_append mt_append (k_fld K (pv 0) rfl) (pa_cons (k_fld K (pv 0) rfl) pa_nil)))
     (pss_cons (k_sfld K (pv 0) (pe_op op_add (k_fld K (pv 0) rfl) pe_int) rfl)
     (pss_one (ps_expr (k_bm K PySem.F.plainAttrs_list PySem.F.slot_list_extend PySem.F.type_list_extend mt_extend (pv 2) (pa_cons (as_meth0 m_hear_held TC.cl_Hearer (hr.mono (by decide)) (pv 0)) pa_nil)))))))
     (pss_one (ps_ret (pv 2))))), ?_⟩
   refine ⟨Nat.zero_le _, fun l hl0 => ?_⟩
   have nl : l ∉ a.fp := hA.free hl0
   have s1 := Same.new (o := .lst []) hl0
   let W : Nat → St → Hp → Prop := fun m σ H' => ∃ (t : HS) (found : List Msg) (fs : List V), m = (n - t.next).toNat ∧ σ = [some (.ref a.p), some (.int n), some (.ref l)] ∧ giveS n t = giveS n s ∧ t.heard = s.heard ++ found ∧ t.heard.length + t.held.length = s.heard.length + s.held.length ∧ t.lost.length ≤ 500 ∧ Diff t.held ∧
     HAt C H' a t ex ∧ H' l = some (.lst fs) ∧ Ms H' fs found ∧ Stp a.fp H (l :: a.fp) H'
   refine ⟨W, ?_, ?_⟩
   · exact ⟨_, s, [], [], rfl, rfl, rfl, (List.append_nil _).symm, rfl, by omega, hd, hA.same s1, upd_same, Ms.nil, Stp.make hl0⟩
   · rintro m σ H' ⟨t, found, fs, rfl, rfl, et, eh, esz, hlo, hdt, hAt, gl, gm, st⟩
     obtain ⟨npq, nph, npk, npg, nqh, nqk, nqg, nhk, nhg, nkg⟩ := hAt.apart
     obtain ⟨⟨dx, g1⟩, ⟨yq, g2, m2⟩, ⟨kh, g3, d3⟩, ⟨kvk, mk, g4, d4, hk3, hk4, hk5⟩, g5, _, _, hex, hexl⟩ := id hAt
     have nl' : l ≠ a.p ∧ l ≠ a.q ∧ l ≠ a.h ∧ l ≠ a.k ∧ l ≠ a.g := by simpa [HA.fp] using nl
     have hnx : t.next = (t.heard.length : Int) + (t.lost.length : Int) + 1 := rfl
     have hlf := congrArg List.length eh
     rw [List.length_append] at hlf
     refine ⟨_, rfl, a.p, C, dx, _, _, rfl, g1, TC.cl_Hearer, TC.n_next_number, hF_next, _, rfl, _, _, rfl, rfl, _, rfl, ?_⟩
     refine ite2 (fun hz => ?_) (fun hz => ?_)
     · have hz' : t.next < n := of_decide_eq_true hz
       refine ⟨fun σ' H2 => ∃ m', m' < (n - t.next).toNat ∧ W m' σ' H2, fun _ _ z => z, ?_⟩
       refine ⟨_, rfl, a.p, C, dx, _, _, rfl, g1, TC.cl_Hearer, TC.n_given_up, hF_given, .inl ⟨rfl, _, SqL.ofL g5⟩, _, rfl, a.p, C, dx, _, _, rfl, g1, TC.cl_Hearer, TC.n_next_number, hF_next, a.g, _, _, rfl, rfl, g5, by rw [List.length_map, sizeLine_eq]; omega, ?_⟩
       have sa := Stp.put (ps := [a.g]) (o := .lst (t.lost.map V.int ++ [.int t.next])) g5 (fun _ z => by cases z) (by simp)
       have g1a := sa.keep g1 (by simp [npg])
       refine ⟨_, rfl, a.p, C, dx, _, _, rfl, g1a, TC.cl_Hearer, TC.n_next_number, hF_next, _, _, rfl, rfl, _, rfl, a.p, C, dx, _, rfl, g1a, TC.cl_Hearer, TC.n_next_number, hF_len hexl, ?_⟩
       rw [hF_setNext]
       have sb := Stp.put (ps := [a.p]) (o := .ins C dx (hF (t.next + 1) a.q a.h a.k a.g ex)) g1a (fun _ z => by cases z) (by simp)
       have sab : Stp [a.p, a.g] H' [a.p, a.g] _ := (sa.up (by simp)).trans (sb.up (by simp))
       have hAb : HAt C _ a (lose t) ex := ⟨⟨dx, by rw [lose_next]; exact upd_same⟩, ⟨yq, sab.keep g2 (by simp [npq.symm, nqg]), m2.step sab⟩, ⟨kh, sab.keep g3 (by simp [nph.symm, nhg]), d3.tups sab.tup⟩, ⟨kvk, mk, sab.keep g4 (by simp [npk.symm, nkg]), d4.tups sab.tup, hk3, hk4, hk5⟩, by rw [sb.keep upd_same (by simp [npg.symm])]; show _ = some (HO.lst ((t.lost ++ [t.next]).map V.int)); rw [List.map_append]; rfl, nqg, nhk, hex, hexl⟩
       have glb := sab.keep gl (by simp [nl'.1, nl'.2.2.2.2])
       have gmb := gm.step sab
       have stb : Stp a.fp H (l :: a.fp) _ := st.trans (sab.weak (by simp [HA.fp]) (fun _ z => .inr z))
       generalize upd (upd H' a.g (.lst (t.lost.map V.int ++ [.int t.next]))) a.p (.ins C dx (hF (t.next + 1) a.q a.h a.k a.g ex)) = Hb at hAb glb gmb stb ⊢
       obtain ⟨dxb, gb1⟩ := hAb.ob
       have hdl : Diff (lose t).held := hdt
       obtain ⟨hD, hL, hM⟩ := hear_mem hdl
       refine ⟨_, rfl, .inl ⟨rfl, _, SqL.ofL glb⟩, _, rfl, a.p, dxb, _, rfl, gb1, no_h hAb (.inr (.inr (.inr (.inr (.inl rfl))))), a, _, ex, rfl, hAb, hdl, ?_, fun l2 y2 fo2 H2 hA2 eh2 st2 hl2 nl2 el2 ml2 => ?_⟩
       · unfold HS.small
         show t.heard.length + t.held.length + (t.lost ++ [t.next]).length < 3000
         rw [List.length_append]; show _ + (_ + 1) < _
         omega
       have gl2 := st2.keep glb nl
       have eh2' : (hearS (lose t)).heard = s.heard ++ (found ++ fo2) := by rw [eh2, ← List.append_assoc, ← eh]; rfl
       have hlf2 := congrArg List.length eh2'
       rw [List.length_append, List.length_append] at hlf2
       have hLt : (hearS (lose t)).heard.length + (hearS (lose t)).held.length = t.heard.length + t.held.length := hL
       refine ⟨l, l2, fs, y2, rfl, rfl, gl2, el2, by rw [sizeLine_eq, gm.len, ml2.len]; omega, ?_⟩
       have sc := Stp.put (ps := [l]) (o := .lst (fs ++ y2)) gl2 (fun _ z => by cases z) (by simp)
       have hnx2 := hearS_next (lose t)
       rw [lose_next] at hnx2
       have elost := hearS_lost (lose t)
       have ell : (hearS (lose t)).lost.length = t.lost.length + 1 := by rw [elost]; show (t.lost ++ [t.next]).length = _; rw [List.length_append]; rfl
       have hnx3 : (hearS (lose t)).next = ((hearS (lose t)).heard.length : Int) + ((hearS (lose t)).lost.length : Int) + 1 := rfl
       refine ⟨_, by omega, hearS (lose t), found ++ fo2, fs ++ y2, rfl, rfl, by rw [← giveS_lt hz']; exact et, eh2', by omega, by omega, hD, hA2.step sc (fun c hc z => nl (by rw [List.mem_singleton] at z; rw [← z]; exact hc)), upd_same, ((gmb.step st2).append ml2).step sc, ?_⟩
       exact (stb.trans (st2.weak (qs := l :: a.fp) (qs' := l :: a.fp) (fun c hc => List.mem_cons_of_mem _ hc) (fun _ z => .inr z))).trans (sc.up (by simp))
     · have hz' : ¬ t.next < n := fun z => hz (decide_eq_true z)
       have eS : giveS n s = t := by rw [← et]; exact giveS_ge hz'
       rw [eS] at q
       exact ⟨_, rfl, q l fs found _ hAt eh st hl0 nl gl gm⟩
abbrev s_caught_up : Stmt := top 15
abbrev N_caught_up : List Str := ["teller", "hearer", "found", "lost_ahead", "heard"]
theorem sc_caught_up : FnScope N_caught_up ["teller", "hearer"] (defScope s_caught_up) := ⟨rfl, rfl, rfl, by decide +kernel, rfl, by decide +kernel, by decide +kernel⟩
theorem no_t {k r n : Int} {s d : Addr} {f : Str} (h : f = "tell" ∨ f = "told" ∨ f = "kept" ∨ f = "oldest" ∨ f = "last" ∨ f = "mark" ∨ f = "behind") : (tF k r n s d).lookup f = none := by
 rcases h with rfl | rfl | rfl | rfl | rfl | rfl | rfl <;> exact tF_no (by decide +kernel) (by decide +kernel) (by decide +kernel) (by decide +kernel) (by decide +kernel)
theorem ok_caught_up {f C CH : Addr} {fd : FuncData} (F : Fun K "caught_up" "caught_up" s_caught_up f fd) (T : Txt mg) (TC : TxtC K mg C CH)
   (m_behind : CalleeM P w K mg base 3 C "behind" ["self", "number", "topics"] (spBehind K C)) (m_oldest : CalleeM P w K mg base 1 C "oldest" ["self"] (spOldest C))
   (m_expects : CalleeM P w K mg base 1 CH "expects" ["self"] (spExpects CH)) (m_refuse_others : CalleeM P w K mg base 2 CH "refuse_others" ["self", "messages"] (spRefuse CH)) (m_lost : CalleeM P w K mg base 1 CH "lost" ["self"] (spLost CH)) (m_give_up : CalleeM P w K mg base 2 CH "give_up" ["self", "number"] (spGive CH)) (m_take_all : CalleeM P w K mg base 3 CH "take_all" ["self", "messages"] (spTakeAll CH)) :
   FnOk P w K mg base CX0 4 f fd ["teller", "hearer"] (spCaughtN C CH) := by
 refine F.ok sc_caught_up (fun vs H Q E h => ?_) (fun cdv A outer s0 H vs Q E hr h => ?_)
 · obtain ⟨tp, a, k, r, all, sd, d, hs, rfl, _⟩ := h; rfl
 · obtain ⟨tp, a, k, r, all, sd, d, hs, rfl, TA, hH, dis, hk, hR, hal, hok, hw, hnx, hsz, q⟩ := h
   have m_Hearer_lost := m_lost
   refine ⟨_, (pss_cons (ps_set (i := 2) sc_caught_up.nd rfl (Or.inl rfl) (as_meth m_behind TC.cl_Teller (hr.mono (by decide)) (pv 0) (at_cons (pe_op op_sub (as_meth0 m_expects TC.cl_Hearer (hr.mono (by decide)) (pv 1)) pe_int) (as_cons pe_non as_nil))))
     (pss_cons (ps_expr (as_meth m_refuse_others TC.cl_Hearer (hr.mono (by decide)) (pv 1) (at_cons (pe_ix (k_ix_tup K) (pv 2) pe_int (fun _ _ => rfl)) as_nil)))
     (pss_cons (ps_set (i := 3) sc_caught_up.nd rfl (Or.inl rfl) (as_callB (k_len_seq K) (by rfl) T.b_len PySem.boot_len (at_cons (as_meth0 m_Hearer_lost TC.cl_Hearer (hr.mono (by decide)) (pv 1)) as_nil)))
     (pss_cons (ps_set (i := 4) sc_caught_up.nd rfl (Or.inl rfl) (as_lst as_nil))
     (pss_cut (ps_if (pt_cmpR op_gt (pe_ix (k_ix_tup K) (pv 2) pe_int (fun _ _ => rfl)) pe_int (nomark _)) (pss_one (ps_expr (k_bm K PySem.F.plainAttrs_list PySem.F.slot_list_extend PySem.F.type_list_extend mt_extend (pv 4) (pa_cons (as_meth m_give_up TC.cl_Hearer (hr.mono (by decide)) (pv 1) (at_cons (as_meth0 m_oldest TC.cl_Teller (hr.mono (by decide)) (pv 0)) as_nil)) pa_nil)))) pss_nil)
     (pss_cons (ps_expr (k_bm K PySem.F.plainAttrs_list PySem.F.slot_list_extend PySem.F.type_list_extend mt_extend (pv 4) (pa_cons (as_meth m_take_all TC.cl_Hearer (hr.mono (by decide)) (pv 1) (at_cons (pe_ix (k_ix_tup K) (pv 2) pe_int (fun _ _ => rfl)) as_nil)) pa_nil)))
     (pss_one (ps_ret (as_tup (as_cons (pv 4) (as_cons (pe_op op_sub (as_callB (k_len_seq K) (by rfl) T.b_len PySem.boot_len (at_cons (as_meth0 m_Hearer_lost TC.cl_Hearer (hr.mono (by decide)) (pv 1)) as_nil)) (pv 3)) as_nil))))))))))), ?_⟩
   obtain ⟨dA, hA0⟩ := TA.ob
   obtain ⟨dh, h1⟩ := hH.ob
   have hp := hs.next_pos
   have hll := lastK_len k all
   have hnl : hs.next = (hs.heard.length : Int) + (hs.lost.length : Int) + 1 := rfl
   refine ⟨_, rfl, tp, dA, _, rfl, hA0, no_t (.inr (.inr (.inr (.inr (.inr (.inr rfl)))))), _, rfl, a.p, dh, _, rfl, h1, no_h hH (.inl rfl), a, hs, [], rfl, hH, _, _, rfl, rfl, tp, hs.next - 1, .non, none, k, r, all, sd, d, rfl, TA, by omega, by omega, by omega, .inl ⟨rfl, rfl⟩, fun q0 l0 y0 H1 s1 nq0 nl0 e0 el0 m0 => ?_⟩
   generalize hfnd : ofT none ((lastK k all).filter fun m => decide (m.n > hs.next - 1)) = fnd at m0
   have efnd : (lastK k all).filter (fun m => decide (m.n > hs.next - 1)) = fnd := hfnd
   have hfR : ∀ m ∈ fnd, m ∈ all := fun m hm => by rw [← efnd] at hm; exact List.mem_of_mem_drop (List.mem_filter.mp hm).1
   have lfn : fnd.length < 60 := by rw [← efnd]; have := List.length_filter_le (fun m : Msg => decide (m.n > hs.next - 1)) (lastK k all); omega
   refine ⟨_, rfl, a.p, dh, _, rfl, s1 _ _ h1, no_h hH (.inr (.inr (.inr (.inl rfl)))), _, rfl, q0, _, 0, _, rfl, rfl, SqT.ofT e0, rfl, a, hs, [], l0, y0, fnd, rfl, hH.same s1, el0, m0, by omega, hw.toHw0.fits hR hfR, (fun m hm => hok m (hfR m hm)), fun H2 s2 => ?_⟩
   have t2 := s1.trans s2
   refine ⟨_, rfl, a.p, dh, _, rfl, t2 _ _ h1, no_h hH (.inr (.inr (.inr (.inr (.inr (.inr (.inr (.inr (.inl rfl))))))))), a, hs, [], rfl, hH.same t2, fun l1 n1 => ⟨l1, _, rfl, .inl (SqL.ofL upd_same), ?_⟩⟩
   have t3 := t2.trans (Same.new (o := .lst (hs.lost.map V.int)) n1)
   refine ⟨Nat.zero_le _, fun lh nlh => ?_⟩
   have t4 := t3.trans (Same.new (o := .lst []) nlh)
   have elh := upd_same (H := upd H2 l1 (.lst (hs.lost.map V.int))) (a := lh) (o := .lst [])
   have nlh0 : H lh = none := t3.free nlh
   have oq0 : q0 ∉ a.fp := hH.free nq0
   have ol0 : l0 ∉ a.fp := hH.free nl0
   have olh : lh ∉ a.fp := hH.free nlh0
   have s24 : Same H1 _ := s2.trans ((Same.new (o := .lst (hs.lost.map V.int)) n1).trans (Same.new (o := .lst []) nlh))
   have e0' := s24 _ _ e0
   have el0' := s24 _ _ el0
   have m0' := m0.same s24
   generalize upd (upd H2 l1 (.lst (hs.lost.map V.int))) lh (.lst []) = H4 at t4 elh e0' el0' m0' ⊢
   have nlq : lh ≠ q0 := by
     intro z
     rw [z] at nlh
     have := ((s2.trans (Same.new (o := .lst (hs.lost.map V.int)) n1)) _ _ e0)
     rw [nlh] at this; cases this
   have nll : lh ≠ l0 := by
     intro z
     rw [z] at nlh
     have := ((s2.trans (Same.new (o := .lst (hs.lost.map V.int)) n1)) _ _ el0)
     rw [nlh] at this; cases this
   have elen : ((hs.lost.map V.int).length : Int) = (hs.lost.length : Int) := by rw [List.length_map]
   refine ⟨fun σ H' => ∃ (fo1 : List Msg) (ys1 : List V), σ = [some (.ref tp), some (.ref a.p), some (.ref q0), some (.int ((hs.lost.map V.int).length : Int)), some (.ref lh)] ∧ HAt CH H' a (if missedF k (hs.next - 1) all > 0 then giveS ((all.length : Int) - ((lastK k all).length : Int) + 1) hs else hs) [] ∧
     (if missedF k (hs.next - 1) all > 0 then giveS ((all.length : Int) - ((lastK k all).length : Int) + 1) hs else hs).heard = hs.heard ++ fo1 ∧ H' lh = some (.lst ys1) ∧ Ms H' ys1 fo1 ∧ Stp a.fp H a.fp H' ∧ H' q0 = some (.tup [.ref l0, .int (missedF k (hs.next - 1) all)]) ∧ H' l0 = some (.lst y0) ∧ Ms H' y0 fnd, ?_, ?_⟩
   case refine_2 =>
     refine ⟨_, rfl, q0, _, 1, _, rfl, rfl, SqT.ofT e0', rfl, _, _, rfl, rfl, _, rfl, ?_⟩
     refine ite2 (fun hz => ?_) (fun hz => ?_)
     · have hz' : missedF k (hs.next - 1) all > 0 := of_decide_eq_true hz
       rw [if_pos hz']
       have h14 := t4 _ _ h1
       refine ⟨_, rfl, .inl ⟨rfl, _, SqL.ofL elh⟩, _, rfl, a.p, dh, _, rfl, h14, no_h hH (.inr (.inr (.inr (.inr (.inr (.inr (.inr (.inr (.inr (.inl rfl)))))))))), _, rfl, tp, dA, _, rfl, t4 _ _ hA0, no_t (.inr (.inr (.inr (.inl rfl)))), tp, k, r, all, sd, d, rfl, TA.same t4, a, hs, [], _, rfl, hH.same t4, hw.dh, by omega, by omega, by omega, fun l2 y2 fo2 H5 hA5 eh5 st5 nl2 ol2 el2 ml2 => ?_⟩
       have elh5 := st5.keep elh olh
       refine ⟨lh, l2, _, _, rfl, rfl, elh5, el2, ?_, ?_⟩
       · rw [ml2.len, sizeLine_eq]
         have h1 := congrArg List.length eh5
         rw [List.length_append] at h1
         have h2 := (give_mem (n := (all.length : Int) - ((lastK k all).length : Int) + 1) hw.dh).2.2
         show 0 + _ ≤ _; omega
       have sc := Stp.put (ps := [lh]) (o := .lst ([] ++ y2)) elh5 (fun _ z => by cases z) (by simp)
       refine ⟨fo2, [] ++ y2, rfl, hA5.step sc (fun c hc z => olh (by rw [List.mem_singleton] at z; rw [← z]; exact hc)), eh5, upd_same, ml2.step sc, ?_, sc.keep (st5.keep e0' oq0) (by simp [nlq.symm]), sc.keep (st5.keep el0' ol0) (by simp [nll.symm]), (m0'.step st5).step sc⟩
       refine ⟨fun c o ho hc => sc.keep (st5.keep (t4 _ _ ho) hc) (by simp; exact ne_of_none ho nlh0), (t4.tups.trans st5.tup).trans sc.tup, fun c hc => .inl hc⟩
     · have hz' : ¬ missedF k (hs.next - 1) all > 0 := fun z => hz (decide_eq_true z)
       rw [if_neg hz']
       exact ⟨[], [], rfl, hH.same t4, (List.append_nil _).symm, elh, Ms.nil, t4.step _, e0', el0', m0'⟩
   rintro σ H5 ⟨fo1, ys1, rfl, hH5, eh5, elh5, ml5, st5, e05, el05, m05⟩
   obtain ⟨hwC, hnC, hhC, hlC⟩ := hw.catch hR hk hnx
   have hw1 : Hw all (if missedF k (hs.next - 1) all > 0 then giveS ((all.length : Int) - ((lastK k all).length : Int) + 1) hs else hs) := by
     split
     · exact hw.give (by omega)
     · exact hw
   have hsz1 : (if missedF k (hs.next - 1) all > 0 then giveS ((all.length : Int) - ((lastK k all).length : Int) + 1) hs else hs).heard.length + (if missedF k (hs.next - 1) all > 0 then giveS ((all.length : Int) - ((lastK k all).length : Int) + 1) hs else hs).held.length ≤ 200 ∧ (if missedF k (hs.next - 1) all > 0 then giveS ((all.length : Int) - ((lastK k all).length : Int) + 1) hs else hs).next ≤ (catchS k all hs).next := by
     refine ⟨?_, ?_⟩
     · split
       · rw [(give_mem hw.dh).2.2]; exact hsz
       · exact hsz
     · exact take_next _ _
   have eC : catchS k all hs = takeS (if missedF k (hs.next - 1) all > 0 then giveS ((all.length : Int) - ((lastK k all).length : Int) + 1) hs else hs) fnd := by unfold catchS; rw [efnd]
   generalize (if missedF k (hs.next - 1) all > 0 then giveS ((all.length : Int) - ((lastK k all).length : Int) + 1) hs else hs) = hs1 at hH5 eh5 hw1 hsz1 eC
   have hn1 : hs1.next = (hs1.heard.length : Int) + (hs1.lost.length : Int) + 1 := rfl
   obtain ⟨dh5, h15⟩ := hH5.ob
   refine ⟨_, rfl, .inl ⟨rfl, _, SqL.ofL elh5⟩, _, rfl, a.p, dh5, _, rfl, h15, no_h hH5 (.inr (.inr (.inl rfl))), _, rfl, q0, _, 0, _, rfl, rfl, SqT.ofT e05, rfl, a, hs1, [], l0, y0, fnd, rfl, hH5, el05, m05, by omega, hw1.toHw0.fits hR hfR, (fun m hm => hok m (hfR m hm)), hw1.dh, by omega, fun l2 y2 fo2 H6 hA6 eh6 st6 nl2 ol2 el2 ml2 => ?_⟩
   rw [← eC] at hA6 eh6
   have elh6 := st6.keep elh5 olh
   have lc := congrArg List.length eh6
   rw [List.length_append] at lc
   have lc1 := congrArg List.length eh5
   rw [List.length_append] at lc1
   have hnC' : (catchS k all hs).next = ((catchS k all hs).heard.length : Int) + ((catchS k all hs).lost.length : Int) + 1 := rfl
   refine ⟨lh, l2, _, _, rfl, rfl, elh6, el2, by rw [ml5.len, ml2.len, sizeLine_eq]; omega, ?_⟩
   have sc := Stp.put (ps := [lh]) (o := .lst (ys1 ++ y2)) elh6 (fun _ z => by cases z) (by simp)
   have hA7 := hA6.step sc (fun c hc z => olh (by rw [List.mem_singleton] at z; rw [← z]; exact hc))
   have elh7 := upd_same (H := H6) (a := lh) (o := .lst (ys1 ++ y2))
   have ml7 := ((ml5.step st6).append ml2).step sc
   have st7 : Stp a.fp H a.fp _ := (st5.trans st6).weak (qs := a.fp) (qs' := a.fp) (fun _ z => z) (fun _ z => .inr z)
   have st8 : Stp a.fp H a.fp (upd H6 lh (.lst (ys1 ++ y2))) := ⟨fun c o ho hc => sc.keep (st7.keep ho hc) (by simp; exact ne_of_none ho nlh0), st7.tup.trans sc.tup, fun c hc => .inl hc⟩
   generalize upd H6 lh (.lst (ys1 ++ y2)) = H7 at hA7 elh7 ml7 st8 ⊢
   obtain ⟨dh7, h17⟩ := hA7.ob
   refine ⟨_, rfl, _, rfl, a.p, dh7, _, rfl, h17, no_h hA7 (.inr (.inr (.inr (.inr (.inr (.inr (.inr (.inr (.inl rfl))))))))), a, _, [], rfl, hA7, fun l3 n3 => ⟨l3, _, rfl, .inl (SqL.ofL upd_same), _, rfl, _, _, rfl, rfl, (show 2 ≤ sizeLine by decide), fun q1 n4 => ?_⟩⟩
   have j8 := Same.new (o := .lst ((catchS k all hs).lost.map V.int)) n3
   have j9 := j8.trans (Same.new (o := .tup [.ref lh, .int ((((catchS k all hs).lost.map V.int).length : Int) - ((hs.lost.map V.int).length : Int))]) n4)
   have oq1 : q1 ∉ a.fp := (hA7.same j8).free n4
   refine q q1 lh (ys1 ++ y2) (fo1 ++ fo2) _ (hA7.same j9) (by rw [eh6, eh5, List.append_assoc]) (st8.trans (j9.step _)) ?_ ?_ (j9 _ _ elh7) (ml7.same j9) olh oq1 nlh0
   · rcases st8.free' (j8.free n4) with z | z
     · exact absurd z oq1
     · exact z
   · rw [← List.length_map (f := V.int) (as := (catchS k all hs).lost), ← List.length_map (f := V.int) (as := hs.lost)]; exact upd_same
theorem no_f {a : FA} {f : Str} (h : f = "refuse_unknown" ∨ f = "road_of" ∨ f = "hearer_of" ∨ f = "names" ∨ f = "tell" ∨ f = "carry" ∨ f = "catch_up" ∨ f = "heard" ∨ f = "lost" ∨ f = "waiting" ∨ f = "lag" ∨ f = "slowest" ∨ f = "lay" ∨ f = "close") : (fFl a).lookup f = none := by
 rcases h with rfl | rfl | rfl | rfl | rfl | rfl | rfl | rfl | rfl | rfl | rfl | rfl | rfl | rfl <;> exact fFl_no (by decide +kernel) (by decide +kernel) (by decide +kernel)
theorem no_rd {sz : Int} {way : Str} {r d : Addr} {b : Bool} {f : Str} (h : f = "put" ∨ f = "take" ∨ f = "waiting" ∨ f = "mend") : (rF sz way r d b).lookup f = none := by
 rcases h with rfl | rfl | rfl | rfl <;> exact rF_no (by decide +kernel) (by decide +kernel) (by decide +kernel) (by decide +kernel) (by decide +kernel)
abbrev s_Fan_refuse_unknown : Stmt := inClass (top 21) 3
abbrev N_Fan_refuse_unknown : List Str := ["self", "name"]
theorem sc_Fan_refuse_unknown : FnScope N_Fan_refuse_unknown ["self", "name"] (defScope s_Fan_refuse_unknown) := ⟨rfl, rfl, rfl, by decide +kernel, rfl, by decide +kernel, by decide +kernel⟩
theorem ok_Fan_refuse_unknown {f CF CT CR CH : Addr} {fd : FuncData} (F : Fun K "refuse_unknown" "Fan.refuse_unknown" s_Fan_refuse_unknown f fd) (TC : FanC K mg CF) : FnOk P w K mg base CX0 1 f fd ["self", "name"] (spFKnow CF CT CR CH) := by
 refine F.ok sc_Fan_refuse_unknown (fun vs H Q E h => ?_) (fun cdv A outer s0 H vs Q E hr h => ?_)
 · obtain ⟨a, l, g, k, all, n, rfl, _⟩ := h; rfl
 · obtain ⟨a, l, g, k, all, n, rfl, hA, hn, q⟩ := h
   refine ⟨_, (pss_one (ps_if (pt_cmp (pc_dnotin (hu_of hr) (pv 1) (k_fld K (pv 0) rfl))) (pss_one ps_never) pss_nil)), ?_⟩
   obtain ⟨dx, h1⟩ := hA.ob
   refine ⟨_, rfl, _, rfl, a.p, CF, dx, _, _, rfl, h1, TC.cl_Fan, TC.n_roads, fFl_r a, a.rd, _, rfl, DGet.k (k := Sum.inr n) hA.rs, _, rfl, ?_⟩
   rw [show valV (rdT l g) (Sum.inr n) = some (.ref (g n).p) from tabN_val hn]
   exact iteF q
abbrev s_Fan_road_of : Stmt := inClass (top 21) 4
abbrev N_Fan_road_of : List Str := ["self", "name"]
theorem sc_Fan_road_of : FnScope N_Fan_road_of ["self", "name"] (defScope s_Fan_road_of) := ⟨rfl, rfl, rfl, by decide +kernel, rfl, by decide +kernel, by decide +kernel⟩
theorem ok_Fan_road_of {f CF CT CR CH : Addr} {fd : FuncData} (F : Fun K "road_of" "Fan.road_of" s_Fan_road_of f fd) (TC : FanC K mg CF) (m_refuse_unknown : CalleeM P w K mg base 1 CF "refuse_unknown" ["self", "name"] (spFKnow CF CT CR CH)) : FnOk P w K mg base CX0 2 f fd ["self", "name"] (spFRoad CF CT CR CH) := by
 refine F.ok sc_Fan_road_of (fun vs H Q E h => ?_) (fun cdv A outer s0 H vs Q E hr h => ?_)
 · obtain ⟨a, l, g, k, all, n, rfl, _⟩ := h; rfl
 · obtain ⟨a, l, g, k, all, n, rfl, hA, hn, q⟩ := h
   refine ⟨_, (pss_cons (ps_expr (as_meth m_refuse_unknown TC.cl_Fan (hr.mono (by decide)) (pv 0) (at_cons (pv 1) as_nil)))
     (pss_one (ps_ret (pe_dget (hu_of hr) (k_fld K (pv 0) rfl) (pv 1) (fun _ _ => rfl))))), ?_⟩
   obtain ⟨dx, h1⟩ := hA.ob
   exact ⟨_, rfl, a.p, dx, _, rfl, h1, no_f (.inl rfl), _, rfl, a, l, g, k, all, n, rfl, hA, hn, _, rfl, a.p, CF, dx, _, _, rfl, h1, TC.cl_Fan, TC.n_roads, fFl_r a, _, rfl, a.rd, _, rfl, .inl ⟨_, Sum.inr n, .inl hA.rs, rfl, (tabN_val hn).symm⟩, q⟩
abbrev s_Fan_hearer_of : Stmt := inClass (top 21) 5
abbrev N_Fan_hearer_of : List Str := ["self", "name"]
theorem sc_Fan_hearer_of : FnScope N_Fan_hearer_of ["self", "name"] (defScope s_Fan_hearer_of) := ⟨rfl, rfl, rfl, by decide +kernel, rfl, by decide +kernel, by decide +kernel⟩
theorem ok_Fan_hearer_of {f CF CT CR CH : Addr} {fd : FuncData} (F : Fun K "hearer_of" "Fan.hearer_of" s_Fan_hearer_of f fd) (TC : FanC K mg CF) (m_refuse_unknown : CalleeM P w K mg base 1 CF "refuse_unknown" ["self", "name"] (spFKnow CF CT CR CH)) : FnOk P w K mg base CX0 2 f fd ["self", "name"] (spFHearer CF CT CR CH) := by
 refine F.ok sc_Fan_hearer_of (fun vs H Q E h => ?_) (fun cdv A outer s0 H vs Q E hr h => ?_)
 · obtain ⟨a, l, g, k, all, n, rfl, _⟩ := h; rfl
 · obtain ⟨a, l, g, k, all, n, rfl, hA, hn, q⟩ := h
   refine ⟨_, (pss_cons (ps_expr (as_meth m_refuse_unknown TC.cl_Fan (hr.mono (by decide)) (pv 0) (at_cons (pv 1) as_nil)))
     (pss_one (ps_ret (pe_dget (hu_of hr) (k_fld K (pv 0) rfl) (pv 1) (fun _ _ => rfl))))), ?_⟩
   obtain ⟨dx, h1⟩ := hA.ob
   exact ⟨_, rfl, a.p, dx, _, rfl, h1, no_f (.inl rfl), _, rfl, a, l, g, k, all, n, rfl, hA, hn, _, rfl, a.p, CF, dx, _, _, rfl, h1, TC.cl_Fan, TC.n_hearers, fFl_h a, _, rfl, a.hd, _, rfl, .inl ⟨_, Sum.inr n, .inl hA.hs, rfl, (tabN_val hn).symm⟩, q⟩
abbrev s_Fan_names : Stmt := inClass (top 21) 6
abbrev N_Fan_names : List Str := ["self"]
theorem sc_Fan_names : FnScope N_Fan_names ["self"] (defScope s_Fan_names) := ⟨rfl, rfl, rfl, by decide +kernel, rfl, by decide +kernel, by decide +kernel⟩
theorem ok_Fan_names {f CF CT CR CH : Addr} {fd : FuncData} (F : Fun K "names" "Fan.names" s_Fan_names f fd) (T : Txt mg) (TC : FanC K mg CF) : FnOk P w K mg base CX0 1 f fd ["self"] (spFNames CF CT CR CH) := by
 refine F.ok sc_Fan_names (fun vs H Q E h => ?_) (fun cdv A outer s0 H vs Q E hr h => ?_)
 · obtain ⟨a, l, g, k, all, rfl, _⟩ := h; rfl
 · obtain ⟨a, l, g, k, all, rfl, hA, hl, q⟩ := h
   refine ⟨_, (pss_one (ps_ret (as_callB (k_sortT K rfl) (by rfl) T.b_sorted PyProof.Rows.boot_sorted (at_cons (k_fld K (pv 0) rfl) as_nil)))), ?_⟩
   obtain ⟨dx, h1⟩ := hA.ob
   exact ⟨_, rfl, a.p, CF, dx, _, _, rfl, h1, TC.cl_Fan, TC.n_roads, fFl_r a, .ref a.rd, l, rfl, .inr ⟨a.rd, _, rfl, hA.rs, tabN_keys l _⟩, hl, q⟩
abbrev s_Fan_heard : Stmt := inClass (top 21) 10
abbrev N_Fan_heard : List Str := ["self", "name"]
theorem sc_Fan_heard : FnScope N_Fan_heard ["self", "name"] (defScope s_Fan_heard) := ⟨rfl, rfl, rfl, by decide +kernel, rfl, by decide +kernel, by decide +kernel⟩
theorem ok_Fan_heard {f CF CT CR CH : Addr} {fd : FuncData} (F : Fun K "heard" "Fan.heard" s_Fan_heard f fd) (TC : TxtF K mg CF CT CR CH) (m_hearer_of : CalleeM P w K mg base 2 CF "hearer_of" ["self", "name"] (spFHearer CF CT CR CH)) (m_Hearer_heard : CalleeM P w K mg base 1 CH "heard" ["self"] (spHeard CH)) : FnOk P w K mg base CX0 3 f fd ["self", "name"] (spFHeard CF CT CR CH) := by
 refine F.ok sc_Fan_heard (fun vs H Q E h => ?_) (fun cdv A outer s0 H vs Q E hr h => ?_)
 · obtain ⟨a, l, g, k, all, n, rfl, _⟩ := h; rfl
 · obtain ⟨a, l, g, k, all, n, rfl, hA, hn, q⟩ := h
   refine ⟨_, (pss_one (ps_ret (as_meth0 m_Hearer_heard TC.cl_Hearer (hr.mono (by decide)) (as_meth m_hearer_of TC.cl_Fan (hr.mono (by decide)) (pv 0) (at_cons (pv 1) as_nil))))), ?_⟩
   obtain ⟨dx, h1⟩ := hA.ob
   have hB := (hA.en n hn).ha
   obtain ⟨dB, oB⟩ := hB.ob
   exact ⟨_, rfl, a.p, dx, _, rfl, h1, no_f (.inr (.inr (.inl rfl))), _, rfl, a, l, g, k, all, n, rfl, hA, hn, (g n).B.p, dB, _, rfl, oB, no_h hB (.inr (.inr (.inr (.inr (.inr (.inl rfl)))))), (g n).B, _, [], rfl, hB, q⟩
abbrev s_Fan_lost : Stmt := inClass (top 21) 11
abbrev N_Fan_lost : List Str := ["self", "name"]
theorem sc_Fan_lost : FnScope N_Fan_lost ["self", "name"] (defScope s_Fan_lost) := ⟨rfl, rfl, rfl, by decide +kernel, rfl, by decide +kernel, by decide +kernel⟩
theorem ok_Fan_lost {f CF CT CR CH : Addr} {fd : FuncData} (F : Fun K "lost" "Fan.lost" s_Fan_lost f fd) (TC : TxtF K mg CF CT CR CH) (m_hearer_of : CalleeM P w K mg base 2 CF "hearer_of" ["self", "name"] (spFHearer CF CT CR CH)) (m_Hearer_lost : CalleeM P w K mg base 1 CH "lost" ["self"] (spLost CH)) : FnOk P w K mg base CX0 3 f fd ["self", "name"] (spFLost CF CT CR CH) := by
 refine F.ok sc_Fan_lost (fun vs H Q E h => ?_) (fun cdv A outer s0 H vs Q E hr h => ?_)
 · obtain ⟨a, l, g, k, all, n, rfl, _⟩ := h; rfl
 · obtain ⟨a, l, g, k, all, n, rfl, hA, hn, q⟩ := h
   refine ⟨_, (pss_one (ps_ret (as_meth0 m_Hearer_lost TC.cl_Hearer (hr.mono (by decide)) (as_meth m_hearer_of TC.cl_Fan (hr.mono (by decide)) (pv 0) (at_cons (pv 1) as_nil))))), ?_⟩
   obtain ⟨dx, h1⟩ := hA.ob
   have hB := (hA.en n hn).ha
   obtain ⟨dB, oB⟩ := hB.ob
   exact ⟨_, rfl, a.p, dx, _, rfl, h1, no_f (.inr (.inr (.inl rfl))), _, rfl, a, l, g, k, all, n, rfl, hA, hn, (g n).B.p, dB, _, rfl, oB, no_h hB (.inr (.inr (.inr (.inr (.inr (.inr (.inr (.inr (.inl rfl))))))))), (g n).B, _, [], rfl, hB, q⟩
abbrev s_Fan_waiting : Stmt := inClass (top 21) 12
abbrev N_Fan_waiting : List Str := ["self", "name"]
theorem sc_Fan_waiting : FnScope N_Fan_waiting ["self", "name"] (defScope s_Fan_waiting) := ⟨rfl, rfl, rfl, by decide +kernel, rfl, by decide +kernel, by decide +kernel⟩
theorem ok_Fan_waiting {f CF CT CR CH : Addr} {fd : FuncData} (F : Fun K "waiting" "Fan.waiting" s_Fan_waiting f fd) (TC : TxtF K mg CF CT CR CH) (m_road_of : CalleeM P w K mg base 2 CF "road_of" ["self", "name"] (spFRoad CF CT CR CH)) (m_Road_waiting : CalleeM P w K mg base 1 CR "waiting" ["self"] (spWait CR)) : FnOk P w K mg base CX0 3 f fd ["self", "name"] (spFWait CF CT CR CH) := by
 refine F.ok sc_Fan_waiting (fun vs H Q E h => ?_) (fun cdv A outer s0 H vs Q E hr h => ?_)
 · obtain ⟨a, l, g, k, all, n, rfl, _⟩ := h; rfl
 · obtain ⟨a, l, g, k, all, n, rfl, hA, hn, q⟩ := h
   refine ⟨_, (pss_one (ps_ret (as_meth0 m_Road_waiting TC.cl_Road (hr.mono (by decide)) (as_meth m_road_of TC.cl_Fan (hr.mono (by decide)) (pv 0) (at_cons (pv 1) as_nil))))), ?_⟩
   obtain ⟨dx, h1⟩ := hA.ob
   have hR := (hA.en n hn).ra
   obtain ⟨dR, oR⟩ := hR.ob
   exact ⟨_, rfl, a.p, dx, _, rfl, h1, no_f (.inr (.inl rfl)), _, rfl, a, l, g, k, all, n, rfl, hA, hn, (g n).p, dR, _, rfl, oR, no_rd (.inr (.inr (.inl rfl))), (g n).p, _, _, _, _, _, rfl, hR, q⟩
abbrev s_Fan_lag : Stmt := inClass (top 21) 13
abbrev N_Fan_lag : List Str := ["self", "name"]
theorem sc_Fan_lag : FnScope N_Fan_lag ["self", "name"] (defScope s_Fan_lag) := ⟨rfl, rfl, rfl, by decide +kernel, rfl, by decide +kernel, by decide +kernel⟩
theorem ok_Fan_lag {f CF CT CR CH : Addr} {fd : FuncData} (F : Fun K "lag" "Fan.lag" s_Fan_lag f fd) (TC : TxtF K mg CF CT CR CH) (m_hearer_of : CalleeM P w K mg base 2 CF "hearer_of" ["self", "name"] (spFHearer CF CT CR CH)) (m_told : CalleeM P w K mg base 1 CT "told" ["self"] (spTold CT)) (m_expects : CalleeM P w K mg base 1 CH "expects" ["self"] (spExpects CH)) : FnOk P w K mg base CX0 3 f fd ["self", "name"] (spFLag CF CT CR CH) := by
 refine F.ok sc_Fan_lag (fun vs H Q E h => ?_) (fun cdv A outer s0 H vs Q E hr h => ?_)
 · obtain ⟨a, l, g, k, all, n, rfl, _⟩ := h; rfl
 · obtain ⟨a, l, g, k, all, n, rfl, hA, hn, q⟩ := h
   refine ⟨_, (pss_one (ps_ret (pe_op op_add (pe_op op_sub (as_meth0 m_told TC.cl_Teller (hr.mono (by decide)) (k_fld K (pv 0) rfl)) (as_meth0 m_expects TC.cl_Hearer (hr.mono (by decide)) (as_meth m_hearer_of TC.cl_Fan (hr.mono (by decide)) (pv 0) (at_cons (pv 1) as_nil)))) pe_int))), ?_⟩
   obtain ⟨dx, h1⟩ := hA.ob
   have hB := (hA.en n hn).ha
   obtain ⟨dB, oB⟩ := hB.ob
   obtain ⟨dT, oT⟩ := hA.tl.ob
   exact ⟨_, rfl, a.p, CF, dx, _, _, rfl, h1, TC.cl_Fan, TC.R_Fan.n_teller, fFl_t a, a.tp, dT, _, rfl, oT, no_t (.inr (.inl rfl)), a.tp, _, _, _, _, _, rfl, hA.tl, _, rfl, a.p, dx, _, rfl, h1, no_f (.inr (.inr (.inl rfl))), _, rfl, a, l, g, k, all, n, rfl, hA, hn, (g n).B.p, dB, _, rfl, oB, no_h hB (.inl rfl), (g n).B, _, [], rfl, hB, _, _, rfl, rfl, _, _, rfl, rfl, q⟩
abbrev s_Fan___init__ : Stmt := inClass (top 21) 0
abbrev N_Fan___init__ : List Str := ["self", "keep"]
theorem sc_Fan___init__ : FnScope N_Fan___init__ ["self", "keep"] (defScope s_Fan___init__) := ⟨rfl, rfl, rfl, by decide +kernel, rfl, by decide +kernel, by decide +kernel⟩
theorem ok_Fan_init {f CF CT CR CH : Addr} {fd : FuncData} (F : Fun K "__init__" "Fan.__init__" s_Fan___init__ f fd) (TC : TxtF K mg CF CT CR CH) (i_Teller : CalleeI P w K mg base 1 CT ["self", "keep"] (spInitT CT)) : FnOk P w K mg base CX0 3 f fd ["self", "keep"] (spFInit CF CT CR CH) := by
 refine F.ok sc_Fan___init__ (fun vs H Q E h => ?_) (fun cdv A outer s0 H vs Q E hr h => ?_)
 · obtain ⟨p, dx, k, rfl, _⟩ := h; rfl
 · obtain ⟨p, dx, k, rfl, hp, q⟩ := h
   refine ⟨_, (pss_cons (k_sfld K (pv 0) (as_make i_Teller (hr.mono (by decide)) TC.mg_Teller (at_cons (pv 1) as_nil)) rfl)
     (pss_cons (k_sfld K (pv 0) pe_dnewK rfl)
     (pss_one (k_sfld K (pv 0) pe_dnewK rfl)))), ?_⟩
   refine ⟨_, rfl, ?_⟩
   intro tp dx1 np1 nd1 nx1
   refine ⟨tp, dx1, k, rfl, upd_same, fun ts td H2 ns nd TA bu => ⟨rfl, ?_⟩⟩
   have s0 := Stp.obj (o := .own tp) (o' := .ins CT dx1 []) np1 nd1
   have s2 : Same H H2 := fun b o ho => bu b o (s0.same _ _ ho) (fun z => by rw [z, np1] at ho; cases ho)
   have nts : H ts = none := s0.free ns List.not_mem_nil
   have ntd : H td = none := s0.free nd List.not_mem_nil
   have hp2 := s2 _ _ hp
   refine ⟨_, rfl, p, CF, dx, [], rfl, hp2, TC.cl_Fan, TC.R_Fan.n_teller, by decide, ?_⟩
   have z1 := Stp.put (ps := [p]) (o := .ins CF dx (putF "teller" (.ref tp) [])) hp2 (fun _ z => by cases z) (by simp)
   have e1 := upd_same (H := H2) (a := p) (o := .ins CF dx (putF "teller" (.ref tp) []))
   generalize upd H2 p (.ins CF dx (putF "teller" (.ref tp) [])) = H3 at z1 e1 ⊢
   intro rd nrd
   have g3 := Same.new (o := .dK []) nrd
   have erd := upd_same (H := H3) (a := rd) (o := .dK [])
   have ep3 := g3 _ _ e1
   have nrp : rd ≠ p := fun z => by rw [z, e1] at nrd; cases nrd
   generalize upd H3 rd (.dK []) = H4 at g3 erd ep3 ⊢
   refine ⟨_, rfl, p, CF, dx, _, rfl, ep3, TC.cl_Fan, TC.R_Fan.n_roads, (show 1 < 1000 by decide), ?_⟩
   have z2 := Stp.put (ps := [p]) (o := .ins CF dx (putF "roads" (.ref rd) (putF "teller" (.ref tp) []))) ep3 (fun _ z => by cases z) (by simp)
   have e2 := upd_same (H := H4) (a := p) (o := .ins CF dx (putF "roads" (.ref rd) (putF "teller" (.ref tp) [])))
   have erd2 := z2.keep erd (by simp [nrp])
   generalize upd H4 p (.ins CF dx (putF "roads" (.ref rd) (putF "teller" (.ref tp) []))) = H5 at z2 e2 erd2 ⊢
   intro hd nhd
   have g5 := Same.new (o := .dK []) nhd
   have ehd := upd_same (H := H5) (a := hd) (o := .dK [])
   have ep5 := g5 _ _ e2
   have erd5 := g5 _ _ erd2
   have nhp : hd ≠ p := fun z => by rw [z, e2] at nhd; cases nhd
   have nhr : hd ≠ rd := fun z => by rw [z, erd2] at nhd; cases nhd
   generalize upd H5 hd (.dK []) = H6 at g5 ehd ep5 erd5 ⊢
   refine ⟨_, rfl, p, CF, dx, _, rfl, ep5, TC.cl_Fan, TC.R_Fan.n_hearers, (show 2 < 1000 by decide), ?_⟩
   rw [show putF "hearers" (.ref hd) (putF "roads" (.ref rd) (putF "teller" (.ref tp) [])) = fFl ⟨p, rd, hd, tp, ts, td⟩ from fFl_make ⟨p, rd, hd, tp, ts, td⟩]
   have z3 := Stp.put (ps := [p]) (o := .ins CF dx (fFl ⟨p, rd, hd, tp, ts, td⟩)) ep5 (fun _ z => by cases z) (by simp)
   have e3 := upd_same (H := H6) (a := p) (o := .ins CF dx (fFl ⟨p, rd, hd, tp, ts, td⟩))
   have erd7 := z3.keep erd5 (by simp [nrp])
   have ehd7 := z3.keep ehd (by simp [nhp])
   generalize upd H6 p (.ins CF dx (fFl ⟨p, rd, hd, tp, ts, td⟩)) = H7 at z3 e3 erd7 ehd7 ⊢
   have w : Stp [p] H2 [p] H7 := (((z1.trans (g3.step _)).trans z2).trans (g5.step _)).trans z3
   have ntp : ∀ c ∈ [tp, ts, td], c ≠ p := fun c hc z => by
     simp only [List.mem_cons, List.not_mem_nil, or_false] at hc
     rcases hc with rfl | rfl | rfl
     · rw [z, hp] at np1; cases np1
     · rw [z, hp] at nts; cases nts
     · rw [z, hp] at ntd; cases ntd
   have TA7 := TA.stp w (fun c hc => by simp [ntp c hc])
   have nrd2 : H2 rd = none := z1.free nrd (by simp [nrp])
   have nhd2 : H2 hd = none := ((z1.trans (g3.step _)).trans z2).free nhd (by simp [nhp])
   have l3 := TA.live3
   refine q ⟨p, rd, hd, tp, ts, td⟩ H7 rfl (fun g => ⟨⟨⟨dx, e3⟩, TA7, ehd7, fun n hn => absurd hn List.not_mem_nil, List.nodup_nil, fun n hn => absurd hn List.not_mem_nil, fun n hn => absurd hn List.not_mem_nil, by simp [nrp, nhr.symm], fun c hc z => ?_⟩, erd7⟩) ⟨fun c o ho hc => w.but c o (s2 _ _ ho) hc, s2.tups.trans w.tup, fun c hc => ?_⟩
   · simp only [List.mem_cons, List.not_mem_nil, or_false] at hc
     obtain ⟨o, ho⟩ := l3 c z
     rcases hc with rfl | rfl | rfl
     · exact ntp _ z rfl
     · rw [nrd2] at ho; cases ho
     · rw [nhd2] at ho; cases ho
   · simp only [FA.own, List.mem_cons, List.not_mem_nil, or_false] at hc
     rcases hc with rfl | rfl | rfl | rfl | rfl | rfl
     · exact .inl (by simp)
     · exact .inr ((s2.step []).free nrd2 List.not_mem_nil)
     · exact .inr ((s2.step []).free nhd2 List.not_mem_nil)
     · exact .inr np1
     · exact .inr nts
     · exact .inr ntd
abbrev s_Fan_lay : Stmt := inClass (top 21) 1
abbrev N_Fan_lay : List Str := ["self", "name", "size", "way"]
theorem sc_Fan_lay : FnScope N_Fan_lay ["self", "name", "size", "way"] (defScope s_Fan_lay) := ⟨rfl, rfl, rfl, by decide +kernel, rfl, by decide +kernel, by decide +kernel⟩
theorem ok_Fan_lay {f CF CT CR CH : Addr} {fd : FuncData} (F : Fun K "lay" "Fan.lay" s_Fan_lay f fd) (TC : TxtF K mg CF CT CR CH) (i_Road : CalleeI P w K mg base 1 CR ["self", "size", "way"] (spInitR CR)) (i_Hearer : CalleeI P w K mg base 1 CH ["self"] (spInitH CH)) : FnOk P w K mg base CX0 3 f fd ["self", "name", "size", "way"] (spFLay CF CT CR CH) := by
 refine F.ok sc_Fan_lay (fun vs H Q E h => ?_) (fun cdv A outer s0 H vs Q E hr h => ?_)
 · obtain ⟨a, l, g, k, all, n, sz, way, rfl, _⟩ := h; rfl
 · obtain ⟨a, l, g, k, all, n, sz, way, rfl, hA, hn, hl, q⟩ := h
   refine ⟨_, (pss_cons (ps_if (pt_cmp (pc_din (hu_of hr) (pv 1) (k_fld K (pv 0) rfl))) (pss_one ps_never) pss_nil)
     (pss_cons (ps_dput (hu_of hr) (k_fld K (pv 0) rfl) (pv 1) (as_make i_Road (hr.mono (by decide)) TC.mg_Road (at_cons (pv 2) (as_cons (pv 3) as_nil))) rfl)
     (pss_one (ps_dput (hu_of hr) (k_fld K (pv 0) rfl) (pv 1) (as_make0 i_Hearer (hr.mono (by decide)) TC.mg_Hearer) rfl)))), ?_⟩
   obtain ⟨dx, h1⟩ := hA.ob
   refine ⟨_, rfl, _, rfl, a.p, CF, dx, _, _, rfl, h1, TC.cl_Fan, TC.R_Fan.n_roads, fFl_r a, a.rd, _, rfl, DGet.k (k := Sum.inr n) hA.rs, _, rfl, ?_⟩
   rw [show valV (rdT l g) (Sum.inr n) = none from tabN_none hn]
   refine iteF ⟨_, rfl, _, rfl, ?_⟩
   intro p1 dx1 np1 nd1 nx1
   refine ⟨p1, dx1, sz, way, rfl, upd_same, fun r d H2 RA st2 => ⟨rfl, ?_⟩⟩
   have v2 : Stp [] H [p1, r, d] H2 := (Stp.obj (o := .own p1) (o' := .ins CR dx1 []) np1 nd1).trans st2
   have hA2 := hA.step v2 fun _ _ => List.not_mem_nil
   have o2 : ∀ c ∈ a.fp l g, c ∉ [p1, r, d] := hA.out v2 fun _ _ => List.not_mem_nil
   obtain ⟨dx2, h2⟩ := hA2.ob
   have hkr : (rdT l g).length < sizeLine := by rw [rdT, tabN_len, sizeLine_eq]; omega
   have hkh : (hdT l g).length < sizeLine := by rw [hdT, tabN_len, sizeLine_eq]; omega
   refine ⟨_, rfl, a.p, CF, dx2, _, _, rfl, h2, TC.cl_Fan, TC.R_Fan.n_roads, fFl_r a, _, rfl, a.rd, _, rfl, DPut.k (k := Sum.inr n) hA2.rs hkr, ?_⟩
   have z3 := Stp.put (ps := [a.rd]) (o := .dK (putK (rdT l g) (Sum.inr n) (.ref p1))) hA2.rs (fun _ z => by cases z) (by simp)
   have erd := upd_same (H := H2) (a := a.rd) (o := .dK (putK (rdT l g) (Sum.inr n) (.ref p1)))
   have rdo : a.rd ∈ a.own := by simp [FA.own]
   have hdo : a.hd ∈ a.own := by simp [FA.own]
   have own_fp : ∀ c ∈ a.own, c ∈ a.fp l g := fun c hc => List.mem_append_left _ hc
   have RA3 := RA.step z3 (fun c hc z => o2 a.rd (own_fp _ rdo) (by rw [List.mem_singleton] at z; rw [← z]; exact hc))
   have hA3 := hA2.toFAt0.step z3 (fun c _ hne z => hne (List.mem_singleton.mp z))
   generalize upd H2 a.rd (.dK (putK (rdT l g) (Sum.inr n) (.ref p1))) = H3 at z3 erd RA3 hA3 ⊢
   intro p2 dx3 np2 nd2 nx2
   refine ⟨p2, dx3, rfl, upd_same, fun B H4 ep hB st4 => ⟨rfl, ?_⟩⟩
   subst ep
   have v4 : Stp [] H3 B.fp H4 := (Stp.obj (o := .own B.p) (o' := .ins CH dx3 []) np2 nd2).trans st4
   have hA4 := hA3.step v4 (fun _ _ _ => List.not_mem_nil)
   have RA4 := RA3.step v4 (fun _ _ => List.not_mem_nil)
   have oR : ∀ c ∈ [p1, r, d], c ∉ B.fp := RA3.out v4 fun _ _ => List.not_mem_nil
   have erd4 := v4.keep erd List.not_mem_nil
   have w3 : Stp [a.rd] H [a.rd] H3 := ((v2.weak (qs := [a.rd]) (qs' := [a.rd]) (fun _ z => absurd z List.not_mem_nil) fun c hc => .inr hc)).trans z3
   have o4 : ∀ c ∈ a.fp l g, c ∉ B.fp := fun c hc => by
     obtain ⟨o, ho⟩ := hA.live c hc
     by_cases z : c = a.rd
     · rw [z]; exact v4.out erd List.not_mem_nil
     · exact v4.out (w3.keep ho (by simp [z])) List.not_mem_nil
   obtain ⟨dx4, h4⟩ := hA4.ob
   refine ⟨_, rfl, a.p, CF, dx4, _, _, rfl, h4, TC.cl_Fan, TC.R_Fan.n_hearers, fFl_h a, _, rfl, a.hd, _, rfl, DPut.k (k := Sum.inr n) hA4.hs hkh, ?_⟩
   have z5 := Stp.put (ps := [a.hd]) (o := .dK (putK (hdT l g) (Sum.inr n) (.ref B.p))) hA4.hs (fun _ z => by cases z) (by simp)
   have ehd := upd_same (H := H4) (a := a.hd) (o := .dK (putK (hdT l g) (Sum.inr n) (.ref B.p)))
   have nrh : a.rd ≠ a.hd := fun z => hA.ne (by simp [z])
   have erd5 := z5.keep erd4 (by simp [nrh])
   generalize upd H4 a.hd (.dK (putK (hdT l g) (Sum.inr n) (.ref B.p))) = H5 at z5 ehd erd5 ⊢
   have nph : a.p ≠ a.hd := ne_of h4 hA4.hs (by intro z; cases z)
   have hE : FEAt CR CH H5 ⟨p1, r, d, sz, way, ⟨[], [], false⟩, B, hs0⟩ := ⟨RA4.step z5 (fun c hc z => o2 a.hd (own_fp _ hdo) (by rw [List.mem_singleton] at z; rw [← z]; exact hc)), hB.step z5 (fun c hc z => o4 a.hd (own_fp _ hdo) (by rw [List.mem_singleton] at z; rw [← z]; exact hc)), oR⟩
   have efp : ∀ c, c ∈ FE.fp ⟨p1, r, d, sz, way, ⟨[], [], false⟩, B, hs0⟩ ↔ c ∈ [p1, r, d] ∨ c ∈ B.fp := fun c => List.mem_append
   have oE : ∀ c ∈ a.fp l g, c ∉ FE.fp ⟨p1, r, d, sz, way, ⟨[], [], false⟩, B, hs0⟩ := fun c hc z => ((efp c).mp z).elim (o2 c hc) (o4 c hc)
   have up_ne : ∀ m ∈ l, updE g n ⟨p1, r, d, sz, way, ⟨[], [], false⟩, B, hs0⟩ m = g m := fun m hm => updE_ne (fun z => hn (z ▸ hm))
   have fpm : ∀ m ∈ l, ∀ c ∈ (g m).fp, c ∈ a.fp l g := fun m hm c hc => List.mem_append_right _ (mem_fpF.mpr ⟨m, hm, hc⟩)
   have mem' : ∀ m ∈ l ++ [n], m ∈ l ∨ m = n := fun m hm => by simpa using hm
   refine q ⟨p1, r, d, sz, way, ⟨[], [], false⟩, B, hs0⟩ H5 ⟨⟨⟨dx4, z5.keep h4 (by simp [nph])⟩, hA4.tl.stp z5 (fun c hc z => hA.bt a.hd (by simp) (by rw [List.mem_singleton] at z; rw [← z]; exact hc)), ?_, fun m hm => ?_, ?_, fun m hm m' hm' hne c hc => ?_, fun m hm c hc => ?_, hA.ne, hA.bt⟩, ?_⟩ rfl rfl rfl rfl ?_
   · rw [ehd]
     have e := tabN_snoc (F := fun n => V.ref (g n).B.p) hn (.ref B.p)
     rw [hdT, e]
     refine congrArg (fun x => some (HO.dK x)) (tabN_congr fun m hm => ?_)
     show (if m = n then V.ref B.p else V.ref (g m).B.p) = _
     by_cases z : m = n
     · subst z; rw [if_pos rfl, updE_same]
     · rw [if_neg z, updE_ne z]
   · rcases mem' m hm with z | rfl
     · rw [up_ne m z]
       exact (hA4.en m z).step z5 (fun c hc y => hA.own m z c hc (by rw [List.mem_singleton] at y; rw [y]; exact hdo))
     · rw [updE_same]; exact hE
   · exact List.nodup_append.mpr ⟨hA.nd, by simp, fun x hx y hy e => by simp at hy; rw [hy] at e; rw [e] at hx; exact hn hx⟩
   · rcases mem' m hm with z | rfl
     · rw [up_ne m z] at hc
       rcases mem' m' hm' with z' | rfl
       · rw [up_ne m' z']; exact hA.ap m z m' z' hne c hc
       · rw [updE_same]; exact oE c (fpm m z c hc)
     · rw [updE_same] at hc
       rcases mem' m' hm' with z' | rfl
       · rw [up_ne m' z']; exact fun y => oE c (fpm m' z' c y) hc
       · exact absurd rfl hne
   · rcases mem' m hm with z | rfl
     · rw [up_ne m z] at hc; exact hA.own m z c hc
     · rw [updE_same] at hc; exact fun y => oE c (own_fp c y) hc
   · rw [erd5]
     have e := tabN_snoc (F := fun n => V.ref (g n).p) hn (.ref p1)
     rw [rdT, e]
     refine congrArg (fun x => some (HO.dK x)) (tabN_congr fun m hm => ?_)
     show (if m = n then V.ref p1 else V.ref (g m).p) = _
     by_cases z : m = n
     · subst z; rw [if_pos rfl, updE_same]
     · rw [if_neg z, updE_ne z]
   · refine ⟨fun c o ho hc => z5.keep (v4.keep (w3.keep ho (fun z => hc ?_)) List.not_mem_nil) (fun z => hc ?_), (w3.tup.trans v4.tup).trans z5.tup, fun c hc => ?_⟩
     · rw [List.mem_singleton] at z; rw [z]; exact own_fp _ rdo
     · rw [List.mem_singleton] at z; rw [z]; exact own_fp _ hdo
     · rcases List.mem_append.mp hc with z | z
       · exact .inl (own_fp c z)
       · obtain ⟨m, hm, hc⟩ := mem_fpF.mp z
         rcases mem' m hm with y | rfl
         · rw [up_ne m y] at hc; exact .inl (fpm m y c hc)
         · rw [updE_same] at hc
           rcases (efp c).mp hc with y | y
           · rcases v2.3 c y with u | u
             · exact absurd u List.not_mem_nil
             · exact .inr u
           · rcases v4.3 c y with u | u
             · exact absurd u List.not_mem_nil
             · rcases w3.free' u with t | t
               · rw [List.mem_singleton] at t; exact .inl (by rw [t]; exact own_fp _ rdo)
               · exact .inr t
abbrev s_Fan_carry : Stmt := inClass (top 21) 8
abbrev N_Fan_carry : List Str := ["self", "name", "many"]
theorem sc_Fan_carry : FnScope N_Fan_carry ["self", "name", "many"] (defScope s_Fan_carry) := ⟨rfl, rfl, rfl, by decide +kernel, rfl, by decide +kernel, by decide +kernel⟩
theorem ok_Fan_carry {f CF CT CR CH : Addr} {fd : FuncData} (F : Fun K "carry" "Fan.carry" s_Fan_carry f fd) (TC : TxtF K mg CF CT CR CH) (m_hearer_of : CalleeM P w K mg base 2 CF "hearer_of" ["self", "name"] (spFHearer CF CT CR CH)) (m_road_of : CalleeM P w K mg base 2 CF "road_of" ["self", "name"] (spFRoad CF CT CR CH)) (m_take_all : CalleeM P w K mg base 3 CH "take_all" ["self", "messages"] (spTakeAll CH)) (m_Road_take : CalleeM P w K mg base 1 CR "take" ["self", "many"] (spTakeR CR)) : FnOk P w K mg base CX0 4 f fd ["self", "name", "many"] (spFCarry CF CT CR CH) := by
 refine F.ok sc_Fan_carry (fun vs H Q E h => ?_) (fun cdv A outer s0 H vs Q E hr h => ?_)
 · obtain ⟨a, l, g, k, all, n, i, rfl, _⟩ := h; rfl
 · obtain ⟨a, l, g, k, all, n, i, rfl, hA, hn, hi, hfit, hok, hdf, hsz, hrl, q⟩ := h
   refine ⟨_, (pss_one (ps_ret (as_meth m_take_all TC.cl_Hearer (hr.mono (by decide)) (as_meth m_hearer_of TC.cl_Fan (hr.mono (by decide)) (pv 0) (at_cons (pv 1) as_nil)) (at_cons (as_meth m_Road_take TC.cl_Road (hr.mono (by decide)) (as_meth m_road_of TC.cl_Fan (hr.mono (by decide)) (pv 0) (at_cons (pv 1) as_nil)) (at_cons (pv 2) as_nil)) as_nil)))), ?_⟩
   obtain ⟨dx, h1⟩ := hA.ob
   have hB := (hA.en n hn).ha
   obtain ⟨dB, oB⟩ := hB.ob
   have hR := (hA.en n hn).ra
   obtain ⟨dR, oR⟩ := hR.ob
   refine ⟨_, rfl, a.p, dx, _, rfl, h1, no_f (.inr (.inr (.inl rfl))), _, rfl, a, l, g, k, all, n, rfl, hA, hn, (g n).B.p, dB, _, rfl, oB, no_h hB (.inr (.inr (.inl rfl))), _, rfl, a.p, dx, _, rfl, h1, no_f (.inr (.inl rfl)), _, rfl, a, l, g, k, all, n, rfl, hA, hn, (g n).p, dR, _, rfl, oR, no_rd (.inr (.inl rfl)), _, rfl, (g n).p, i, _, _, _, _, _, rfl, hR, hi, fun lt yt r' H2 RA2 st2 nlt olt elt mlt => ?_⟩
   have ⟨e1, t1⟩ := (hA.en n hn).road st2 RA2
   have ⟨hA2, w2⟩ := hA.put (e := { g n with s := { (g n).s with rows := (g n).s.rows.drop i.toNat }, r := r' }) hn t1 e1 rfl rfl
   have ltk : ((g n).s.rows.take i.toNat).length < 1000 := by rw [List.length_take]; omega
   refine ⟨(g n).B, _, [], lt, yt, _, rfl, e1.ha, elt, mlt, ltk, hfit, fun m hm => hok m (List.mem_of_mem_take hm), hdf, hsz, fun lh yh found H3 hB3 eh st3 nlh olh elh mlh => ?_⟩
   have ⟨e2, t2⟩ := e1.hear ⟨st3.1, st3.2, fun c hc => st3.3 c (List.mem_cons_of_mem _ hc)⟩ hB3
   have ⟨hA3, w3⟩ := hA2.put (e := { g n with s := { (g n).s with rows := (g n).s.rows.drop i.toNat }, r := r', h := takeS (g n).h ((g n).s.rows.take i.toNat) }) hn (by rw [updE_same]; exact t2) e2 (by rw [updE_same]) (by rw [updE_same])
   rw [updE_twice] at hA3 w3
   have efp : a.fp l (updE g n { g n with s := { (g n).s with rows := (g n).s.rows.drop i.toNat }, r := r', h := takeS (g n).h ((g n).s.rows.take i.toNat) }) = a.fp l (updE g n { g n with s := { (g n).s with rows := (g n).s.rows.drop i.toNat }, r := r' }) := congrArg (a.own ++ ·) (fpF_congr fun m hm => by
     by_cases z : m = n
     · subst z; rw [updE_same, updE_same]; rfl
     · rw [updE_ne z, updE_ne z])
   have nlh0 : lh ∈ a.fp l g ∨ H lh = none := w2.free' nlh
   exact q _ lh yh found H3 hA3 rfl rfl rfl rfl eh (w2.trans w3) nlh0 (by rw [efp]; exact hA2.free nlh) elh mlh
abbrev s_Fan_catch_up : Stmt := inClass (top 21) 9
abbrev N_Fan_catch_up : List Str := ["self", "name"]
theorem sc_Fan_catch_up : FnScope N_Fan_catch_up ["self", "name"] (defScope s_Fan_catch_up) := ⟨rfl, rfl, rfl, by decide +kernel, rfl, by decide +kernel, by decide +kernel⟩
theorem ok_Fan_catch_up {f CF CT CR CH : Addr} {fd : FuncData} (F : Fun K "catch_up" "Fan.catch_up" s_Fan_catch_up f fd) (TC : TxtF K mg CF CT CR CH) (m_hearer_of : CalleeM P w K mg base 2 CF "hearer_of" ["self", "name"] (spFHearer CF CT CR CH)) (m_road_of : CalleeM P w K mg base 2 CF "road_of" ["self", "name"] (spFRoad CF CT CR CH)) (m_mend : CalleeM P w K mg base 1 CR "mend" ["self"] (spMend CR)) (c_caught_up : Callee P w K mg base 4 "caught_up" ["teller", "hearer"] (spCaughtN CT CH)) : FnOk P w K mg base CX0 5 f fd ["self", "name"] (spFCatch CF CT CR CH) := by
 refine F.ok sc_Fan_catch_up (fun vs H Q E h => ?_) (fun cdv A outer s0 H vs Q E hr h => ?_)
 · obtain ⟨a, l, g, k, all, n, rfl, _⟩ := h; rfl
 · obtain ⟨a, l, g, k, all, n, rfl, hA, hn, hk, hR, hal, hok, hw, hnx, hsz, q⟩ := h
   refine ⟨_, (pss_cons (ps_expr (as_meth0 m_mend TC.cl_Road (hr.mono (by decide)) (as_meth m_road_of TC.cl_Fan (hr.mono (by decide)) (pv 0) (at_cons (pv 1) as_nil))))
     (pss_one (ps_ret (as_fn c_caught_up (hr.mono (by decide)) (at_cons (k_fld K (pv 0) rfl) (as_cons (as_meth m_hearer_of TC.cl_Fan (hr.mono (by decide)) (pv 0) (at_cons (pv 1) as_nil)) as_nil)))))), ?_⟩
   obtain ⟨dx, h1⟩ := hA.ob
   have hRd := (hA.en n hn).ra
   obtain ⟨dR, oR⟩ := hRd.ob
   refine ⟨_, rfl, a.p, dx, _, rfl, h1, no_f (.inr (.inl rfl)), _, rfl, a, l, g, k, all, n, rfl, hA, hn, (g n).p, dR, _, rfl, oR, no_rd (.inr (.inr (.inr rfl))), (g n).p, _, _, _, _, _, rfl, hRd, fun H2 RA2 st2 => ?_⟩
   have ⟨e1, t1⟩ := (hA.en n hn).road st2 RA2
   have ⟨hA2, w2⟩ := hA.put (e := { g n with s := { (g n).s with cut := false }, r := (g n).r }) hn t1 e1 rfl rfl
   obtain ⟨dx2, h2⟩ := hA2.ob
   refine ⟨_, rfl, a.p, CF, dx2, _, _, rfl, h2, TC.cl_Fan, TC.R_Fan.n_teller, fFl_t a, _, rfl, a.p, dx2, _, rfl, h2, no_f (.inr (.inr (.inl rfl))), _, rfl, a, l, _, k, all, n, rfl, hA2, hn, ?_⟩
   rw [updE_same]
   have hown : ∀ c ∈ [a.tp, a.ts, a.td], c ∉ (g n).B.fp := fun c hc z => hA.own n hn c (List.mem_append_right _ z) (by
     simp only [List.mem_cons, List.not_mem_nil, or_false] at hc
     rcases hc with rfl | rfl | rfl <;> simp [FA.own])
   refine ⟨a.tp, (g n).B, k, 0, all, a.ts, a.td, _, rfl, hA2.tl, e1.ha, hown, hk, hR, hal, hok, hw, hnx, hsz, fun qq lh ys found H3 hB3 eh st3 nq eq el ml ol oq nlh => ?_⟩
   have ⟨e2, t2⟩ := e1.hear st3 hB3
   have ⟨hA3, w3⟩ := hA2.put (e := { g n with s := { (g n).s with cut := false }, r := (g n).r, h := catchS k all (g n).h }) hn (by rw [updE_same]; exact t2) e2 (by rw [updE_same]) (by rw [updE_same])
   rw [updE_twice] at hA3 w3
   have efp : a.fp l (updE g n { g n with s := { (g n).s with cut := false }, r := (g n).r, h := catchS k all (g n).h }) = a.fp l (updE g n { g n with s := { (g n).s with cut := false }, r := (g n).r }) := congrArg (a.own ++ ·) (fpF_congr fun m hm => by
     by_cases z : m = n
     · subst z; rw [updE_same, updE_same]; rfl
     · rw [updE_ne z, updE_ne z])
   exact q _ qq lh ys found H3 hA3 rfl rfl rfl rfl eh (w2.trans w3) (by rw [efp]; exact hA2.free nq) (w2.free' nlh) (by rw [efp]; exact hA2.free nlh) eq el ml
abbrev s_Fan_tell : Stmt := inClass (top 21) 7
abbrev N_Fan_tell : List Str := ["self", "topic", "text", "number", "road"]
theorem sc_Fan_tell : FnScope N_Fan_tell ["self", "topic", "text"] (defScope s_Fan_tell) := ⟨rfl, rfl, rfl, by decide +kernel, rfl, by decide +kernel, by decide +kernel⟩
theorem ok_Fan_tell {f CF CT CR CH : Addr} {fd : FuncData} (F : Fun K "tell" "Fan.tell" s_Fan_tell f fd) (TC : TxtF K mg CF CT CR CH) (m_Teller_tell : CalleeM P w K mg base 1 CT "tell" ["self", "topic", "text"] (spTell CT)) (m_put : CalleeM P w K mg base 4 CR "put" ["self", "message"] (spPut CR)) : FnOk P w K mg base CX0 5 f fd ["self", "topic", "text"] (spFTell CF CT CR CH) := by
 refine F.ok sc_Fan_tell (fun vs H Q E h => ?_) (fun cdv A outer s0 H vs Q E hr h => ?_)
 · obtain ⟨a, l, g, k, all, t, x, rfl, _⟩ := h; rfl
 · obtain ⟨a, l, g, k, all, t, x, rfl, hA, hal, hk, hl, hroom, q⟩ := h
   refine ⟨_, (pss_cons (ps_set (i := 3) sc_Fan_tell.nd rfl (Or.inl rfl) (as_meth m_Teller_tell TC.cl_Teller (hr.mono (by decide)) (k_fld K (pv 0) rfl) (at_cons (pv 1) (as_cons (pv 2) as_nil))))
     (pss_cons (ps_thaw (ps_for PassesOwn.never rfl (pi_vals (k_bm0 K PySem.F.plainAttrs_dict PySem.F.slot_dict_values PySem.F.type_dict_values mt_values (k_fld K (pv 0) rfl))) (pg_name (i := 4) sc_Fan_tell.nd rfl (Or.inl rfl)) (pss_one (ps_expr (as_meth m_put TC.cl_Road (hr.mono (by decide)) (pv 4) (at_cons (as_tup (as_cons (pv 3) (as_cons (pv 1) (as_cons (pv 2) as_nil)))) as_nil))))))
     (pss_one (ps_ret (pv 3))))), ?_⟩
   obtain ⟨dx, h1⟩ := hA.ob
   obtain ⟨dT, oT⟩ := hA.tl.ob
   refine ⟨_, rfl, a.p, CF, dx, _, _, rfl, h1, TC.cl_Fan, TC.R_Fan.n_teller, fFl_t a, a.tp, dT, _, rfl, oT, no_t (.inl rfl), _, rfl, _, rfl, a.tp, t, x, k, 0, all, a.ts, a.td, rfl, hA.tl, hal, hk, fun H2 TA2 bu => ?_⟩
   have ⟨hA2, w2⟩ := hA.told TA2 ⟨bu, hA.tl.tups bu, fun c hc => .inl hc⟩
   obtain ⟨dx2, h2⟩ := hA2.ob
   have hfz : ∀ (o : Obj) (u : HO), H a.rd = some (.frz o u) → False := fun o u e => by rw [hA.rs] at e; cases e
   refine ⟨_, rfl, a.p, CF, dx2, _, _, rfl, h2, TC.cl_Fan, TC.R_Fan.n_roads, fFl_r a, .inr (.inr (.inl ⟨rfl, .inl ⟨_, hA2.rs⟩⟩)), a.rd, _, rfl, rfl, hA2.rs, fun pv npv => ?_⟩
   have g3 := Same.new (o := ValsO pv a.rd) npv
   refine ⟨pv, a.rd, _, rfl, upd_same, g3 _ _ hA2.rs, hfz, fun ob => ?_⟩
   have hA3 := hA2.same g3
   have z4 := Stp.put (ps := [a.rd]) (o := .frz ob (.dK (rdT l g))) hA3.rs (fun _ z => by cases z) (by simp)
   have hA4 := hA3.toFAt0.step z4 (fun c _ hne z => hne (List.mem_singleton.mp z))
   have e4 := upd_same (H := upd H2 pv (ValsO pv a.rd)) (a := a.rd) (o := .frz ob (.dK (rdT l g)))
   have rdo : a.rd ∈ a.own := by simp [FA.own]
   have w4 : Stp (a.fp l g) H (a.fp l g) (upd (upd H2 pv (ValsO pv a.rd)) a.rd (.frz ob (.dK (rdT l g)))) := (w2.trans (g3.step _)).trans (z4.up fun c hc => List.mem_append_left _ (by rw [List.mem_singleton] at hc; rw [hc]; exact rdo))
   generalize upd (upd H2 pv (ValsO pv a.rd)) a.rd (.frz ob (.dK (rdT l g))) = H4 at hA4 e4 w4 ⊢
   clear g3 z4 hA3
   generalize hm : (⟨(all.length : Int) + 1, t, x⟩ : Msg) = m at hA4 q
   refine for_it (n := (rdT l g).length) (fun i σ H' => ∃ o4 gi, σ = [some (.ref a.p), some (.str t), some (.str x), some (.int ((all.length : Int) + 1)), o4] ∧ FAt0 CF CT CR CH H' a l gi k (all ++ [m]) ∧ H' a.rd = some (.frz ob (.dK (rdT l g))) ∧ (∀ n, (gi n).p = (g n).p) ∧ (∀ n ∈ l, (n ∈ l.take i → FPut m (g n) (gi n)) ∧ (n ∉ l.take i → gi n = g n)) ∧ Stp (a.fp l g) H (a.fp l gi) H')
     ⟨_, g, rfl, hA4, e4, fun n => rfl, fun n hn => ⟨fun z => absurd z (by rw [List.take_zero]; exact List.not_mem_nil), fun _ => rfl⟩, w4⟩ ?_ ?_
   · rintro i σ H' hi ⟨o4, gi, rfl, hA', e', hpp, hin, w'⟩
     refine ⟨⟨e', hi⟩, ?_⟩
     rintro y H5 ⟨rfl, kv, hkv, rfl⟩
     have hi' : i < l.length := by rw [rdT, tabN_len] at hi; exact hi
     have hkv' : kv = (Sum.inr l[i], V.ref (g l[i]).p) := by
       unfold rdT tabN at hkv
       rw [List.getElem?_map, List.getElem?_eq_getElem hi'] at hkv
       exact (Option.some.inj hkv).symm
     subst hkv'
     have hn := List.getElem_mem hi'
     have hni : l[i] ∉ l.take i := fun z => by
       obtain ⟨j, hj, e⟩ := List.getElem_of_mem z
       rw [List.length_take] at hj
       rw [List.getElem_take] at e
       exact List.pairwise_iff_getElem.mp hA.nd j i (by omega) hi' (by omega) e
     have hgi := (hin _ hn).2 hni
     have hrm := hroom _ hn
     have hE := hA'.en _ hn
     have hp0 := hpp l[i]
     generalize hnm : l[i] = n at *
     rw [hgi] at hE hp0
     obtain ⟨dR, oR⟩ := hE.ra.ob
     refine rd_name ⟨_, rfl, (g n).p, dR, _, rfl, oR, no_rd (.inl rfl), _, rfl, _, rfl, _, rfl, (show 3 ≤ sizeLine by decide), fun c nc => ?_⟩
     have g5 : Same H5 (upd H5 c (mT m)) := Same.new nc
     have hc5 : (upd H5 c (mT m)) c = some (mT m) := upd_same
     have hmT : (HO.tup [V.int ((all.length : Int) + 1), V.str t, V.str x]) = mT m := by rw [← hm]; rfl
     rw [hmT]
     have hA5 := hA'.step (g5.step []) (fun _ _ _ => List.not_mem_nil)
     have hE5 := hE.same g5
     have e5 := g5 _ _ e'
     generalize upd H5 c (mT m) = H6 at g5 hc5 hA5 hE5 e5 ⊢
     refine ⟨(g n).p, c, m, _, _, _, _, _, rfl, hE5.ra, hc5, hrm.1, hrm.2, fun r' H7 RA7 st7 => ?_⟩
     have ⟨e1, t1⟩ := hE5.road st7 RA7
     have ⟨hA7, w7⟩ := hA5.put (e := { g n with s := rputS (g n).sz (g n).way (g n).s m, r := r' }) hn ⟨_, e5⟩ (by rw [hgi]; exact t1) e1 (by rw [hgi]) (by rw [hgi])
     refine ⟨_, updE gi n { g n with s := rputS (g n).sz (g n).way (g n).s m, r := r' }, rfl, hA7, st7.keep e5 (fun z => hA.own n hn a.rd (List.mem_append_left _ z) rdo), fun n' => ?_, fun n' hn' => ⟨fun z => ?_, fun z => ?_⟩, (w'.trans (g5.step _)).trans w7⟩
     · by_cases y : n' = n
       · subst y; rw [updE_same]
       · rw [updE_ne y]; exact hpp n'
     · by_cases y : n' = n
       · subst y; rw [updE_same]; exact ⟨rfl, rfl, rfl, rfl⟩
       · rw [updE_ne y]
         refine (hin n' hn').1 ?_
         rw [List.take_add_one, List.getElem?_eq_getElem hi', hnm] at z
         rcases List.mem_append.mp z with u | u
         · exact u
         · exact absurd (List.mem_singleton.mp u) y
     · have y : n' ≠ n := fun y => z (by
         rw [List.take_add_one, List.getElem?_eq_getElem hi', hnm, y]
         exact List.mem_append_right _ (by simp))
       rw [updE_ne y]
       refine (hin n' hn').2 fun u => z ?_
       rw [List.take_add_one]
       exact List.mem_append_left _ u
   rintro σ H5 ⟨o4, gi, rfl, hA5, e5, hpp, hin, w5⟩
   refine ⟨⟨e5, Nat.le_refl _⟩, a.rd, ob, _, e5, hfz, ?_⟩
   have z6 := Stp.put (ps := [a.rd]) (o := .dK (rdT l g)) e5 (fun _ z => by cases z) (by simp)
   have hA6 := hA5.step z6 (fun c _ hne z => hne (List.mem_singleton.mp z))
   have eT : rdT l gi = rdT l g := tabN_congr fun n _ => by rw [hpp n]
   refine ⟨_, rfl, q gi _ ⟨hA6, by rw [eT]; exact upd_same⟩ (fun n hn => (hin n hn).1 ?_) (w5.trans (z6.up fun c hc => List.mem_append_left _ (by rw [List.mem_singleton] at hc; rw [hc]; exact rdo)))⟩
   rw [rdT, tabN_len, List.take_length]; exact hn
abbrev s_Fan_slowest : Stmt := inClass (top 21) 14
abbrev N_Fan_slowest : List Str := ["self", "greatest"]
theorem sc_Fan_slowest : FnScope N_Fan_slowest ["self"] (defScope s_Fan_slowest) := ⟨rfl, rfl, rfl, by decide +kernel, rfl, by decide +kernel, by decide +kernel⟩
theorem ok_Fan_slowest {f CF CT CR CH : Addr} {fd : FuncData} (F : Fun K "slowest" "Fan.slowest" s_Fan_slowest f fd) (T : Txt mg) (TC : TxtF K mg CF CT CR CH) (m_names : CalleeM P w K mg base 1 CF "names" ["self"] (spFNames CF CT CR CH)) (m_lag : CalleeM P w K mg base 3 CF "lag" ["self", "name"] (spFLag CF CT CR CH)) : FnOk P w K mg base CX0 4 f fd ["self"] (spFSlow CF CT CR CH) := by
 refine F.ok sc_Fan_slowest (fun vs H Q E h => ?_) (fun cdv A outer s0 H vs Q E hr h => ?_)
 · obtain ⟨a, l, g, k, all, rfl, _⟩ := h; rfl
 · obtain ⟨a, l, g, k, all, rfl, hA, hl, q⟩ := h
   refine ⟨_, (pss_cons (ps_set (i := 1) sc_Fan_slowest.nd rfl (Or.inr rfl) (k_maxD K rfl (pe_comp (N' := ["name", "self"]) (ix := [none, some 0]) (own := [0]) rfl (cs_of (osc := defScope s_Fan_slowest) (ON := N_Fan_slowest) rfl rfl (by decide +kernel)) (by decide) (k_it_list K (as_meth0 m_names TC.cl_Fan (hr.mono (by decide)) (pv 0))) (fun _ _ _ _ => (pg_name (i := 0) (show (["name", "self"] : List Str).Nodup by decide +kernel) rfl (Or.inl rfl))) own_name (fun _ _ _ _ => pifs_nil) (fun _ _ _ _ => (as_meth m_lag TC.cl_Fan (hr.mono (by decide)) (pv 1) (at_cons (pv 0) as_nil)))) T.b_max))
     (pss_one (ps_ret (pe_comp (N' := ["name", "self", "greatest"]) (ix := [none, some 0, some 1]) (own := [0]) rfl (cs_of (osc := defScope s_Fan_slowest) (ON := N_Fan_slowest) rfl rfl (by decide +kernel)) (by decide) (k_it_list K (as_meth0 m_names TC.cl_Fan (hr.mono (by decide)) (pv 0))) (fun _ _ _ _ => (pg_name (i := 0) (show (["name", "self", "greatest"] : List Str).Nodup by decide +kernel) rfl (Or.inl rfl))) own_name (fun _ _ _ _ => (pifs_one (pt_cmpR op_eq (as_meth m_lag TC.cl_Fan (hr.mono (by decide)) (pv 1) (at_cons (pv 0) as_nil)) (pv 2) (nomark _)))) (fun _ _ _ _ => (pv 0)))))), ?_⟩
   obtain ⟨dx, h1⟩ := hA.ob
   refine ⟨_, rfl, a.p, dx, _, rfl, h1, no_f (.inr (.inr (.inr (.inl rfl)))), a, l, g, k, all, rfl, hA, hl, fun q1 ts nq1 hts => ?_⟩
   have g1 := Same.new (o := .lst (ts.map V.str)) nq1
   have eq1 := upd_same (H := H) (a := q1) (o := .lst (ts.map V.str))
   have hA1 := hA.same g1
   generalize upd H q1 (.lst (ts.map V.str)) = H1 at g1 eq1 hA1 ⊢
   have lts : ts.length = l.length := hts.perm.length_eq
   have mts : ∀ n ∈ ts, n ∈ l := fun n hn => hts.perm.mem_iff.mp hn
   refine ⟨q1, rfl, ⟨_, SqL.ofL eq1⟩, ts.length, fun i ys H' => Same H1 H' ∧ ys = ((ts.take i).map fun n => lagF all (g n)).map V.int, szl (by omega), ⟨Same.refl _, rfl⟩, ?_, ?_⟩
   · rintro i ys H' hi ⟨sH, rfl⟩
     have ei : (ts.map V.str)[i]? = some (V.str ts[i]) := by rw [List.getElem?_map, List.getElem?_eq_getElem hi]; rfl
     refine ⟨⟨_, _, SqL.ofL (sH _ _ eq1), ei⟩, ?_⟩
     rintro x H3 ⟨rfl, hx⟩
     have hx' := hx _ (SqL.ofL (sH _ _ eq1))
     rw [ei] at hx'
     obtain rfl := Option.some.inj hx'
     have hA' := hA1.same sH
     obtain ⟨dx', h1'⟩ := hA'.ob
     refine rd_name ⟨_, rfl, a.p, dx', _, rfl, h1', no_f (.inr (.inr (.inr (.inr (.inr (.inr (.inr (.inr (.inr (.inr (.inl rfl))))))))))), _, rfl, a, l, g, k, all, ts[i], rfl, hA', mts _ (List.getElem_mem hi), sH, ?_⟩
     rw [List.take_add_one, List.getElem?_eq_getElem hi, List.map_append, List.map_append]; rfl
   rintro yr H2 ⟨s2, rfl⟩
   rw [List.take_length]
   refine ⟨⟨_, SqL.ofL (s2 _ _ eq1), by rw [List.length_map]; exact Nat.le_refl _⟩, fun lr nlr => ?_⟩
   have g3 := Same.new (o := .lst ((ts.map fun n => lagF all (g n)).map V.int)) nlr
   have w3 := (g1.trans s2).trans g3
   have elr := upd_same (H := H2) (a := lr) (o := .lst ((ts.map fun n => lagF all (g n)).map V.int))
   generalize upd H2 lr (.lst ((ts.map fun n => lagF all (g n)).map V.int)) = H3 at w3 elr ⊢
   have hA3 := hA.same w3
   refine ⟨lr, _, rfl, SqL.ofL elr, fun hnil => ?_, fun M hM hmax => ?_⟩
   all_goals first
     | (have hmx : IsMax (ts.map fun n => lagF all (g n)) 0 := .inl ⟨hnil, rfl⟩; clear hnil; generalize (0 : Int) = M at hmx ⊢)
     | (have hmx : IsMax (ts.map fun n => lagF all (g n)) M := .inr ⟨hM, hmax⟩; clear hM hmax)
   all_goals
     obtain ⟨dx3, h3⟩ := hA3.ob
     refine ⟨_, rfl, a.p, dx3, _, rfl, h3, no_f (.inr (.inr (.inr (.inl rfl)))), a, l, g, k, all, rfl, hA3, hl, fun q2 ts2 nq2 hts2 => ?_⟩
     have ets : ts2 = ts := hts2.eq hts.perm hts.rise
     subst ets
     have g4 := Same.new (o := .lst (ts2.map V.str)) nq2
     have eq2 := upd_same (H := H3) (a := q2) (o := .lst (ts2.map V.str))
     have w4 := w3.trans g4
     generalize upd H3 q2 (.lst (ts2.map V.str)) = H4 at eq2 w4 g4 ⊢
     refine ⟨q2, rfl, ⟨_, SqL.ofL eq2⟩, ts2.length, fun i ys H' => Same H4 H' ∧ ys = ((ts2.take i).filter fun n => decide (lagF all (g n) = M)).map V.str, szl (by omega), ⟨Same.refl _, rfl⟩, ?_, ?_⟩
     · rintro i ys H' hi ⟨sH, rfl⟩
       have ei : (ts2.map V.str)[i]? = some (V.str ts2[i]) := by rw [List.getElem?_map, List.getElem?_eq_getElem hi]; rfl
       refine ⟨⟨_, _, SqL.ofL (sH _ _ eq2), ei⟩, ?_⟩
       rintro x H5 ⟨rfl, hx⟩
       have hx' := hx _ (SqL.ofL (sH _ _ eq2))
       rw [ei] at hx'
       obtain rfl := Option.some.inj hx'
       have hA' := hA.same (w4.trans sH)
       obtain ⟨dx', h1'⟩ := hA'.ob
       refine rd_name ⟨_, rfl, a.p, dx', _, rfl, h1', no_f (.inr (.inr (.inr (.inr (.inr (.inr (.inr (.inr (.inr (.inr (.inl rfl))))))))))), _, rfl, a, l, g, k, all, ts2[i], rfl, hA', mts _ (List.getElem_mem hi), _, rfl, rfl, _, rfl, ite2 (fun z => ⟨_, rfl, sH, ?_⟩) (fun z => ⟨sH, ?_⟩)⟩
       · have z' : lagF all (g ts2[i]) = M := V.int.inj (of_decide_eq_true z)
         rw [List.take_add_one, List.getElem?_eq_getElem hi, List.filter_append, List.map_append]
         congr 1
         show _ = List.map V.str (List.filter _ [ts2[i]])
         rw [List.filter_cons, if_pos (decide_eq_true z')]; rfl
       · have z' : ¬ lagF all (g ts2[i]) = M := fun y => z (decide_eq_true (congrArg V.int y))
         rw [List.take_add_one, List.getElem?_eq_getElem hi, List.filter_append]
         show _ = List.map V.str (_ ++ List.filter _ [ts2[i]])
         rw [List.filter_cons, if_neg (by rw [decide_eq_false z']; decide), List.filter_nil, List.append_nil]
     rintro yr H5 ⟨s5, rfl⟩
     rw [List.take_length]
     refine ⟨⟨_, SqL.ofL (s5 _ _ eq2), by rw [List.length_map]; exact Nat.le_refl _⟩, fun D nD => ?_⟩
     have w5 := w4.trans s5
     exact q D ts2 M _ (w5.trans (Same.new nD)) ((w5.step []).free nD List.not_mem_nil) hts hmx upd_same
theorem nfC {a : FA} : (fFl a).lookup ("carry" : Str) = none := no_f (.inr (.inr (.inr (.inr (.inr (.inl rfl))))))
theorem nfT {a : FA} : (fFl a).lookup ("tell" : Str) = none := no_f (.inr (.inr (.inr (.inr (.inl rfl)))))
theorem nfN {a : FA} : (fFl a).lookup ("names" : Str) = none := no_f (.inr (.inr (.inr (.inl rfl))))
theorem nfU {a : FA} : (fFl a).lookup ("catch_up" : Str) = none := no_f (.inr (.inr (.inr (.inr (.inr (.inr (.inl rfl)))))))
theorem nfH {a : FA} : (fFl a).lookup ("heard" : Str) = none := no_f (.inr (.inr (.inr (.inr (.inr (.inr (.inr (.inl rfl))))))))
theorem nfO {a : FA} : (fFl a).lookup ("lost" : Str) = none := no_f (.inr (.inr (.inr (.inr (.inr (.inr (.inr (.inr (.inl rfl)))))))))
theorem nfW {a : FA} : (fFl a).lookup ("waiting" : Str) = none := no_f (.inr (.inr (.inr (.inr (.inr (.inr (.inr (.inr (.inr (.inl rfl))))))))))
theorem nfL {a : FA} : (fFl a).lookup ("lag" : Str) = none := no_f (.inr (.inr (.inr (.inr (.inr (.inr (.inr (.inr (.inr (.inr (.inl rfl)))))))))))
theorem nfY {a : FA} : (fFl a).lookup ("lay" : Str) = none := no_f (.inr (.inr (.inr (.inr (.inr (.inr (.inr (.inr (.inr (.inr (.inr (.inr (.inl rfl)))))))))))))
theorem nfS {a : FA} : (fFl a).lookup ("slowest" : Str) = none := no_f (.inr (.inr (.inr (.inr (.inr (.inr (.inr (.inr (.inr (.inr (.inr (.inl rfl))))))))))))
structure FO (all : List Msg) (e : FE) : Prop where
 sub : ∀ m ∈ e.s.rows, m ∈ all
 hw : Hw all e.h
 sum : e.s.rows.length + e.s.out.length ≤ all.length
 sz : 1 ≤ e.sz
theorem FO.put {all : List Msg} {m : Msg} {e e' : FE} (h : FO all e) (p : FPut m e e') : FO (all ++ [m]) e' := by
 have hs := h.sum
 have key : (∀ x ∈ (rputS e.sz e.way e.s m).rows, x ∈ all ∨ x = m) ∧ (rputS e.sz e.way e.s m).rows.length + (rputS e.sz e.way e.s m).out.length ≤ all.length + 1 := by
   unfold rputS
   split
   · refine ⟨fun x hx => .inl (h.sub x hx), ?_⟩
     simp only [List.length_append, List.length_singleton]; omega
   split
   · refine ⟨fun x hx => ?_, ?_⟩
     · rcases List.mem_append.mp hx with z | z
       · exact .inl (h.sub x z)
       · exact .inr (List.mem_singleton.mp z)
     · simp only [List.length_append, List.length_singleton]; omega
   · next hfull =>
     have hpos : 1 ≤ e.s.rows.length := by have := h.sz; omega
     split
     · refine ⟨fun x hx => ?_, ?_⟩
       · rcases List.mem_append.mp hx with z | z
         · exact .inl (h.sub x (List.mem_of_mem_drop z))
         · exact .inr (List.mem_singleton.mp z)
       · simp only [List.length_append, List.length_singleton, List.length_drop, List.length_map, List.length_take]; omega
     split
     · refine ⟨fun x hx => .inl (h.sub x hx), ?_⟩
       simp only [List.length_append, List.length_singleton]; omega
     · refine ⟨fun x hx => absurd hx List.not_mem_nil, ?_⟩
       simp only [List.length_append, List.length_singleton, List.length_map, List.length_nil]; omega
 refine ⟨fun x hx => ?_, ?_, ?_, by rw [p.sz]; exact h.sz⟩
 · rw [p.s] at hx
   rcases key.1 x hx with z | z
   · exact List.mem_append_left _ z
   · rw [z]; simp
 · rw [p.h]
   exact h.hw.more (fun x hx => List.mem_append_left _ hx) (by rw [List.length_append]; omega)
 · rw [p.s, List.length_append]
   exact key.2
theorem FO.sizes {all : List Msg} {e : FE} (hR : Rows all) (h : FO all e) : e.h.heard.length + e.h.lost.length ≤ all.length ∧ e.h.held.length ≤ all.length ∧ e.h.next ≤ (all.length : Int) + 1 := by
 have hu := h.hw.toHw0.up hR
 have e1 : e.h.next = (e.h.heard.length : Int) + (e.h.lost.length : Int) + 1 := rfl
 have hd : e.h.held.Nodup := (List.pairwise_map.mp h.hw.dh).imp fun h e => h (congrArg Msg.n e)
 have hl := List.Nodup.length_le_of_subset hd fun m hm => h.hw.sub m (.inr hm)
 omega
theorem FO.carry {all : List Msg} {e e' : FE} {i : Nat} (hR : Rows all) (h : FO all e) (h1 : e'.sz = e.sz) (h2 : e'.s = { e.s with rows := e.s.rows.drop i }) (h3 : e'.h = takeS e.h (e.s.rows.take i)) : FO all e' where
 sub m hm := by rw [h2] at hm; exact h.sub m (List.mem_of_mem_drop hm)
 hw := by rw [h3]; exact h.hw.take hR fun m hm => h.sub m (List.mem_of_mem_take hm)
 sum := by
   rw [h2]
   have := h.sum
   show (e.s.rows.drop i).length + e.s.out.length ≤ _
   rw [List.length_drop]; omega
 sz := by rw [h1]; exact h.sz
theorem FO.catch {all : List Msg} {e e' : FE} {k : Int} (hR : Rows all) (hk : 0 ≤ k) (h : FO all e) (h1 : e'.sz = e.sz) (h2 : e'.s = { e.s with cut := false }) (h3 : e'.h = catchS k all e.h) : FO all e' where
 sub m hm := by rw [h2] at hm; exact h.sub m hm
 hw := by rw [h3]; exact (h.hw.catch hR hk (h.hw.toHw0.up hR)).1
 sum := by rw [h2]; exact h.sum
 sz := by rw [h1]; exact h.sz
theorem FO.new {all : List Msg} {e : FE} (h1 : 1 ≤ e.sz) (h2 : e.s = ⟨[], [], false⟩) (h3 : e.h = hs0) : FO all e where
 sub m hm := by rw [h2] at hm; exact absurd hm List.not_mem_nil
 hw := by rw [h3]; exact Hw.start all
 sum := by rw [h2]; exact Nat.zero_le _
 sz := h1
structure FG (CF CT CR CH : Addr) (H : Hp) (a : FA) (l : List Str) (g : Str → FE) (k : Int) (all : List Msg) : Prop where
 fa : FAt CF CT CR CH H a l g k all
 en : ∀ n ∈ l, FO all (g n)
 rows : Rows all
 ok : ∀ m ∈ all, mOk m
 k0 : 0 ≤ k
 ln : l.length ≤ 3
section
variable {CF CT CR CH : Addr} {H H' : Hp} {a : FA} {l : List Str} {g g' : Str → FE} {k : Int} {all : List Msg} {n : Str} {e : FE}
theorem FG.same (h : FG CF CT CR CH H a l g k all) (s : Same H H') : FG CF CT CR CH H' a l g k all := ⟨h.fa.same s, h.en, h.rows, h.ok, h.k0, h.ln⟩
theorem FG.step {ps ps' : List Addr} (h : FG CF CT CR CH H a l g k all) (st : Stp ps H ps' H') (hd : ∀ c ∈ a.fp l g, c ∉ ps) : FG CF CT CR CH H' a l g k all := ⟨h.fa.step st hd, h.en, h.rows, h.ok, h.k0, h.ln⟩
theorem FG.tell (h : FG CF CT CR CH H a l g k all) {t x : Str} (ht : PyData.strOk t = true) (hx : PyData.strOk x = true) (fa : FAt CF CT CR CH H' a l g' k (all ++ [⟨(all.length : Int) + 1, t, x⟩])) (hp : ∀ n ∈ l, FPut ⟨(all.length : Int) + 1, t, x⟩ (g n) (g' n)) : FG CF CT CR CH H' a l g' k (all ++ [⟨(all.length : Int) + 1, t, x⟩]) :=
 ⟨fa, fun n hn => (h.en n hn).put (hp n hn), h.rows.snoc rfl, fun m hm => by
   rcases List.mem_append.mp hm with z | z
   · exact h.ok m z
   · rw [List.mem_singleton] at z; rw [z]; exact ⟨ht, hx⟩, h.k0, h.ln⟩
theorem FG.upd (h : FG CF CT CR CH H a l g k all) (fa : FAt CF CT CR CH H' a l (updE g n e) k all) (he : FO all e) : FG CF CT CR CH H' a l (updE g n e) k all :=
 ⟨fa, fun m hm => by
   by_cases z : m = n
   · subst z; rw [updE_same]; exact he
   · rw [updE_ne z]; exact h.en m hm, h.rows, h.ok, h.k0, h.ln⟩
theorem FG.lay (h : FG CF CT CR CH H a l g k all) (fa : FAt CF CT CR CH H' a (l ++ [n]) (updE g n e) k all) (he : FO all e) (hl : l.length ≤ 2) : FG CF CT CR CH H' a (l ++ [n]) (updE g n e) k all :=
 ⟨fa, fun m hm => by
   by_cases z : m = n
   · subst z; rw [updE_same]; exact he
   · rw [updE_ne z]
     rcases List.mem_append.mp hm with y | y
     · exact h.en m y
     · exact absurd (List.mem_singleton.mp y) z, h.rows, h.ok, h.k0, by rw [List.length_append]; show _ + 1 ≤ 3; omega⟩
theorem FG.room (h : FG CF CT CR CH H a l g k all) (hl : all.length ≤ 20) : ∀ n ∈ l, (g n).s.rows.length < 63 ∧ (g n).s.out.length < 1000 := fun n hn => by
 have := (h.en n hn).sum
 omega
theorem FG.can (h : FG CF CT CR CH H a l g k all) (hl : all.length ≤ 20) (hn : n ∈ l) (i : Nat) : Fits (g n).h ((g n).s.rows.take i) ∧ (∀ m ∈ (g n).s.rows, mOk m) ∧ Diff (g n).h.held ∧ (g n).h.heard.length + (g n).h.held.length + (g n).h.lost.length < 1000 ∧ (g n).s.rows.length < 1000 := by
 have hE := h.en n hn
 have hz := hE.sizes h.rows
 have hs := hE.sum
 exact ⟨hE.hw.toHw0.fits h.rows (fun m hm => hE.sub m (List.mem_of_mem_take hm)), fun m hm => h.ok m (hE.sub m hm), hE.hw.dh, by omega, by omega⟩
end
structure FW (all : List Msg) (e : FE) : Prop where
 fo : FO all e
 nl : e.h.lost = []
 rs : Rise e.s.rows
 lt : ∀ m, m ∈ e.h.heard ∨ m ∈ e.h.held → ∀ x ∈ e.s.rows, m.n < x.n
theorem FW.new {all : List Msg} {e : FE} (h1 : 1 ≤ e.sz) (h2 : e.s = ⟨[], [], false⟩) (h3 : e.h = hs0) : FW all e where
 fo := FO.new h1 h2 h3
 nl := by rw [h3]; rfl
 rs := by rw [h2]; exact .nil
 lt := fun m _ x hx => by rw [h2] at hx; exact absurd hx List.not_mem_nil
theorem FW.put {all : List Msg} {m : Msg} {e e' : FE} (hR : Rows all) (h : FW all e) (p : FPut m e e') (hm : m.n = (all.length : Int) + 1) : FW (all ++ [m]) e' := by
 have lm : ∀ x ∈ all, x.n < m.n := fun x hx => by
   obtain ⟨i, hi, _, en⟩ := hR.at hx
   omega
 have snoc : ∀ r : List Msg, r.Sublist e.s.rows → Rise (r ++ [m]) ∧ ∀ y, y ∈ e.h.heard ∨ y ∈ e.h.held → ∀ x ∈ r ++ [m], y.n < x.n := fun r hr => by
   refine ⟨List.pairwise_append.mpr ⟨h.rs.sublist hr, List.pairwise_singleton _ _, fun a ha b hb => ?_⟩, fun y hy x hx => ?_⟩
   · rw [List.mem_singleton] at hb; rw [hb]; exact lm a (h.fo.sub a (hr.subset ha))
   · rcases List.mem_append.mp hx with z | z
     · exact h.lt y hy x (hr.subset z)
     · rw [List.mem_singleton] at z; rw [z]; exact lm y (h.fo.hw.sub y hy)
 have key : Rise (rputS e.sz e.way e.s m).rows ∧ ∀ y, y ∈ e.h.heard ∨ y ∈ e.h.held → ∀ x ∈ (rputS e.sz e.way e.s m).rows, y.n < x.n := by
   unfold rputS
   split
   · exact ⟨h.rs, h.lt⟩
   split
   · exact snoc _ (List.Sublist.refl _)
   split
   · exact snoc _ (List.drop_sublist _ _)
   split
   · exact ⟨h.rs, h.lt⟩
   · exact ⟨.nil, fun y _ x hx => absurd hx List.not_mem_nil⟩
 refine ⟨h.fo.put p, by rw [p.h]; exact h.nl, by rw [p.s]; exact key.1, fun y hy x hx => ?_⟩
 rw [p.h] at hy
 rw [p.s] at hx
 exact key.2 y hy x hx
theorem FW.carry {all : List Msg} {e e' : FE} {i : Nat} (hR : Rows all) (h : FW all e) (h1 : e'.sz = e.sz) (h2 : e'.s = { e.s with rows := e.s.rows.drop i }) (h3 : e'.h = takeS e.h (e.s.rows.take i)) : FW all e' := by
 refine ⟨h.fo.carry hR h1 h2 h3, by rw [h3, take_lost]; exact h.nl, by rw [h2]; exact h.rs.sublist (List.drop_sublist _ _), fun y hy x hx => ?_⟩
 rw [h2] at hx
 rw [h3, h.fo.hw.take_mem hR fun m hm => h.fo.sub m (List.mem_of_mem_take hm)] at hy
 have hx' : x ∈ e.s.rows.drop i := hx
 rcases hy with z | z | ⟨z, _⟩
 · exact h.lt y (.inl z) x (List.mem_of_mem_drop hx')
 · exact h.lt y (.inr z) x (List.mem_of_mem_drop hx')
 · have hp := h.rs
   rw [← List.take_append_drop i e.s.rows] at hp
   exact (List.pairwise_append.mp hp).2.2 y z x hx'
theorem at_str {l : List Str} {d : Int} (h0 : 0 ≤ d) (h1 : d < (l.length : Int)) : ∃ n ∈ l, atI (l.map V.str) d = some (V.str n) := by
 have hd : d.toNat < l.length := by omega
 refine ⟨l[d.toNat], List.getElem_mem hd, ?_⟩
 unfold atI ixN
 rw [if_pos h0, if_pos (by rw [List.length_map]; exact h1)]
 show (l.map V.str)[d.toNat]? = _
 rw [List.getElem?_map, List.getElem?_eq_getElem hd]; rfl
def N3 : List Str := ["p", "q", "r"]
theorem N3_nd : N3.Nodup := by decide +kernel
def spLFan (K : W.Frag) (CF CT CR CH : Addr) : Sp := fun vs H Q _ => ∃ (a : Addr) (ns : List Int) (A : FA) (g : Str → FE) (k : Int) (H0 : Hp), vs = [.ref a, .int 0, .ref A.p] ∧ SqL K H0 a (ns.map V.int) ∧ ns.length ≤ 63 ∧ Stp [] H0 (A.fp [] g) H ∧ FAt CF CT CR CH H A [] g k [] ∧ 0 ≤ k ∧
 ∀ p j g' all H', j ≤ 3 → H' p = some (.lst ((N3.take j).map V.str)) → FG CF CT CR CH H' A (N3.take j) g' k all → (∀ n ∈ N3.take j, FW all (g' n)) → all.length ≤ 8 → p ∉ A.fp (N3.take j) g' → Stp [] H0 (A.fp (N3.take j) g') H' → Q (.ref p) H'
abbrev s_l_fan : Stmt := top 25
abbrev N_l_fan : List Str := ["_law_script", "_law_at", "_law_fan_here", "_law_names", "_law_k", "_law_name", "_law_way"]
theorem sc_l_fan : FnScope N_l_fan ["_law_script", "_law_at", "_law_fan_here"] (defScope s_l_fan) := ⟨rfl, rfl, rfl, by decide +kernel, rfl, by decide +kernel, by decide +kernel⟩
theorem ok_l_fan {f CF CT CR CH : Addr} {fd : FuncData} (F : Fun K "_law_fan" "_law_fan" s_l_fan f fd) (T : Txt mg) (TC : TxtF K mg CF CT CR CH) (c_l_drawn : Callee P w K mg base 2 "_law_drawn" ["_law_script", "_law_k", "_law_many"] (spDrawn K))
   (m_lay : CalleeM P w K mg base 3 CF "lay" ["self", "name", "size", "way"] (spFLay CF CT CR CH)) (m_Fan_tell : CalleeM P w K mg base 5 CF "tell" ["self", "topic", "text"] (spFTell CF CT CR CH)) (m_carry : CalleeM P w K mg base 4 CF "carry" ["self", "name", "many"] (spFCarry CF CT CR CH)) :
   FnOk P w K mg base CX0 6 f fd ["_law_script", "_law_at", "_law_fan_here"] (spLFan K CF CT CR CH) := by
 refine F.ok sc_l_fan (fun vs H Q E h => ?_) (fun cdv A0 outer s0 H vs Q E hr h => ?_)
 · obtain ⟨a, ns, A, g, k, H0, rfl, _⟩ := h; rfl
 · obtain ⟨a, ns, A, g, k, H0, rfl, hS, hlen, w0, hA, k0, q⟩ := h
   refine ⟨_, (pss_cons (ps_set (i := 3) sc_l_fan.nd rfl (Or.inl rfl) (pe_slice (k_sl_list K) (as_lst (as_cons pe_str (as_cons pe_str (as_cons pe_str as_nil)))) po_none (po_some (as_fn c_l_drawn (hr.mono (by decide)) (at_cons (pv 0) (as_cons (pv 1) (as_cons pe_int as_nil)))))))
     (pss_cons (ps_for PassesOwn.never rfl (pi_enum K T.b_enumerate (pv 3)) (k_tup K rfl (pgs_cons (pg_name (i := 4) sc_l_fan.nd rfl (Or.inl rfl)) (pgs_cons (pg_name (i := 5) sc_l_fan.nd rfl (Or.inl rfl)) pgs_nil))) (pss_cons (ps_set (i := 6) sc_l_fan.nd rfl (Or.inl rfl) (pe_ix (k_ix_list K) (as_lst (as_cons pe_str (as_cons pe_str (as_cons pe_str as_nil)))) (as_fn c_l_drawn (hr.mono (by decide)) (at_cons (pv 0) (as_cons (pe_op op_add (pe_op op_add (pv 1) pe_int) (pe_op op_mul pe_int (pv 4))) (as_cons pe_int as_nil)))) (fun _ _ => rfl)))
     (pss_one (ps_expr (as_meth m_lay TC.cl_Fan (hr.mono (by decide)) (pv 2) (at_cons (pv 5) (as_cons (pe_op op_add pe_int (as_fn c_l_drawn (hr.mono (by decide)) (at_cons (pv 0) (as_cons (pe_op op_add (pe_op op_add (pv 1) pe_int) (pe_op op_mul pe_int (pv 4))) (as_cons pe_int as_nil))))) (as_cons (pv 6) as_nil))))))))
     (pss_cons (ps_for PassesOwn.never rfl (pi_range1 (by rfl) T.b_range (pa_cons (as_fn c_l_drawn (hr.mono (by decide)) (at_cons (pv 0) (as_cons (pe_op op_add (pv 1) pe_int) (as_cons pe_int as_nil)))) pa_nil)) (pg_name (i := 4) sc_l_fan.nd rfl (Or.inl rfl)) (pss_cons (ps_expr (as_meth m_Fan_tell TC.cl_Fan (hr.mono (by decide)) (pv 2) (at_cons (pe_ix (k_ix_list K) (as_lst (as_cons pe_str (as_cons pe_str as_nil))) (as_fn c_l_drawn (hr.mono (by decide)) (at_cons (pv 0) (as_cons (pe_op op_add (pe_op op_add (pv 1) pe_int) (pe_op op_mul pe_int (pv 4))) (as_cons pe_int as_nil)))) (fun _ _ => rfl)) (as_cons (pe_slice sl_str pe_str po_none (po_some (as_fn c_l_drawn (hr.mono (by decide)) (at_cons (pv 0) (as_cons (pe_op op_add (pe_op op_add (pv 1) pe_int) (pe_op op_mul pe_int (pv 4))) (as_cons pe_int as_nil)))))) as_nil))))
     (pss_one (ps_if (pt_cmpR (k_ne0 K hr.units0) (pv 3) (as_lst as_nil) (nomark _)) (pss_one (ps_expr (as_meth m_carry TC.cl_Fan (hr.mono (by decide)) (pv 2) (at_cons (pe_ix (k_ix_list K) (pv 3) (pe_op op_mod (pv 4) (as_callB (k_len_seq K) (by rfl) T.b_len PySem.boot_len (at_cons (pv 3) as_nil))) (fun _ _ => rfl)) (as_cons (as_fn c_l_drawn (hr.mono (by decide)) (at_cons (pv 0) (as_cons (pe_op op_add (pe_op op_add (pv 1) pe_int) (pe_op op_mul pe_int (pv 4))) (as_cons pe_int as_nil)))) as_nil))))) pss_nil))))
     (pss_one (ps_ret (pv 3)))))), ?_⟩
   refine ⟨by decide, fun lp nlp => ⟨_, rfl, _, rfl, a, ns, 0, 4, rfl, (w0.same.trans (Same.new nlp)).seq hS, hlen, by decide, by decide, fun H1 s1 => ?_⟩⟩
   have j0 := drawn_nn ns 0 (m := 4) (by decide)
   have j9 := drawn_lt ns 0 (m := 4) (by decide)
   generalize drawnF ns 0 4 = jd at j0 j9 ⊢
   refine ⟨_, rfl, lp, N3.map V.str, rfl, SqL.ofL (s1 _ _ upd_same), fun ln nln => ?_⟩
   obtain ⟨j, hj3, hcut⟩ : ∃ j : Nat, j ≤ 3 ∧ cutV (N3.map V.str) none (some jd) = (N3.take j).map V.str := by
     have hc : jd = 0 ∨ jd = 1 ∨ jd = 2 ∨ jd = 3 := by omega
     rcases hc with rfl | rfl | rfl | rfl
     · exact ⟨0, by decide, rfl⟩
     · exact ⟨1, by decide, rfl⟩
     · exact ⟨2, by decide, rfl⟩
     · exact ⟨3, by decide, rfl⟩
   rw [hcut]
   clear hcut j0 j9
   have g2 := ((Same.new (o := .lst (N3.map V.str)) nlp).trans s1).trans (Same.new (o := .lst ((N3.take j).map V.str)) nln)
   have nln0 : H ln = none := ((Same.new (o := .lst (N3.map V.str)) nlp).trans s1).free nln
   have eln := upd_same (H := H1) (a := ln) (o := .lst ((N3.take j).map V.str))
   have hA2 := hA.same g2
   have w2 := w0.trans (g2.step _)
   have nlf := hA.free nln0
   generalize upd H1 ln (.lst ((N3.take j).map V.str)) = H2 at g2 eln hA2 w2 ⊢
   have hlj : (N3.take j).length = j := by rw [List.length_take]; show min j 3 = j; omega
   refine ⟨_, rfl, ln, rfl, ⟨_, SqL.ofL eln⟩, for_enum (K := K) (a := ln) (xs := (N3.take j).map V.str) (fun i σ H' => ∃ o4 o5 o6 gi, σ = [some (.ref a), some (.int 0), some (.ref A.p), some (.ref ln), o4, o5, o6] ∧ H' ln = some (.lst ((N3.take j).map V.str)) ∧ FG CF CT CR CH H' A (N3.take i) gi k [] ∧ (∀ n ∈ N3.take i, FW [] (gi n)) ∧ ln ∉ A.fp (N3.take i) gi ∧ Stp [] H0 (A.fp (N3.take i) gi) H')
     ⟨_, _, _, g, rfl, eln, ⟨hA2, fun n hn => absurd hn List.not_mem_nil, Rows.nil, fun m h => absurd h List.not_mem_nil, k0, by decide⟩, fun n hn => absurd hn List.not_mem_nil, nlf, w2⟩ (fun i σ H' _ ⟨_, _, _, _, _, h, _⟩ => SqL.ofL h) ?_ ?_⟩
   · rintro i x T0 σ H' hi ⟨o4, o5, o6, gi, rfl, el, hG, hW, no, wi⟩ nT
     obtain ⟨nm, hnm, rfl⟩ : ∃ nm, (N3.take j)[i]? = some nm ∧ x = V.str nm := by
       rw [List.getElem?_map] at hi
       cases h : (N3.take j)[i]? with
       | none => rw [h] at hi; cases hi
       | some n => rw [h] at hi; exact ⟨n, rfl, (Option.some.inj hi).symm⟩
     have hij : i < j := by have := (List.getElem?_eq_some_iff.mp hnm).1; omega
     have hn3 : N3[i]? = some nm := by rw [List.getElem?_take_of_lt hij] at hnm; exact hnm
     have v1 := Same.new (o := .tup [.int (i : Int), .str nm]) nT
     refine ⟨T0, _, rfl, SqT.ofT upd_same, rfl, _, _, rfl, _, _, rfl, rfl, ?_⟩
     have G2 := hG.same v1
     have el2 := v1 _ _ el
     have wi2 := wi.trans (v1.step _)
     generalize upd H' T0 (.tup [.int (i : Int), .str nm]) = H3 at G2 el2 wi2 ⊢
     refine ⟨by decide, fun lw nlw => ?_⟩
     have v3 := Same.new (o := .lst [V.str "old", V.str "new", V.str "cut"]) nlw
     refine ⟨_, rfl, _, rfl, _, _, rfl, rfl, _, rfl, _, _, rfl, rfl, .inl ⟨by decide, by decide⟩, _, _, rfl, rfl, a, ns, _, 3, rfl, (wi2.same.trans v3).seq hS, hlen, by omega, by decide, fun H4 s4 => ?_⟩
     have y0 := drawn_nn ns (0 + 2 + 2 * (i : Int)) (m := 3) (by decide)
     have y9 := drawn_lt ns (0 + 2 + 2 * (i : Int)) (m := 3) (by decide)
     generalize drawnF ns (0 + 2 + 2 * (i : Int)) 3 = wd at y0 y9 ⊢
     obtain ⟨way, hway⟩ : ∃ way, atI [V.str "old", V.str "new", V.str "cut"] wd = some (V.str way) := by
       have hc : wd = 0 ∨ wd = 1 ∨ wd = 2 := by omega
       rcases hc with rfl | rfl | rfl
       · exact ⟨_, rfl⟩
       · exact ⟨_, rfl⟩
       · exact ⟨_, rfl⟩
     refine ⟨lw, _, wd, .str way, rfl, rfl, SqL.ofL (s4 _ _ upd_same), hway, ?_⟩
     have G4 := G2.same (v3.trans s4)
     have el4 := (v3.trans s4) _ _ el2
     have wi4 := wi2.trans ((v3.trans s4).step _)
     clear G2 el2 wi2 v3 s4 hG el wi v1
     obtain ⟨dx, h1⟩ := G4.fa.ob
     refine ⟨_, rfl, A.p, dx, _, rfl, h1, nfY, ?_⟩
     refine ⟨_, rfl, _, rfl, _, rfl, _, _, rfl, rfl, _, rfl, _, _, rfl, rfl, .inl ⟨by decide, by decide⟩, _, _, rfl, rfl, a, ns, _, 4, rfl, wi4.same.seq hS, hlen, by omega, by decide, fun H5 s5 => ?_⟩
     have z0 := drawn_nn ns (0 + 1 + 2 * (i : Int)) (m := 4) (by decide)
     generalize drawnF ns (0 + 1 + 2 * (i : Int)) 4 = sz0 at z0 ⊢
     have G5 := G4.same s5
     have hnn : nm ∉ N3.take i := fun z => by
       obtain ⟨i', hi', e⟩ := List.getElem_of_mem z
       rw [List.length_take] at hi'
       rw [List.getElem_take] at e
       have h3 := (List.getElem?_eq_some_iff.mp hn3)
       obtain ⟨h4, h5⟩ := h3
       exact List.pairwise_iff_getElem.mp N3_nd i' i (by omega) h4 (by omega) (e.trans h5.symm)
     have hli : (N3.take i).length = i := by rw [List.length_take]; show min i 3 = i; omega
     refine ⟨_, _, rfl, rfl, _, rfl, A, N3.take i, gi, k, [], nm, 1 + sz0, way, rfl, G5.fa, hnn, by omega, fun e H6 fa6 a1 a2 a3 a4 st6 => ?_⟩
     have et : N3.take (i + 1) = N3.take i ++ [nm] := by rw [List.take_add_one, hn3]; rfl
     have w5 := wi4.trans (s5.step _)
     have el5 := s5 _ _ el4
     refine ⟨_, _, _, updE gi nm e, rfl, st6.keep el5 no, ?_, ?_, ?_, ?_⟩
     · rw [et]; exact G5.lay fa6 (FO.new (by omega) a3 a4) (by omega)
     · rw [et]
       intro n hn
       rcases List.mem_append.mp hn with z | z
       · rw [updE_ne (fun (y : n = nm) => hnn (y ▸ z))]; exact hW n z
       · rw [List.mem_singleton] at z; rw [z, updE_same]; exact FW.new (by omega) a3 a4
     · rw [et]; exact st6.out el5 no
     · rw [et]; exact w5.trans st6
   · rintro σ H3 ⟨o4, o5, o6, g3, rfl, el3, G3, W3, no3, w3⟩
     rw [List.length_map, hlj] at G3 W3 no3 w3
     refine ⟨_, rfl, _, rfl, _, _, rfl, rfl, a, ns, _, 9, rfl, w3.same.seq hS, hlen, by decide, by decide, fun H4 s4 => ?_⟩
     have d0 := drawn_nn ns (0 + 10) (m := 9) (by decide)
     have d9 := drawn_lt ns (0 + 10) (m := 9) (by decide)
     generalize drawnF ns (0 + 10) 9 = dn at d0 d9 ⊢
     refine ⟨_, rfl, by omega, by omega, for_range (lo := 0) (n := dn.toNat) (fun i σ H' => ∃ o4 o5 o6 gi all, σ = [some (.ref a), some (.int 0), some (.ref A.p), some (.ref ln), o4, o5, o6] ∧ H' ln = some (.lst ((N3.take j).map V.str)) ∧ FG CF CT CR CH H' A (N3.take j) gi k all ∧ (∀ n ∈ N3.take j, FW all (gi n)) ∧ all.length ≤ i ∧ ln ∉ A.fp (N3.take j) gi ∧ Stp [] H0 (A.fp (N3.take j) gi) H')
       ⟨_, _, _, g3, [], rfl, s4 _ _ el3, G3.same s4, W3, Nat.le_refl _, no3, w3.trans (s4.step _)⟩ ?_ ?_⟩
     · rintro i σ H' hi ⟨o4, o5, o6, gi, all, rfl, el, hG, hW, hli, no, wi⟩
       have l20 : all.length ≤ 20 := by omega
       obtain ⟨dx, h1⟩ := hG.fa.ob
       refine rd_name ⟨_, rfl, A.p, dx, _, rfl, h1, nfT, by decide, fun lab nlab => ?_⟩
       have v1 := Same.new (o := .lst [V.str "a", V.str "b"]) nlab
       refine ⟨_, rfl, _, rfl, _, _, rfl, rfl, _, rfl, _, _, rfl, rfl, .inl ⟨by decide, by decide⟩, _, _, rfl, rfl, a, ns, _, 2, rfl, (wi.same.trans v1).seq hS, hlen, by omega, by decide, fun H5 s5 => ?_⟩
       have y0 := drawn_nn ns (0 + 11 + 3 * (0 + (i : Int))) (m := 2) (by decide)
       have y9 := drawn_lt ns (0 + 11 + 3 * (0 + (i : Int))) (m := 2) (by decide)
       generalize drawnF ns (0 + 11 + 3 * (0 + (i : Int))) 2 = td at y0 y9 ⊢
       obtain ⟨tp, htp, tpo⟩ : ∃ tp, atI [V.str "a", V.str "b"] td = some (V.str tp) ∧ PyData.strOk tp = true := by
         have hc : td = 0 ∨ td = 1 := by omega
         rcases hc with rfl | rfl
         · exact ⟨_, rfl, by decide +kernel⟩
         · exact ⟨_, rfl, by decide +kernel⟩
       refine ⟨lab, _, td, .str tp, rfl, rfl, SqL.ofL (s5 _ _ upd_same), htp, ?_⟩
       have w5 := wi.trans ((v1.trans s5).step _)
       have G5 := hG.same (v1.trans s5)
       have el5 := (v1.trans s5) _ _ el
       clear v1 s5
       refine ⟨_, rfl, _, rfl, _, _, rfl, rfl, _, rfl, _, _, rfl, rfl, .inl ⟨by decide, by decide⟩, _, _, rfl, rfl, a, ns, _, 4, rfl, w5.same.seq hS, hlen, by omega, by decide, fun H6 s6 => ?_⟩
       have x0 := drawn_nn ns (0 + 12 + 3 * (0 + (i : Int))) (m := 4) (by decide)
       have x9 := drawn_lt ns (0 + 12 + 3 * (0 + (i : Int))) (m := 4) (by decide)
       generalize drawnF ns (0 + 12 + 3 * (0 + (i : Int))) 4 = xd at x0 x9 ⊢
       have xo : PyData.strOk (PySem.Txt.slice "xyz" none (some xd)) = true := by
         have hc : xd = 0 ∨ xd = 1 ∨ xd = 2 ∨ xd = 3 := by omega
         rcases hc with rfl | rfl | rfl | rfl <;> decide +kernel
       refine ⟨_, rfl, "xyz", rfl, by decide +kernel, ?_⟩
       have w6 := w5.trans (s6.step _)
       have G6 := G5.same s6
       have el6 := s6 _ _ el5
       clear w5 G5 el5 s6 wi hG el
       refine ⟨A, N3.take j, gi, k, all, tp, _, rfl, G6.fa, by omega, k0, by omega, G6.room l20, fun g7 H7 fa7 hp7 st7 => ?_⟩
       have G7 := G6.tell tpo xo fa7 hp7
       have W7 : ∀ n ∈ N3.take j, FW (all ++ [⟨(all.length : Int) + 1, tp, PySem.Txt.slice "xyz" none (some xd)⟩]) (g7 n) := fun n hn => (hW n hn).put G6.rows (hp7 n hn) rfl
       have el7 := st7.keep el6 no
       have no7 := st7.out el6 no
       have w7 := w6.trans st7
       have hl7 : (all ++ [(⟨(all.length : Int) + 1, tp, PySem.Txt.slice "xyz" none (some xd)⟩ : Msg)]).length ≤ i + 1 := by rw [List.length_append]; show _ + 1 ≤ _; omega
       generalize all ++ [(⟨(all.length : Int) + 1, tp, PySem.Txt.slice "xyz" none (some xd)⟩ : Msg)] = al7 at G7 W7 hl7
       clear G6 w6 el6 no hp7 fa7 st7 hW
       refine ⟨_, rfl, Nat.zero_le _, fun le nle => ?_⟩
       have v8 := Same.new (o := .lst []) nle
       refine ⟨ln, le, _, rfl, rfl, SqL.ofL (v8 _ _ el7), SqL.ofL upd_same, ?_⟩
       have G8 := G7.same v8
       have w8 := w7.trans (v8.step _)
       have el8 := v8 _ _ el7
       generalize upd H7 le (.lst []) = H8 at G8 w8 el8 ⊢
       clear G7 w7 el7 v8
       refine ⟨_, rfl, ite2 (fun hne => ?_) (fun _ => ⟨_, _, _, g7, al7, rfl, el8, G8, W7, hl7, no7, w8⟩)⟩
       have hj1 : 1 ≤ j := by
         rcases Nat.eq_zero_or_pos j with z | z
         · rw [z] at hne; exact absurd hne (by decide)
         · exact z
       obtain ⟨dx, h1⟩ := G8.fa.ob
       refine ⟨_, rfl, A.p, dx, _, rfl, h1, nfC, ?_⟩
       have hm0 : 0 ≤ (0 + (i : Int)) % (((N3.take j).map V.str).length : Int) := Int.emod_nonneg _ (by rw [List.length_map, hlj]; omega)
       have hm1 : (0 + (i : Int)) % (((N3.take j).map V.str).length : Int) < ((N3.take j).length : Int) := by rw [List.length_map]; exact Int.emod_lt_of_pos _ (by rw [hlj]; omega)
       obtain ⟨nm, hmem, hat⟩ := at_str hm0 hm1
       refine ⟨_, rfl, _, rfl, _, rfl, ln, _, rfl, .inl (SqL.ofL el8), _, _, rfl, rfl, by rw [List.length_map, hlj]; omega, ln, _, _, .str nm, rfl, rfl, SqL.ofL el8, hat, ?_⟩
       refine ⟨_, rfl, _, rfl, _, _, rfl, rfl, _, rfl, _, _, rfl, rfl, .inl ⟨by decide, by decide⟩, _, _, rfl, rfl, a, ns, _, 3, rfl, w8.same.seq hS, hlen, by omega, by decide, fun H9 s9 => ?_⟩
       have c0 := drawn_nn ns (0 + 13 + 3 * (0 + (i : Int))) (m := 3) (by decide)
       generalize drawnF ns (0 + 13 + 3 * (0 + (i : Int))) 3 = c at c0 ⊢
       have G9 := G8.same s9
       have w9 := w8.trans (s9.step _)
       have el9 := s9 _ _ el8
       have l20 : al7.length ≤ 20 := by omega
       have cn := G9.can l20 hmem c.toNat
       refine ⟨A, N3.take j, g7, k, al7, nm, c, rfl, G9.fa, hmem, c0, cn.1, cn.2.1, cn.2.2.1, cn.2.2.2.1, cn.2.2.2.2, fun e1 lh1 ys1 fo1 H10 fa10 a1 a2 a3 a4 eh1 st10 fr1 ol1 el1 ml1 => ?_⟩
       have hE := (W7 nm hmem).carry G9.rows a1 a3 a4
       refine ⟨_, _, _, updE g7 nm e1, al7, rfl, st10.keep el9 no7, G9.upd fa10 hE.fo, fun n hn => ?_, hl7, st10.out el9 no7, w9.trans st10⟩
       by_cases z : n = nm
       · rw [z, updE_same]; exact hE
       · rw [updE_ne z]; exact W7 n hn
     · rintro σ H' ⟨o4, o5, o6, gi, all, rfl, el, hG, hW, hli, no, wi⟩
       exact ⟨_, rfl, q ln j gi all H' hj3 el hG hW (by omega) no wi⟩
end
end K41
namespace K41
open PySem L2
def spLaw (K : W.Frag) : Sp := fun vs H Q _ => ∃ (a : Addr) (ns : List Int), vs = [.ref a] ∧ SqL K H a (ns.map V.int) ∧ ns.length ≤ 63 ∧ ∀ H', Q (.bl true) H'
structure X1 (CF CT CR CH : Addr) (H0 H : Hp) (A : FA) (l : List Str) (ge : Str → FE) (k : Int) (all : List Msg) (ln : Addr) : Prop where
 g : FG CF CT CR CH H A l ge k all
 el : H ln = some (.lst (l.map V.str))
 no : ln ∉ A.fp l ge
 w : Stp [] H0 (A.fp l ge) H
theorem X1.same {CF CT CR CH : Addr} {H0 H H' : Hp} {A : FA} {l : List Str} {ge : Str → FE} {k : Int} {all : List Msg} {ln : Addr} (h : X1 CF CT CR CH H0 H A l ge k all ln) (s : Same H H') : X1 CF CT CR CH H0 H' A l ge k all ln := ⟨h.g.same s, s _ _ h.el, h.no, h.w.trans (s.step _)⟩
theorem hasL_ss {H : Hp} : ∀ l : List Str, HasL H (l.map V.str) (l.map PyData.str)
 | [] => hasL_nil
 | t :: l => hasL_cons (has_str t) (hasL_ss l)
theorem lay_ss : ∀ {l : List Str}, (∀ t ∈ l, PyData.strOk t = true) → PyData.canLayAll0 (l.map PyData.str) = true
 | [], _ => by simp [PyData.canLayAll0]
 | t :: l, h => by simp [PyData.canLayAll0, PyData.canLay0, h t List.mem_cons_self, lay_ss fun k hk => h k (List.mem_cons_of_mem _ hk)]
theorem depth_ss : ∀ l : List Str, PyData.depthAll (l.map PyData.str) ≤ 3
 | [] => by simp [PyData.depthAll]
 | t :: l => by
   have := depth_ss l
   simp only [List.map_cons, PyData.depthAll, PyData.depth]
   omega
theorem ne_strs {H : Hp} {a b : Addr} {l : List Str} {Q : VK} (ha : H a = some (.lst (l.map V.str))) (hb : H b = some (.lst (l.map V.str))) (hl : ∀ t ∈ l, PyData.strOk t = true) (q : Q (.bl false) H) : rNeD (.ref a) (.ref b) H Q := by
 have h1 := depth_ss l
 have h3 : PyData.canLay0 (.list (l.map PyData.str)) = true := by simp only [PyData.canLay0]; exact lay_ss hl
 have h2 : SeqAt.shaped (.list (l.map PyData.str)) = true := by
   have h2 : PyData.depth (.list (l.map PyData.str)) ≤ 64 := by simp only [PyData.depth]; omega
   show (PyData.canLay0 (.list (l.map PyData.str)) && decide (PyData.depth (.list (l.map PyData.str)) ≤ 64)) = true
   rw [Bool.and_eq_true]
   exact ⟨h3, decide_eq_true h2⟩
 refine ⟨_, _, has_lst ha (hasL_ss l), has_lst hb (hasL_ss l), h2, h2, ?_⟩
 rw [SeqAt.eqv_refl _ h3]; exact q
theorem N3_rise : N3.Pairwise leT := by
 have h1 : leT "p" "q" := by unfold leT; decide +kernel
 have h2 : leT "p" "r" := by unfold leT; decide +kernel
 have h3 : leT "q" "r" := by unfold leT; decide +kernel
 refine List.pairwise_cons.mpr ⟨fun y hy => ?_, List.pairwise_cons.mpr ⟨fun y hy => ?_, List.pairwise_singleton _ _⟩⟩
 · simp only [List.mem_cons, List.not_mem_nil, or_false] at hy
   rcases hy with rfl | rfl
   · exact h1
   · exact h2
 · rw [List.mem_singleton] at hy; rw [hy]; exact h3
theorem N3_ok : ∀ t ∈ N3, PyData.strOk t = true := fun t ht => by
 unfold N3 at ht
 simp only [List.mem_cons, List.not_mem_nil, or_false] at ht
 rcases ht with rfl | rfl | rfl <;> decide +kernel
theorem lag_nn {all : List Msg} {e : FE} (hR : Rows all) (h : FO all e) : 0 ≤ lagF all e := by
 have := (h.sizes hR).2.2
 unfold lagF; omega
theorem max_same {ns : List Int} {M N : Int} (h0 : ∀ x ∈ ns, 0 ≤ x) (hM : IsMax ns M) (hN : N ∈ ns ++ [0]) (hg : ∀ x ∈ ns ++ [0], x ≤ N) : M = N := by
 rcases hM with ⟨rfl, rfl⟩ | ⟨h1, h2⟩
 · have : N = 0 := by simpa using hN
   exact this.symm
 · have a := hg M (List.mem_append_left _ h1)
   rcases List.mem_append.mp hN with z | z
   · have := h2 N z; omega
   · rw [List.mem_singleton] at z
     have := h0 M h1; omega
theorem take_known {s : HS} {ms : List Msg} (h : ∀ m ∈ ms, m.n < s.next) (hh : s.held = []) : takeS s ms = s := by
 have e : ∀ ms : List Msg, (∀ m ∈ ms, m.n < s.next) → ms.foldl addS s = s := by
   intro ms
   induction ms with
   | nil => intro _; rfl
   | cons m r ih =>
     intro h
     rw [List.foldl_cons]
     have : addS s m = s := by
       unfold addS
       rw [if_neg (by have := h m List.mem_cons_self; omega)]
     rw [this]
     exact ih fun x hx => h x (List.mem_cons_of_mem _ hx)
 unfold takeS
 rw [e ms h]
 exact hearS_none (by rw [hh]; rfl)
theorem caught {all : List Msg} {k : Int} {e : FE} (hR : Rows all) (hk : 0 ≤ k) (hW : FW all e) : Hw all (catchS k all e.h) ∧ (catchS k all e.h).next = (all.length : Int) + 1 ∧ (catchS k all e.h).held = [] ∧ ((all.length : Int) ≤ k → (catchS k all e.h).lost = []) ∧ ∀ x ∈ (catchS k all e.h).lost, x ≤ (all.length : Int) - k := by
 obtain ⟨h1, h2, h3, h4⟩ := hW.fo.hw.catch hR hk (hW.fo.hw.toHw0.up hR)
 have hl := lastK_len k all
 have hp := e.h.next_pos
 refine ⟨h1, h2, h3, fun hz => List.eq_nil_iff_forall_not_mem.mpr fun x hx => ?_, fun x hx => ?_⟩
 · rcases (h4 x).mp hx with z | ⟨z1, z2, _⟩
   · rw [hW.nl] at z; exact absurd z List.not_mem_nil
   · omega
 · rcases (h4 x).mp hx with z | ⟨z1, z2, _⟩
   · rw [hW.nl] at z; exact absurd z List.not_mem_nil
   · omega
structure X2 (CF CT CR CH : Addr) (H : Hp) (A : FA) (l : List Str) (ge : Str → FE) (k : Int) (all : List Msg) (ln lrr : Addr) (cs : List Addr) (rows : List (List Msg)) : Prop where
 g : FG CF CT CR CH H A l ge k all
 el : H ln = some (.lst (l.map V.str))
 no : ln ∉ A.fp l ge
 ne : ln ≠ lrr
 er : H lrr = some (.lst (cs.map V.ref))
 nr : lrr ∉ A.fp l ge
 cl : cs.length = rows.length
 at' : ∀ (i : Nat) c r, cs[i]? = some c → rows[i]? = some r → ∃ ys, H c = some (.lst ys) ∧ Ms H ys r
 nc : ∀ c ∈ cs, c ≠ lrr ∧ c ∉ A.fp l ge
 rl : ∀ r ∈ rows, (∀ m ∈ r, m ∈ all) ∧ r.length ≤ 9
section
variable {CF CT CR CH : Addr} {H H' : Hp} {A : FA} {l : List Str} {ge ge' : Str → FE} {k : Int} {all : List Msg} {ln lrr : Addr} {cs : List Addr} {rows : List (List Msg)}
theorem X2.same (h : X2 CF CT CR CH H A l ge k all ln lrr cs rows) (s : Same H H') : X2 CF CT CR CH H' A l ge k all ln lrr cs rows :=
 ⟨h.g.same s, s _ _ h.el, h.no, h.ne, s _ _ h.er, h.nr, h.cl, fun i c r h1 h2 => let ⟨ys, e, m⟩ := h.at' i c r h1 h2; ⟨ys, s _ _ e, m.same s⟩, h.nc, h.rl⟩
theorem X2.live (h : X2 CF CT CR CH H A l ge k all ln lrr cs rows) {c : Addr} (hc : c ∈ cs) : ∃ ys, H c = some (.lst ys) := by
 obtain ⟨i, hi, e⟩ := List.getElem_of_mem hc
 obtain ⟨ys, h1, _⟩ := h.at' i c (rows[i]'(by have := h.cl; omega)) (by rw [List.getElem?_eq_getElem hi, e]) (List.getElem?_eq_getElem _)
 exact ⟨ys, h1⟩
theorem X2.step (h : X2 CF CT CR CH H A l ge k all ln lrr cs rows) (g : FG CF CT CR CH H' A l ge' k all) (st : Stp (A.fp l ge) H (A.fp l ge') H') : X2 CF CT CR CH H' A l ge' k all ln lrr cs rows :=
 ⟨g, st.keep h.el h.no, st.out h.el h.no, h.ne, st.keep h.er h.nr, st.out h.er h.nr, h.cl, fun i c r h1 h2 => let ⟨ys, e, m⟩ := h.at' i c r h1 h2; ⟨ys, st.keep e (h.nc c (List.mem_of_getElem? h1)).2, m.step st⟩, fun c hc => ⟨(h.nc c hc).1, let ⟨ys, e⟩ := h.live hc; st.out e (h.nc c hc).2⟩, h.rl⟩
theorem X2.app (h : X2 CF CT CR CH H A l ge k all ln lrr cs rows) {c : Addr} {ys : List V} {r : List Msg} (hc : H c = some (.lst ys)) (hm : Ms H ys r) (nc : c ∉ A.fp l ge) (nl : c ≠ lrr) (rl : (∀ m ∈ r, m ∈ all) ∧ r.length ≤ 9) : X2 CF CT CR CH (upd H lrr (.lst (cs.map V.ref ++ [.ref c]))) A l ge k all ln lrr (cs ++ [c]) (rows ++ [r]) := by
 have st := Stp.put (ps := [lrr]) (o := .lst (cs.map V.ref ++ [.ref c])) h.er (fun _ z => by cases z) (by simp)
 refine ⟨h.g.step st (fun d hd z => h.nr (by rw [List.mem_singleton] at z; rw [← z]; exact hd)), st.keep h.el (by simp [h.ne]), h.no, h.ne, by rw [List.map_append]; exact upd_same, h.nr, by rw [List.length_append, List.length_append, h.cl]; rfl, fun i d r' h1 h2 => ?_, fun d hd => ?_, fun x hx => ?_⟩
 · by_cases hi : i < cs.length
   · rw [List.getElem?_append_left hi] at h1
     rw [List.getElem?_append_left (by rw [← h.cl]; exact hi)] at h2
     obtain ⟨ys', e, m⟩ := h.at' i d r' h1 h2
     exact ⟨ys', st.keep e (by simp [(h.nc d (List.mem_of_getElem? h1)).1]), m.step st⟩
   · have hlt := (List.getElem?_eq_some_iff.mp h1).1
     rw [List.length_append] at hlt
     have hi' : i = cs.length := by simp at hlt; omega
     subst hi'
     rw [List.getElem?_append_right (Nat.le_refl _), Nat.sub_self] at h1
     rw [h.cl, List.getElem?_append_right (Nat.le_refl _), Nat.sub_self] at h2
     cases Option.some.inj h1
     cases Option.some.inj h2
     exact ⟨ys, st.keep hc (by simp [nl]), hm.step st⟩
 · rcases List.mem_append.mp hd with z | z
   · exact h.nc d z
   · rw [List.mem_singleton] at z; rw [z]; exact ⟨nl, nc⟩
 · rcases List.mem_append.mp hx with z | z
   · exact h.rl x z
   · rw [List.mem_singleton] at z; rw [z]; exact rl
end
theorem tAnd_off {t1 t2 : TT} {σ : St} {H : Hp} {Q : Bool → Hp → Prop} (b1 b2 : Bool) (e1 : ∀ R : Bool → Hp → Prop, R b1 H → t1 σ H R) (e2 : ∀ R : Bool → Hp → Prop, R b2 H → t2 σ H R) (hb : (b1 && b2) = false) (q : Q false H) : tAnd t1 t2 σ H Q := by
 unfold tAnd
 refine e1 _ ?_
 cases b1
 · exact q
 · cases b2
   · exact e2 _ q
   · cases hb
theorem ds_len {all : List Msg} (hR : Rows all) {ms ds : List Msg} {ks : List Key} (hsub : ∀ m ∈ ms, m ∈ all) (h1 : ds.Nodup) (h2 : ∀ m, m ∈ ds ↔ m ∈ ms) (h3 : ks.Nodup) (h4 : ∀ k, k ∈ ks ↔ k ∈ (ms.map (·.n)).map (Sum.inl : Int → Key)) : ds.length = ks.length := by
 have hnd : (ds.map fun m => (Sum.inl m.n : Key)).Nodup := by
   refine List.pairwise_map.mpr (List.Pairwise.imp_of_mem (fun {a b} ha hb hne e => hne ?_) h1)
   exact hR.uniq (hsub a ((h2 a).mp ha)) (hsub b ((h2 b).mp hb)) (Sum.inl.inj e)
 have hp : (ds.map fun m => (Sum.inl m.n : Key)).Perm ks := (List.perm_ext_iff_of_nodup hnd h3).mpr fun k => by
   rw [h4 k, List.map_map, List.mem_map, List.mem_map]
   constructor
   · rintro ⟨m, hm, rfl⟩
     exact ⟨m, (h2 m).mp hm, rfl⟩
   · rintro ⟨m, hm, rfl⟩
     exact ⟨m, (h2 m).mpr hm, rfl⟩
 have := hp.length_eq
 rw [List.length_map] at this
 exact this
abbrev s_law : Stmt := top 26
abbrev N_law : List Str := ["_law_script", "_law_keep", "_law_fan_here", "_law_names", "_law_told", "_law_lags", "_law_most", "_law_slow", "_law_name", "_law_heard", "_law_rows", "_law_before", "_law_some", "_law_many", "_law_numbers", "_law_every"]
theorem sc_law : FnScope N_law ["_law_script"] (defScope s_law) := ⟨rfl, rfl, rfl, by decide +kernel, rfl, by decide +kernel, by decide +kernel⟩
section
variable {P : Program} {w : World} {K : W.Frag} {mg : Str → Option Value} {base : Heap}
theorem ok_law {f CF CT CR CH : Addr} {fd : FuncData} (F : Fun K "law" "law" s_law f fd) (T : Txt mg) (TC : TxtF K mg CF CT CR CH) (c_l_drawn : Callee P w K mg base 2 "_law_drawn" ["_law_script", "_law_k", "_law_many"] (spDrawn K)) (c_l_fan : Callee P w K mg base 6 "_law_fan" ["_law_script", "_law_at", "_law_fan_here"] (spLFan K CF CT CR CH))
   (i_Fan : CalleeI P w K mg base 3 CF ["self", "keep"] (spFInit CF CT CR CH)) (m_names : CalleeM P w K mg base 1 CF "names" ["self"] (spFNames CF CT CR CH)) (m_Fan_tell : CalleeM P w K mg base 5 CF "tell" ["self", "topic", "text"] (spFTell CF CT CR CH)) (m_carry : CalleeM P w K mg base 4 CF "carry" ["self", "name", "many"] (spFCarry CF CT CR CH)) (m_catch_up : CalleeM P w K mg base 5 CF "catch_up" ["self", "name"] (spFCatch CF CT CR CH))
   (m_Fan_heard : CalleeM P w K mg base 3 CF "heard" ["self", "name"] (spFHeard CF CT CR CH)) (m_Fan_lost : CalleeM P w K mg base 3 CF "lost" ["self", "name"] (spFLost CF CT CR CH)) (m_Fan_waiting : CalleeM P w K mg base 3 CF "waiting" ["self", "name"] (spFWait CF CT CR CH)) (m_lag : CalleeM P w K mg base 3 CF "lag" ["self", "name"] (spFLag CF CT CR CH)) (m_slowest : CalleeM P w K mg base 4 CF "slowest" ["self"] (spFSlow CF CT CR CH)) :
   FnOk P w K mg base CX0 7 f fd ["_law_script"] (spLaw K) := by
 refine F.ok sc_law (fun vs H Q E h => ?_) (fun cdv A0 outer s0 H vs Q E hr h => ?_)
 · obtain ⟨a, ns, rfl, _⟩ := h; rfl
 · obtain ⟨a, ns, rfl, hS, hlen, q⟩ := h
   refine ⟨_, (pss_cons (ps_set (i := 1) sc_law.nd rfl (Or.inr rfl) (as_fn c_l_drawn (hr.mono (by decide)) (at_cons (pv 0) (as_cons pe_int (as_cons pe_int as_nil)))))
     (pss_cons (ps_set (i := 2) sc_law.nd rfl (Or.inr rfl) (as_make i_Fan (hr.mono (by decide)) TC.mg_Fan (at_cons (pv 1) as_nil)))
     (pss_cons (ps_set (i := 3) sc_law.nd rfl (Or.inl rfl) (as_fn c_l_fan (hr.mono (by decide)) (at_cons (pv 0) (as_cons pe_int (as_cons (pv 2) as_nil)))))
     (pss_cons (ps_set (i := 4) sc_law.nd rfl (Or.inr rfl) (as_meth m_Fan_tell TC.cl_Fan (hr.mono (by decide)) (pv 2) (at_cons pe_str (as_cons pe_str as_nil))))
     (pss_cons (ps_comp (i := 5) sc_law.nd rfl (Or.inl rfl) (N' := ["_law_name", "_law_fan_here"]) (ix := [none, some 2]) (own := [0]) rfl (cs_of (osc := defScope s_law) (ON := N_law) rfl rfl (by decide +kernel)) (by decide) (k_it_list K (pv 3)) (fun _ _ _ _ => (pg_name (i := 0) (show (["_law_name", "_law_fan_here"] : List Str).Nodup by decide +kernel) rfl (Or.inl rfl))) own_name (fun _ _ _ _ => pifs_nil) (fun _ _ _ _ => (as_meth m_lag TC.cl_Fan (hr.mono (by decide)) (pv 1) (at_cons (pv 0) as_nil))))
     (pss_cons (ps_set (i := 6) sc_law.nd rfl (Or.inr rfl) (as_callB (k_maxL K rfl) (by rfl) T.b_max PyProof.Rows.boot_max (at_cons (pe_op op_cat (pv 5) (as_lst (as_cons pe_int as_nil))) as_nil)))
     (pss_cons (ps_comp (i := 7) sc_law.nd rfl (Or.inl rfl) (N' := ["_law_name", "_law_lag", "_law_most"]) (ix := [none, none, some 6]) (own := [0, 1]) rfl (cs_of (osc := defScope s_law) (ON := N_law) rfl rfl (by decide +kernel)) (by decide) (pi_zip K T.b_zip (pa_cons (pv 3) (pa_cons (pv 5) pa_nil))) (fun _ _ _ _ => (k_tup (n := 2) K rfl (pgs_cons (pg_name (i := 0) (show (["_law_name", "_law_lag", "_law_most"] : List Str).Nodup by decide +kernel) rfl (Or.inl rfl)) (pgs_cons (pg_name (i := 1) (show (["_law_name", "_law_lag", "_law_most"] : List Str).Nodup by decide +kernel) rfl (Or.inl rfl)) pgs_nil)))) (own_tup (owns_cons (owns_cons owns_nil))) (fun _ _ _ _ => (pifs_one (pt_cmpR op_eq (pv 1) (pv 2) (nomark _)))) (fun _ _ _ _ => (pv 0)))
     (pss_cons (ps_if (PW.pt (pw_or (pt_cmpR (op_neD hr.units) (as_meth0 m_names TC.cl_Fan (hr.mono (by decide)) (pv 2)) (pv 3) (nomark _)) (pw_or1 (pt_cmpR (op_neD hr.units) (as_meth0 m_slowest TC.cl_Fan (hr.mono (by decide)) (pv 2)) (pv 7) (nomark _))))) (pss_one (ps_ret pe_bl)) pss_nil)
     (pss_cons (ps_for PassesOwn.never rfl (k_it_list K (pv 3)) (pg_name (i := 8) sc_law.nd rfl (Or.inl rfl)) (pss_cons (ps_set (i := 9) sc_law.nd rfl (Or.inr rfl) (pe_comp (N' := ["_law_message"]) (ix := [none]) (own := [0]) rfl (cs_of (osc := defScope s_law) (ON := N_law) rfl rfl (by decide +kernel)) (by decide) (k_it_list K (as_meth m_Fan_heard TC.cl_Fan (hr.mono (by decide)) (pv 2) (at_cons (pv 8) as_nil))) (fun _ _ _ _ => (pg_name (i := 0) (show (["_law_message"] : List Str).Nodup by decide +kernel) rfl (Or.inl rfl))) own_name (fun _ _ _ _ => pifs_nil) (fun _ _ _ _ => (pe_ix (k_ix_tup K) (pv 0) pe_int (fun _ _ => rfl)))))
     (pss_cons (ps_if (pt_cmpR (op_neD hr.units) (pv 9) (as_callB (k_sortS P w rfl) (by rfl) T.b_sorted PyProof.Rows.boot_sorted (at_cons (as_callTy (k_setK P w K rfl) (by rfl) T.b_set PyProof.Rows.boot_set (at_cons (pv 9) as_nil)) as_nil)) (nomark _)) (pss_one (ps_ret pe_bl)) pss_nil)
     (pss_cons (ps_if (pt_cmpR (k_ne0 K hr.units0) (pe_comp (N' := ["_law_message", "_law_heard"]) (ix := [none, some 9]) (own := [0]) rfl (cs_of (osc := defScope s_law) (ON := N_law) rfl rfl (by decide +kernel)) (by decide) (k_it_list K (as_meth m_Fan_waiting TC.cl_Fan (hr.mono (by decide)) (pv 2) (at_cons (pv 8) as_nil))) (fun _ _ _ _ => (pg_name (i := 0) (show (["_law_message", "_law_heard"] : List Str).Nodup by decide +kernel) rfl (Or.inl rfl))) own_name (fun _ _ _ _ => (pifs_one (pt_cmpR (k_in_seq K) (pe_ix (k_ix_tup K) (pv 0) pe_int (fun _ _ => rfl)) (pv 1) (by with_unfolding_all rfl)))) (fun _ _ _ _ => (pv 0))) (as_lst as_nil) (nomark _)) (pss_one (ps_ret pe_bl)) pss_nil)
     (pss_one (ps_if (PW.pt (pw_or (pt_cmpR op_ne (as_meth m_lag TC.cl_Fan (hr.mono (by decide)) (pv 2) (at_cons (pv 8) as_nil)) (pe_op op_sub (pe_op op_sub (pv 4) (as_callB (k_len_seq K) (by rfl) T.b_len PySem.boot_len (at_cons (pv 9) as_nil))) (as_callB (k_len_seq K) (by rfl) T.b_len PySem.boot_len (at_cons (as_meth m_Fan_lost TC.cl_Fan (hr.mono (by decide)) (pv 2) (at_cons (pv 8) as_nil)) as_nil))) (nomark _)) (pw_or1 (pt_cmpR (k_ne0 K hr.units0) (as_meth m_Fan_lost TC.cl_Fan (hr.mono (by decide)) (pv 2) (at_cons (pv 8) as_nil)) (as_lst as_nil) (nomark _))))) (pss_one (ps_ret pe_bl)) pss_nil))))))
     (pss_cons (ps_set (i := 10) sc_law.nd rfl (Or.inl rfl) (as_lst as_nil))
     (pss_cons (ps_for PassesOwn.never rfl (k_it_list K (pv 3)) (pg_name (i := 8) sc_law.nd rfl (Or.inl rfl)) (pss_cons (ps_set (i := 11) sc_law.nd rfl (Or.inl rfl) (as_meth m_Fan_heard TC.cl_Fan (hr.mono (by decide)) (pv 2) (at_cons (pv 8) as_nil)))
     (pss_cons (ps_asg (as_meth m_catch_up TC.cl_Fan (hr.mono (by decide)) (pv 2) (at_cons (pv 8) as_nil)) (k_tup K rfl (pgs_cons (pg_name (i := 12) sc_law.nd rfl (Or.inl rfl)) (pgs_cons (pg_name (i := 13) sc_law.nd rfl (Or.inl rfl)) pgs_nil))))
     (pss_cons (ps_if (PW.pt (pw_or (pt_cmpR (op_neD hr.units) (as_meth m_Fan_heard TC.cl_Fan (hr.mono (by decide)) (pv 2) (at_cons (pv 8) as_nil)) (pe_op op_cat (pv 11) (pv 12)) (nomark _)) (pw_or (pt_cmpR op_ne (as_callB (k_len_seq K) (by rfl) T.b_len PySem.boot_len (at_cons (as_meth m_Fan_lost TC.cl_Fan (hr.mono (by decide)) (pv 2) (at_cons (pv 8) as_nil)) as_nil)) (pv 13) (nomark _)) (pw_or1 (pt_cmpR op_ne (as_meth m_lag TC.cl_Fan (hr.mono (by decide)) (pv 2) (at_cons (pv 8) as_nil)) pe_int (nomark _)))))) (pss_one (ps_ret pe_bl)) pss_nil)
     (pss_cons (ps_comp (i := 14) sc_law.nd rfl (Or.inl rfl) (N' := ["_law_message"]) (ix := [none]) (own := [0]) rfl (cs_of (osc := defScope s_law) (ON := N_law) rfl rfl (by decide +kernel)) (by decide) (k_it_list K (as_meth m_Fan_heard TC.cl_Fan (hr.mono (by decide)) (pv 2) (at_cons (pv 8) as_nil))) (fun _ _ _ _ => (pg_name (i := 0) (show (["_law_message"] : List Str).Nodup by decide +kernel) rfl (Or.inl rfl))) own_name (fun _ _ _ _ => pifs_nil) (fun _ _ _ _ => (pe_ix (k_ix_tup K) (pv 0) pe_int (fun _ _ => rfl))))
     (pss_cons (ps_if (PW.pt (pw_or (pt_cmpR (op_neD hr.units) (as_callB (k_sortI K rfl) (by rfl) T.b_sorted PyProof.Rows.boot_sorted (at_cons (pe_op op_cat (pv 14) (as_meth m_Fan_lost TC.cl_Fan (hr.mono (by decide)) (pv 2) (at_cons (pv 8) as_nil))) as_nil)) (as_callTy (call_list_rng rfl) (by rfl) T.b_list PyProof.Rows.boot_list (at_cons (as_callTy call_rng (by rfl) T.b_range PyProof.Rows.boot_range (at_cons pe_int (as_cons (pe_op op_add (pv 4) pe_int) as_nil))) as_nil)) (nomark _)) (pw_or1 (PW.pt (pw_and (pt_cmpR op_ge (pv 1) (pv 4) (nomark _)) (pw_and1 (pt_cmpR op_gt (pv 13) pe_int (nomark _)))))))) (pss_one (ps_ret pe_bl)) pss_nil)
     (pss_cons (ps_if (pt_cmpR (k_ne0 K hr.units0) (pe_comp (N' := ["_law_number", "_law_told", "_law_keep"]) (ix := [none, some 4, some 1]) (own := [0]) rfl (cs_of (osc := defScope s_law) (ON := N_law) rfl rfl (by decide +kernel)) (by decide) (k_it_list K (as_meth m_Fan_lost TC.cl_Fan (hr.mono (by decide)) (pv 2) (at_cons (pv 8) as_nil))) (fun _ _ _ _ => (pg_name (i := 0) (show (["_law_number", "_law_told", "_law_keep"] : List Str).Nodup by decide +kernel) rfl (Or.inl rfl))) own_name (fun _ _ _ _ => (pifs_one (pt_cmpR op_gt (pv 0) (pe_op op_sub (pv 1) (pv 2)) (nomark _)))) (fun _ _ _ _ => (pv 0))) (as_lst as_nil) (nomark _)) (pss_one (ps_ret pe_bl)) pss_nil)
     (pss_cons (ps_expr (as_meth m_carry TC.cl_Fan (hr.mono (by decide)) (pv 2) (at_cons (pv 8) (as_cons pe_int as_nil))))
     (pss_cons (ps_if (PW.pt (pw_or (pt_cmpR (op_neD hr.units) (as_meth m_Fan_heard TC.cl_Fan (hr.mono (by decide)) (pv 2) (at_cons (pv 8) as_nil)) (pe_op op_cat (pv 11) (pv 12)) (nomark _)) (pw_or1 (pt_cmpR (k_ne0 K hr.units0) (as_meth m_Fan_waiting TC.cl_Fan (hr.mono (by decide)) (pv 2) (at_cons (pv 8) as_nil)) (as_lst as_nil) (nomark _))))) (pss_one (ps_ret pe_bl)) pss_nil)
     (pss_one (ps_expr (k_bm K PySem.F.plainAttrs_list PySem.F.slot_list_append PySem.F.type_list_append mt_append (pv 10) (pa_cons (as_meth m_Fan_heard TC.cl_Fan (hr.mono (by decide)) (pv 2) (at_cons (pv 8) as_nil)) pa_nil)))))))))))))
     (pss_cons (ps_set (i := 15) sc_law.nd rfl (Or.inl rfl) (as_lst as_nil))
     (pss_cons (ps_for PassesOwn.never rfl (k_it_list K (pv 10)) (pg_name (i := 9) sc_law.nd rfl (Or.inr rfl)) (pss_one (ps_set (i := 15) sc_law.nd rfl (Or.inl rfl) (pe_op op_cat (pv 15) (pv 9)))))
     (pss_one (ps_ret (pe_cmpR op_eq (as_callB (k_lenU P w) (by rfl) T.b_len PySem.boot_len (at_cons (as_callTy (k_setU P w K hr) (by rfl) T.b_set PyProof.Rows.boot_set (at_cons (pv 15) as_nil)) as_nil)) (as_callB (k_lenS P w) (by rfl) T.b_len PySem.boot_len (at_cons (as_callTy (k_setK P w K rfl) (by rfl) T.b_set PyProof.Rows.boot_set (at_cons (pe_comp (N' := ["_law_message"]) (ix := [none]) (own := [0]) rfl (cs_of (osc := defScope s_law) (ON := N_law) rfl rfl (by decide +kernel)) (by decide) (k_it_list K (pv 15)) (fun _ _ _ _ => (pg_name (i := 0) (show (["_law_message"] : List Str).Nodup by decide +kernel) rfl (Or.inl rfl))) own_name (fun _ _ _ _ => pifs_nil) (fun _ _ _ _ => (pe_ix (k_ix_tup K) (pv 0) pe_int (fun _ _ => rfl)))) as_nil)) as_nil)) (nomark _))))))))))))))))), ?_⟩
   refine ⟨_, rfl, a, ns, 100, 10, rfl, hS, hlen, by decide, by decide, fun H1 s1 => ?_⟩
   have k0 := drawn_nn ns 100 (m := 10) (by decide)
   have k9 := drawn_lt ns 100 (m := 10) (by decide)
   generalize drawnF ns 100 10 = k at k0 k9 ⊢
   refine ⟨_, rfl, ?_⟩
   intro p1 dx1 np1 nd1 nx1
   refine ⟨p1, dx1, k, rfl, upd_same, fun A H2 ep hA0 st2 => ⟨rfl, ?_⟩⟩
   subst ep
   have v2 : Stp [] H A.own H2 := (s1.step []).trans ((Stp.obj (o := .own A.p) (o' := .ins CF dx1 []) np1 nd1).trans st2)
   obtain ⟨g0, hg0⟩ : ∃ g : Str → FE, True := ⟨fun _ => ⟨0, 0, 0, 0, "", ⟨[], [], false⟩, ⟨0, 0, 0, 0, 0⟩, hs0⟩, trivial⟩
   have fp0 : ∀ c, c ∈ A.fp [] g0 ↔ c ∈ A.own := fun c => by unfold FA.fp fpF; simp
   have w2 : Stp [] H (A.fp [] g0) H2 := v2.weak (fun _ z => absurd z List.not_mem_nil) fun c hc => .inl ((fp0 c).mp hc)
   refine ⟨_, rfl, _, rfl, a, ns, A, g0, k, H, rfl, hS, hlen, w2, hA0 g0, k0, fun ln j g1 al1 H3 hj el1 G1 W1 hl1 no1 w3 => ?_⟩
   clear w2 v2 st2 hA0 fp0
   have hln : (N3.take j).length ≤ 3 := by rw [List.length_take]; exact Nat.min_le_right _ _
   have hsub : ∀ n ∈ N3.take j, n ∈ N3 := fun n hn => List.mem_of_mem_take hn
   have hnd : (N3.take j).Nodup := N3_nd.sublist (List.take_sublist _ _)
   have hris : (N3.take j).Pairwise leT := N3_rise.sublist (List.take_sublist _ _)
   generalize N3.take j = l at hln hsub hnd hris el1 G1 W1 no1 w3
   obtain ⟨dx, h1⟩ := G1.fa.ob
   refine ⟨_, rfl, A.p, dx, _, rfl, h1, nfT, A, l, g1, k, al1, "zz", "end", rfl, G1.fa, by omega, k0, by omega, G1.room (by omega), fun g H4 fa4 hp4 st4 => ?_⟩
   have G4 := G1.tell (t := "zz") (x := "end") (by decide +kernel) (by decide +kernel) fa4 hp4
   have W4 : ∀ n ∈ l, FW (al1 ++ [⟨(al1.length : Int) + 1, "zz", "end"⟩]) (g n) := fun n hn => (W1 n hn).put G1.rows (hp4 n hn) rfl
   obtain ⟨all, hall⟩ : ∃ x, x = al1 ++ [(⟨(al1.length : Int) + 1, "zz", "end"⟩ : Msg)] := ⟨_, rfl⟩
   rw [← hall] at G4 W4
   have hT : (al1.length : Int) + 1 = (all.length : Int) := by rw [hall, List.length_append]; rfl
   have hl9 : all.length ≤ 9 := by omega
   rw [hT]
   have X4 : X1 CF CT CR CH H H4 A l g k all ln := ⟨G4, st4.keep el1 no1, st4.out el1 no1, w3.trans st4⟩
   clear G4 hT hall st4 el1 no1 w3 hp4 fa4 h1 G1 W1 hl1
   refine ⟨_, rfl, ln, rfl, ⟨_, SqL.ofL X4.el⟩, l.length, fun i ys H' => Same H4 H' ∧ ys = ((l.take i).map fun n => lagF all (g n)).map V.int, szl (by omega), ⟨Same.refl _, rfl⟩, ?_, ?_⟩
   · rintro i ys H' hi ⟨sH, rfl⟩
     have X5 := X4.same sH
     have ei : (l.map V.str)[i]? = some (V.str l[i]) := by rw [List.getElem?_map, List.getElem?_eq_getElem hi]; rfl
     refine ⟨⟨_, _, SqL.ofL X5.el, ei⟩, ?_⟩
     rintro x H3 ⟨rfl, hx⟩
     have hx' := hx _ (SqL.ofL X5.el)
     rw [ei] at hx'
     obtain rfl := Option.some.inj hx'
     obtain ⟨dx', h1'⟩ := X5.g.fa.ob
     refine rd_name (rd_yes (iteT ⟨_, rfl, A.p, dx', _, rfl, h1', nfL, _, rfl, A, l, g, k, all, l[i], rfl, X5.g.fa, List.getElem_mem hi, sH, ?_⟩))
     rw [List.take_add_one, List.getElem?_eq_getElem hi, List.map_append, List.map_append]; rfl
   rintro yr H5 ⟨s5, rfl⟩
   rw [List.take_length]
   have X5 := X4.same s5
   refine ⟨⟨_, SqL.ofL X5.el, by rw [List.length_map]; exact Nat.le_refl _⟩, fun lr nlr => ?_⟩
   have g6 := Same.new (o := .lst ((l.map fun n => lagF all (g n)).map V.int)) nlr
   have elr := upd_same (H := H5) (a := lr) (o := .lst ((l.map fun n => lagF all (g n)).map V.int))
   have X6 := X5.same g6
   generalize upd H5 lr (.lst ((l.map fun n => lagF all (g n)).map V.int)) = H6 at elr X6 ⊢
   clear X4 X5 g6 s5
   refine ⟨_, rfl, by decide, fun l0 nl0 => ?_⟩
   have g7 := Same.new (o := .lst [V.int 0]) nl0
   refine ⟨lr, l0, _, _, rfl, rfl, g7 _ _ elr, upd_same, by rw [List.length_map, List.length_map]; show _ + 1 ≤ _; rw [sizeLine_eq]; omega, fun l1 nl1 => ?_⟩
   have g8 := g7.trans (Same.new (o := .lst ((l.map fun n => lagF all (g n)).map V.int ++ [V.int 0])) nl1)
   refine ⟨l1, (l.map fun n => lagF all (g n)) ++ [0], rfl, SqL.ofL (by rw [List.map_append]; exact upd_same), by simp, fun N hN hNg => ?_⟩
   have elr8 := g8 _ _ elr
   have X8 := X6.same g8
   generalize upd (upd H6 l0 (.lst [V.int 0])) l1 (.lst ((l.map fun n => lagF all (g n)).map V.int ++ [V.int 0])) = H8 at elr8 X8 ⊢
   clear X6 g7 g8 elr
   refine ⟨_, rfl, _, rfl, ln, lr, rfl, ⟨_, SqL.ofL X8.el⟩, ⟨_, SqL.ofL elr8⟩, l.length, fun i ys H' => Same H8 H' ∧ ys = ((l.take i).filter fun n => decide (lagF all (g n) = N)).map V.str, szl (by omega), ⟨Same.refl _, rfl⟩, ?_, ?_⟩
   · rintro i ys H' hi ⟨sH, rfl⟩
     have X9 := X8.same sH
     have ei : (l.map V.str)[i]? = some (V.str l[i]) := by rw [List.getElem?_map, List.getElem?_eq_getElem hi]; rfl
     have ej : ((l.map fun n => lagF all (g n)).map V.int)[i]? = some (V.int (lagF all (g l[i]))) := by rw [List.getElem?_map, List.getElem?_map, List.getElem?_eq_getElem hi]; rfl
     refine ⟨⟨_, _, _, _, SqL.ofL X9.el, SqL.ofL (sH _ _ elr8), ei, ej⟩, ?_⟩
     rintro x Hy ⟨T', x1, y1, rfl, nT, rfl, hv1, hv2⟩
     have h1' := hv1 _ (SqL.ofL X9.el)
     rw [ei] at h1'
     obtain rfl := Option.some.inj h1'
     have h2' := hv2 _ (SqL.ofL (sH _ _ elr8))
     rw [ej] at h2'
     obtain rfl := Option.some.inj h2'
     have sT := Same.new (o := .tup [.str l[i], .int (lagF all (g l[i]))]) nT
     refine ⟨T', _, rfl, SqT.ofT upd_same, rfl, _, _, rfl, _, _, rfl, rfl, ?_⟩
     refine ⟨_, rfl, _, rfl, rfl, _, rfl, ite2 (fun z => ⟨_, rfl, sH.trans sT, ?_⟩) (fun z => ⟨sH.trans sT, ?_⟩)⟩
     · have z' : lagF all (g l[i]) = N := V.int.inj (of_decide_eq_true z)
       rw [List.take_add_one, List.getElem?_eq_getElem hi, List.filter_append, List.map_append]
       congr 1
       show _ = List.map V.str (List.filter _ [l[i]])
       rw [List.filter_cons, if_pos (decide_eq_true z')]; rfl
     · have z' : ¬ lagF all (g l[i]) = N := fun y => z (decide_eq_true (congrArg V.int y))
       rw [List.take_add_one, List.getElem?_eq_getElem hi, List.filter_append]
       show _ = List.map V.str (_ ++ List.filter _ [l[i]])
       rw [List.filter_cons, if_neg (by rw [decide_eq_false z']; decide), List.filter_nil, List.append_nil]
   rintro yr H9 ⟨s9, rfl⟩
   rw [List.take_length]
   have X9 := X8.same s9
   refine ⟨⟨_, _, SqL.ofL X9.el, SqL.ofL (s9 _ _ elr8), by rw [List.length_map, List.length_map, List.length_map]; exact Nat.min_self _⟩, fun lw nlw => ?_⟩
   have g10 := Same.new (o := .lst ((l.filter fun n => decide (lagF all (g n) = N)).map V.str)) nlw
   have elw := upd_same (H := H9) (a := lw) (o := .lst ((l.filter fun n => decide (lagF all (g n) = N)).map V.str))
   have X10 := X9.same g10
   generalize upd H9 lw (.lst ((l.filter fun n => decide (lagF all (g n) = N)).map V.str)) = H10 at elw X10 ⊢
   clear X8 X9 g10 s9 elr8
   obtain ⟨dx, h1⟩ := X10.g.fa.ob
   refine ⟨_, rfl, A.p, dx, _, rfl, h1, nfN, A, l, g, k, all, rfl, X10.g.fa, by omega, fun q1 ts nq1 hts => ?_⟩
   obtain rfl : l = ts := (hts.eq (List.Perm.refl _) hris).symm
   have g11 := Same.new (o := .lst (l.map V.str)) nq1
   have X11 := X10.same g11
   refine ⟨_, rfl, ne_strs upd_same X11.el (fun t ht => N3_ok t (hsub t ht)) ⟨_, rfl, iteF ?_⟩⟩
   have elw11 := g11 _ _ elw
   generalize upd H10 q1 (.lst (l.map V.str)) = H11 at X11 elw11 ⊢
   clear X10 g11 elw
   obtain ⟨dx, h1⟩ := X11.g.fa.ob
   refine ⟨_, rfl, A.p, dx, _, rfl, h1, nfS, A, l, g, k, all, rfl, X11.g.fa, by omega, fun q2 ts2 M H12 s12 nq2 hts2 hM eq2 => ?_⟩
   obtain rfl : l = ts2 := (hts2.eq (List.Perm.refl _) hris).symm
   have hMN : M = N := max_same (fun x hx => by
     obtain ⟨n, hn, rfl⟩ := List.mem_map.mp hx
     exact lag_nn X11.g.rows (X11.g.en n hn)) hM hN hNg
   rw [hMN] at eq2
   have X12 := X11.same s12
   refine ⟨_, rfl, ne_strs eq2 (s12 _ _ elw11) (fun t ht => N3_ok t (hsub t (List.mem_filter.mp ht).1)) ⟨_, rfl, iteF ?_⟩⟩
   clear X11 s12 eq2 elw11 hM hMN hN hNg
   have W12 := W4
   clear W4
   refine ⟨_, rfl, ln, rfl, ⟨_, SqL.ofL X12.el⟩, for_list (K := K) (a := ln) (xs := l.map V.str) (fun i σ H' => ∃ o8 o9, σ = [some (.ref a), some (.int k), some (.ref A.p), some (.ref ln), some (.int (all.length : Int)), some (.ref lr), some (.int N), some (.ref lw), o8, o9, none, none, none, none, none, none] ∧ X1 CF CT CR CH H H' A l g k all ln)
     ⟨_, _, rfl, X12⟩ (fun i σ H' _ ⟨_, _, _, h⟩ => SqL.ofL h.el) ?_ ?_⟩
   · rintro i x σ H' hi ⟨o8, o9, rfl, X⟩
     obtain ⟨nm, hnm, rfl⟩ : ∃ nm, nm ∈ l ∧ x = V.str nm := by
       rw [List.getElem?_map] at hi
       cases h : l[i]? with
       | none => rw [h] at hi; cases hi
       | some n => rw [h] at hi; exact ⟨n, List.mem_of_getElem? h, (Option.some.inj hi).symm⟩
     have hW := W12 nm hnm
     have hO := hW.fo
     have sz := hO.sizes X.g.rows
     have hnx : (g nm).h.next = ((g nm).h.heard.length : Int) + ((g nm).h.lost.length : Int) + 1 := rfl
     have hsm := hO.sum
     obtain ⟨dx, h1⟩ := X.g.fa.ob
     refine rd_name ⟨_, rfl, A.p, dx, _, rfl, h1, nfH, _, rfl, A, l, g, k, all, nm, rfl, X.g.fa, hnm, fun l1 y1 nl1 m1 => ?_⟩
     have g1 := Same.new (o := .lst y1) nl1
     have X2 := X.same g1
     have el1 := upd_same (H := H') (a := l1) (o := .lst y1)
     generalize upd H' l1 (.lst y1) = H2 at X2 el1 m1 ⊢
     clear X g1
     refine ⟨l1, rfl, ⟨_, SqL.ofL el1⟩, _, PMap H2 (g nm).h.heard fun m => .int m.n, szl (by omega), PMap.zero, PMap.step el1 m1 (fun c1 m1 R N hm1 hc1 hR => ?_), fun ys' H3 hP => ?_⟩
     · exact rd_name (rd_yes (iteT ⟨_, rfl, c1, _, 0, _, rfl, rfl, SqT.ofT hc1, rfl, hR⟩))
     obtain ⟨hst, rfl, rfl⟩ := PMap.done (K := K) el1 m1 hP
     refine ⟨hst, fun lr2 nlr2 => ?_⟩
     have erw : (g nm).h.heard.map (fun m => V.int m.n) = ((g nm).h.heard.map (·.n)).map V.int := by rw [List.map_map]; rfl
     rw [erw]
     have g2 := Same.new (o := .lst (((g nm).h.heard.map (·.n)).map V.int)) nlr2
     have X3 := X2.same g2
     have elh := upd_same (H := H2) (a := lr2) (o := .lst (((g nm).h.heard.map (·.n)).map V.int))
     generalize upd H2 lr2 (.lst (((g nm).h.heard.map (·.n)).map V.int)) = H3 at X3 elh ⊢
     clear X2 g2 hst m1 el1
     have hks : ((g nm).h.heard.map (·.n)).map V.int = (((g nm).h.heard.map (·.n)).map Sum.inl : List Key).map kV := by rw [List.map_map (f := Sum.inl)]; rfl
     refine ⟨_, rfl, _, rfl, lr2, ((g nm).h.heard.map (·.n)).map Sum.inl, rfl, SqL.ofL (by rw [← hks]; exact elh), by rw [List.length_map, List.length_map]; omega, fun sp nsp => ?_⟩
     have g1 := Same.new (o := SetO P w sp (((g nm).h.heard.map (·.n)).map Sum.inl)) nsp
     refine ⟨sp, (g nm).h.heard.map (·.n), rfl, upd_same, by rw [List.length_map]; omega, fun l7 ms n7 hnd7 hmem7 => ?_⟩
     rw [sortI_set hnd7 hmem7 (List.pairwise_map.mpr hO.hw.rise)]
     have g2 := Same.new (o := .lst (((g nm).h.heard.map (·.n)).map V.int)) n7
     refine ne_ints ((g1.trans g2) _ _ elh) upd_same ⟨_, rfl, iteF ?_⟩
     have X4 := X3.same (g1.trans g2)
     have elh4 := (g1.trans g2) _ _ elh
     generalize upd (upd H3 sp (SetO P w sp (((g nm).h.heard.map (·.n)).map Sum.inl))) l7 (.lst (((g nm).h.heard.map (·.n)).map V.int)) = H4 at X4 elh4 ⊢
     clear g1 g2 X3 elh
     obtain ⟨dx, h1⟩ := X4.g.fa.ob
     refine ⟨_, rfl, A.p, dx, _, rfl, h1, nfW, _, rfl, A, l, g, k, all, nm, rfl, X4.g.fa, hnm, fun l2 y2 nl2 m2 => ?_⟩
     have g1 := Same.new (o := .lst y2) nl2
     have X5 := X4.same g1
     have elh5 := g1 _ _ elh4
     have el2 := upd_same (H := H4) (a := l2) (o := .lst y2)
     generalize upd H4 l2 (.lst y2) = H5 at X5 el2 m2 elh5 ⊢
     clear X4 g1 elh4
     have hfl : (((g nm).h.heard.map (·.n)).map V.int).all flatV = true := List.all_eq_true.mpr fun v hv => by obtain ⟨n, _, rfl⟩ := List.mem_map.mp hv; rfl
     refine ⟨l2, rfl, ⟨_, SqL.ofL el2⟩, _, PFlt H5 (g nm).s.rows fun _ => false, szl (by omega), PFlt.zero, PFlt.step el2 m2 (fun c1 m1 R N hm1 hc1 hR1 hR2 => ?_), fun ys' H6 hP => ?_⟩
     · refine rd_name ⟨_, rfl, c1, _, 0, _, rfl, rfl, SqT.ofT hc1, rfl, _, rfl, lr2, _, rfl, .inl (SqL.ofL elh5), rfl, hfl, _, rfl, ?_⟩
       rw [inV_no (fun z => by
         obtain ⟨y, hy, e⟩ := List.mem_map.mp z
         have := hW.lt y (.inl hy) m1 hm1
         omega)]
       exact iteF (hR2 rfl)
     obtain ⟨hst, rfl, hmf⟩ := PFlt.done (K := K) el2 m2 hP
     have ey : ys' = [] := by
       have := hmf.len
       rw [show List.filter (fun _ => false) (g nm).s.rows = [] from List.filter_eq_nil_iff.mpr fun _ _ => by simp] at this
       exact List.length_eq_zero_iff.mp this
     subst ey
     refine ⟨hst, fun lq nlq => ?_⟩
     have g2 := Same.new (o := .lst []) nlq
     refine ⟨Nat.zero_le _, fun lz nlz => ?_⟩
     have g3 := Same.new (o := .lst []) nlz
     refine ⟨lq, lz, [], rfl, rfl, SqL.ofL (g3 _ _ upd_same), SqL.ofL upd_same, _, rfl, iteF ?_⟩
     have X6 := (X5.same g2).same g3
     have elh6 := (g2.trans g3) _ _ elh5
     generalize upd (upd H5 lq (.lst [])) lz (.lst []) = H6 at X6 elh6 ⊢
     clear X5 elh5 g2 g3 hst hmf hP el2 m2
     obtain ⟨dx, h1⟩ := X6.g.fa.ob
     refine ⟨_, rfl, A.p, dx, _, rfl, h1, nfL, _, rfl, A, l, g, k, all, nm, rfl, X6.g.fa, hnm, _, rfl, _, rfl, lr2, _, rfl, .inl (SqL.ofL elh6), _, _, rfl, rfl, _, rfl, A.p, dx, _, rfl, h1, nfO, _, rfl, A, l, g, k, all, nm, rfl, X6.g.fa, hnm, fun l3 nl3 => ?_⟩
     have g1 := Same.new (o := .lst ((g nm).h.lost.map V.int)) nl3
     refine ⟨l3, _, rfl, .inl (SqL.ofL upd_same), _, _, rfl, rfl, rfl, _, rfl, ite2 (fun z => absurd z ?_) (fun _ => ?_)⟩
     · have hl0 : (g nm).h.lost.length = 0 := by rw [hW.nl]; rfl
       have : lagF all (g nm) = (all.length : Int) - ((((g nm).h.heard.map (·.n)).map V.int).length : Int) - (((g nm).h.lost.map V.int).length : Int) := by
         unfold lagF
         rw [List.length_map, List.length_map, List.length_map]
         omega
       rw [this]
       show ¬ ((!decide (V.int _ = V.int _)) = true)
       rw [decide_eq_true rfl]; decide
     have X7 := X6.same g1
     generalize upd H6 l3 (.lst ((g nm).h.lost.map V.int)) = H7 at X7 ⊢
     obtain ⟨dx, h1⟩ := X7.g.fa.ob
     refine ⟨_, rfl, A.p, dx, _, rfl, h1, nfO, _, rfl, A, l, g, k, all, nm, rfl, X7.g.fa, hnm, fun l4 nl4 => ⟨Nat.zero_le _, fun lz nlz => ?_⟩⟩
     rw [hW.nl] at nlz ⊢
     have g2 := Same.new (o := .lst ([].map V.int)) nl4
     have g3 := Same.new (o := .lst []) nlz
     exact ⟨l4, lz, [], rfl, rfl, SqL.ofL (g3 _ _ upd_same), SqL.ofL upd_same, _, rfl, iteF ⟨_, _, rfl, (X7.same g2).same g3⟩⟩
   rintro σ H13 ⟨o8, o9, rfl, X13⟩
   refine ⟨Nat.zero_le _, fun lrr nlrr => ?_⟩
   have gz := Same.new (o := .lst []) nlrr
   have XX := X13.same gz
   have Y0 : X2 CF CT CR CH (upd H13 lrr (.lst [])) A l g k all ln lrr [] [] := ⟨XX.g, XX.el, XX.no, fun z => (by have := X13.el; rw [z, nlrr] at this; cases this), upd_same, X13.g.fa.free nlrr, rfl, fun i c r h1 => absurd h1 (by simp), fun c hc => absurd hc List.not_mem_nil, fun r hr => absurd hr List.not_mem_nil⟩
   generalize upd H13 lrr (.lst []) = H14 at Y0 ⊢
   clear X13 gz XX nlrr
   refine ⟨_, rfl, ln, rfl, ⟨_, SqL.ofL Y0.el⟩, for_list (K := K) (a := ln) (xs := l.map V.str) (fun i σ H' => ∃ o8 o9 o11 o12 o13 o14 gi cs rows, σ = [some (.ref a), some (.int k), some (.ref A.p), some (.ref ln), some (.int (all.length : Int)), some (.ref lr), some (.int N), some (.ref lw), o8, o9, some (.ref lrr), o11, o12, o13, o14, none] ∧ X2 CF CT CR CH H' A l gi k all ln lrr cs rows ∧ (∀ n ∈ l.drop i, FW all (gi n)) ∧ rows.length ≤ i)
     ⟨_, _, _, _, _, _, g, [], [], rfl, Y0, fun n hn => W12 n (List.mem_of_mem_drop hn), Nat.le_refl _⟩ (fun i σ H' _ ⟨_, _, _, _, _, _, _, _, _, _, h, _⟩ => SqL.ofL h.el) ?_ ?_⟩
   · rintro i x σ H' hi ⟨o8, o9, o11, o12, o13, o14, gi, cs, rows, rfl, X, hWd, hrl⟩
     obtain ⟨nm, hnl, rfl⟩ : ∃ nm, l[i]? = some nm ∧ x = V.str nm := by
       rw [List.getElem?_map] at hi
       cases h : l[i]? with
       | none => rw [h] at hi; cases hi
       | some n => rw [h] at hi; exact ⟨n, rfl, (Option.some.inj hi).symm⟩
     have hnm := List.mem_of_getElem? hnl
     obtain ⟨hil, hnl'⟩ := List.getElem?_eq_some_iff.mp hnl
     have hdr : l.drop i = nm :: l.drop (i + 1) := by rw [List.drop_eq_getElem_cons hil, hnl']
     have hW := hWd nm (by rw [hdr]; exact List.mem_cons_self)
     have hndd : nm ∉ l.drop (i + 1) := by
       have := hnd.sublist (List.drop_sublist i l)
       rw [hdr] at this
       exact (List.nodup_cons.mp this).1
     have hO := hW.fo
     have sz := hO.sizes X.g.rows
     have hnx : (gi nm).h.next = ((gi nm).h.heard.length : Int) + ((gi nm).h.lost.length : Int) + 1 := rfl
     have hsm := hO.sum
     obtain ⟨cw, cnx, chd, cl0, cll⟩ := caught X.g.rows k0 hW
     have csz := (hO.catch (e' := { gi nm with s := { (gi nm).s with cut := false }, h := catchS k all (gi nm).h }) X.g.rows k0 rfl rfl rfl).sizes X.g.rows
     have csz1 : (catchS k all (gi nm).h).heard.length + (catchS k all (gi nm).h).lost.length ≤ all.length := csz.1
     clear csz
     obtain ⟨dx, h1⟩ := X.g.fa.ob
     refine rd_name ⟨_, rfl, A.p, dx, _, rfl, h1, nfH, _, rfl, A, l, gi, k, all, nm, rfl, X.g.fa, hnm, fun lb yb nlb mb => ?_⟩
     have g1 := Same.new (o := .lst yb) nlb
     have nbf := X.g.fa.free nlb
     have X2' := X.same g1
     have elb := upd_same (H := H') (a := lb) (o := .lst yb)
     generalize upd H' lb (.lst yb) = H2 at X2' elb mb ⊢
     clear X g1 nlb
     obtain ⟨dx, h1⟩ := X2'.g.fa.ob
     refine ⟨_, rfl, A.p, dx, _, rfl, h1, nfU, _, rfl, A, l, gi, k, all, nm, rfl, X2'.g.fa, hnm, k0, X2'.g.rows, by omega, X2'.g.ok, hO.hw, sz.2.2, by omega, fun e1 q1 lh1 ys1 fo1 H3 fa3 a1 a2 a3 a4 eh1 st3 oq1 fr1 ol1 eq1 el1 ml1 => ?_⟩
     have hO3 := hO.catch X2'.g.rows k0 a1 a3 a4
     have X3 := X2'.step (X2'.g.upd fa3 hO3) st3
     have elb3 := st3.keep elb nbf
     have nbj := st3.out elb nbf
     have mb3 := mb.step st3
     refine ⟨q1, _, rfl, SqT.ofT eq1, rfl, _, _, rfl, _, _, rfl, rfl, ?_⟩
     rw [← a4] at cw cnx chd cl0 cll csz1 eh1
     have e1h : (updE gi nm e1 nm) = e1 := updE_same
     have hmany : ((catchS k all (gi nm).h).lost.length : Int) - ((gi nm).h.lost.length : Int) = (e1.h.lost.length : Int) := by rw [a4, hW.nl]; simp
     rw [hmany]
     have eo : ∀ n, n ≠ nm → updE gi nm e1 n = gi n := fun n h => updE_ne h
     have hO3' : FO all (updE gi nm e1 nm) := by rw [e1h]; exact hO3
     clear hmany eq1 oq1 fa3 h1
     generalize updE gi nm e1 = gj at X3 ol1 e1h eo hO3' st3 nbj
     subst e1h
     clear hO3
     have hrows : (gj nm).s.rows = (gi nm).s.rows := by rw [a3]
     obtain ⟨dx, h1⟩ := X3.g.fa.ob
     refine ⟨_, rfl, A.p, dx, _, rfl, h1, nfH, _, rfl, A, l, gj, k, all, nm, rfl, X3.g.fa, hnm, fun lc yc nlc mc => ?_⟩
     have g4 := Same.new (o := .lst yc) nlc
     have X4 := X3.same g4
     have elc := upd_same (H := H3) (a := lc) (o := .lst yc)
     have elb4 := g4 _ _ elb3
     have mb4 := mb3.same g4
     have el14 := g4 _ _ el1
     have ml14 := ml1.same g4
     generalize upd H3 lc (.lst yc) = H4 at X4 elc elb4 mb4 el14 ml14 mc ⊢
     clear X3 g4 elb3 mb3 el1 ml1 st3 X2' elb mb
     have okh : ∀ m ∈ (gj nm).h.heard, mOk m := fun m hm => X4.g.ok m (cw.sub m (.inl hm))
     have lyb := mb4.len
     have lys := ml14.len
     have leh := congrArg List.length eh1
     rw [List.length_append] at leh
     refine ⟨_, rfl, _, rfl, lb, lh1, yb, ys1, rfl, rfl, elb4, el14, by rw [sizeLine_eq]; omega, fun ld nld => ?_⟩
     have g5 := Same.new (o := .lst (yb ++ ys1)) nld
     refine ne_ms (g5 _ _ elc) (mc.same g5) upd_same (by rw [eh1]; exact (mb4.append ml14).same g5) okh ⟨_, rfl, iteF ?_⟩
     have X5 := X4.same g5
     have elb5 := g5 _ _ elb4
     have mb5 := mb4.same g5
     have el15 := g5 _ _ el14
     have ml15 := ml14.same g5
     generalize upd H4 ld (.lst (yb ++ ys1)) = H5 at X5 elb5 mb5 el15 ml15 ⊢
     clear X4 g5 elb4 mb4 el14 ml14 elc mc
     obtain ⟨dx, h1⟩ := X5.g.fa.ob
     refine ⟨_, rfl, A.p, dx, _, rfl, h1, nfO, _, rfl, A, l, gj, k, all, nm, rfl, X5.g.fa, hnm, fun le nle => ?_⟩
     have g6 := Same.new (o := .lst ((gj nm).h.lost.map V.int)) nle
     refine ⟨le, _, rfl, .inl (SqL.ofL upd_same), _, rfl, rfl, _, rfl, ite2 (fun z => absurd z ?_) (fun _ => ?_)⟩
     · rw [List.length_map]
       show ¬ ((!decide (V.int _ = V.int _)) = true)
       rw [decide_eq_true rfl]; decide
     have X6 := X5.same g6
     have elb6 := g6 _ _ elb5
     have mb6 := mb5.same g6
     have el16 := g6 _ _ el15
     have ml16 := ml15.same g6
     generalize upd H5 le (.lst ((gj nm).h.lost.map V.int)) = H6 at X6 elb6 mb6 el16 ml16 ⊢
     clear X5 g6 elb5 mb5 el15 ml15
     obtain ⟨dx, h1⟩ := X6.g.fa.ob
     refine ⟨_, rfl, A.p, dx, _, rfl, h1, nfL, _, rfl, A, l, gj, k, all, nm, rfl, X6.g.fa, hnm, rfl, _, rfl, ite2 (fun z => absurd z ?_) (fun _ => ?_)⟩
     · have : lagF all (gj nm) = 0 := by unfold lagF; omega
       rw [this]
       show ¬ ((!decide (V.int _ = V.int _)) = true)
       rw [decide_eq_true rfl]; decide
     refine ⟨_, rfl, A.p, dx, _, rfl, h1, nfH, _, rfl, A, l, gj, k, all, nm, rfl, X6.g.fa, hnm, fun lf yf nlf mf => ?_⟩
     have g7 := Same.new (o := .lst yf) nlf
     have X7 := X6.same g7
     have elf := upd_same (H := H6) (a := lf) (o := .lst yf)
     have elb7 := g7 _ _ elb6
     have mb7 := mb6.same g7
     have el17 := g7 _ _ el16
     have ml17 := ml16.same g7
     generalize upd H6 lf (.lst yf) = H7 at X7 elf elb7 mb7 el17 ml17 mf ⊢
     clear X6 g7 elb6 mb6 el16 ml16
     refine ⟨lf, rfl, ⟨_, SqL.ofL elf⟩, _, PMap H7 (gj nm).h.heard fun m => .int m.n, szl (by omega), PMap.zero, PMap.step elf mf (fun c1 m1 R N hm1 hc1 hR => ?_), fun ys' H8 hP => ?_⟩
     · exact rd_name (rd_yes (iteT ⟨_, rfl, c1, _, 0, _, rfl, rfl, SqT.ofT hc1, rfl, hR⟩))
     obtain ⟨hst, rfl, rfl⟩ := PMap.done (K := K) elf mf hP
     refine ⟨hst, fun lg nlg => ?_⟩
     have erw : (gj nm).h.heard.map (fun m => V.int m.n) = ((gj nm).h.heard.map (·.n)).map V.int := by rw [List.map_map]; rfl
     rw [erw]
     have g8 := Same.new (o := .lst (((gj nm).h.heard.map (·.n)).map V.int)) nlg
     have X8 := X7.same g8
     have elg := upd_same (H := H7) (a := lg) (o := .lst (((gj nm).h.heard.map (·.n)).map V.int))
     have elb8 := g8 _ _ elb7
     have mb8 := mb7.same g8
     have el18 := g8 _ _ el17
     have ml18 := ml17.same g8
     generalize upd H7 lg (.lst (((gj nm).h.heard.map (·.n)).map V.int)) = H8 at X8 elg elb8 mb8 el18 ml18 ⊢
     clear X7 g8 elb7 mb7 el17 ml17 hst elf mf hP
     obtain ⟨dx, h1⟩ := X8.g.fa.ob
     refine ⟨_, rfl, _, rfl, A.p, dx, _, rfl, h1, nfO, _, rfl, A, l, gj, k, all, nm, rfl, X8.g.fa, hnm, fun l2 n2 => ?_⟩
     have g3 := Same.new (o := .lst ((gj nm).h.lost.map V.int)) n2
     refine ⟨lg, l2, _, _, rfl, rfl, g3 _ _ elg, upd_same, by rw [List.length_map, List.length_map, List.length_map, sizeLine_eq]; omega, fun l3 n3 => ?_⟩
     have g4 := Same.new (o := .lst (((gj nm).h.heard.map (·.n)).map V.int ++ (gj nm).h.lost.map V.int)) n3
     refine ⟨_, (gj nm).h.heard.map (·.n) ++ (gj nm).h.lost, rfl, .inl ⟨l3, rfl, SqL.ofL (by rw [List.map_append]; exact upd_same)⟩, by rw [List.length_append, List.length_map]; omega, fun l4 n4 => ?_⟩
     have g5 := Same.new (o := .lst ((W.sortI ((gj nm).h.heard.map (·.n) ++ (gj nm).h.lost)).map V.int)) n4
     have gg := (g3.trans g4).trans g5
     have X9 := X8.same gg
     have el4 := upd_same (H := upd (upd H8 l2 (.lst ((gj nm).h.lost.map V.int))) l3 (.lst (((gj nm).h.heard.map (·.n)).map V.int ++ (gj nm).h.lost.map V.int))) (a := l4) (o := .lst ((W.sortI ((gj nm).h.heard.map (·.n) ++ (gj nm).h.lost)).map V.int))
     have elb9 := gg _ _ elb8
     have mb9 := mb8.same gg
     have el19 := gg _ _ el18
     have ml19 := ml18.same gg
     generalize upd (upd (upd H8 l2 (.lst ((gj nm).h.lost.map V.int))) l3 (.lst (((gj nm).h.heard.map (·.n)).map V.int ++ (gj nm).h.lost.map V.int))) l4 (.lst ((W.sortI ((gj nm).h.heard.map (·.n) ++ (gj nm).h.lost)).map V.int)) = H9 at X9 el4 elb9 mb9 el19 ml19 ⊢
     clear X8 g3 g4 g5 gg elb8 mb8 el18 ml18 elg
     refine ⟨_, rfl, _, _, rfl, rfl, ⟨_, _, rfl, ⟨by omega, by omega, by omega, by omega⟩, fun l5 n5 => ?_⟩⟩
     have g6 := Same.new (o := .rng 1 ((all.length : Int) + 1)) n5
     refine ⟨l5, _, _, rfl, upd_same, ⟨by omega, by omega, by omega, by omega⟩, by omega, fun l6 n6 => ?_⟩
     have g7 := Same.new (o := .lst ((rgs 1 ((all.length : Int) + 1 - 1).toNat).map V.int)) n6
     rw [Hw.all_sorted X9.g.rows cw, cnx] at el4
     refine ne_ints ((g6.trans g7) _ _ el4) upd_same ⟨_, rfl, iteF ?_⟩
     have X10 := X9.same (g6.trans g7)
     have elb10 := (g6.trans g7) _ _ elb9
     have mb10 := mb9.same (g6.trans g7)
     have el110 := (g6.trans g7) _ _ el19
     have ml110 := ml19.same (g6.trans g7)
     generalize upd (upd H9 l5 (.rng 1 ((all.length : Int) + 1))) l6 (.lst ((rgs 1 ((all.length : Int) + 1 - 1).toNat).map V.int)) = H10 at X10 elb10 mb10 el110 ml110 ⊢
     clear X9 g6 g7 elb9 mb9 el19 ml19 el4
     refine tAnd_off (decide ((all.length : Int) ≤ k)) (decide ((0 : Int) < ((gj nm).h.lost.length : Int))) (fun R hR => ⟨_, rfl, _, rfl, _, _, rfl, rfl, _, rfl, hR⟩) (fun R hR => ⟨_, rfl, _, _, rfl, rfl, _, rfl, hR⟩) ?_ (iteF ?_)
     · by_cases z : (all.length : Int) ≤ k
       · rw [cl0 z]; simp
       · rw [decide_eq_false z]; rfl
     obtain ⟨dx, h1⟩ := X10.g.fa.ob
     refine ⟨_, rfl, A.p, dx, _, rfl, h1, nfO, _, rfl, A, l, gj, k, all, nm, rfl, X10.g.fa, hnm, fun l8 n8 => ?_⟩
     have g1 := Same.new (o := .lst ((gj nm).h.lost.map V.int)) n8
     have X11 := X10.same g1
     have el8 := upd_same (H := H10) (a := l8) (o := .lst ((gj nm).h.lost.map V.int))
     have elb11 := g1 _ _ elb10
     have mb11 := mb10.same g1
     have el111 := g1 _ _ el110
     have ml111 := ml110.same g1
     generalize upd H10 l8 (.lst ((gj nm).h.lost.map V.int)) = H11 at X11 el8 elb11 mb11 el111 ml111 ⊢
     clear X10 g1 elb10 mb10 el110 ml110
     refine ⟨l8, rfl, ⟨_, SqL.ofL el8⟩, _, IFlt H11 (gj nm).h.lost (fun _ => false) V.int, szl (by omega), IFlt.zero, IFlt.step el8 (fun n R N hn hR1 hR2 => ?_), fun ys' H12 hP => ?_⟩
     · have hle := cll n hn
       exact rd_name ⟨_, rfl, _, rfl, _, rfl, _, _, rfl, rfl, _, _, rfl, rfl, _, rfl, ite2 (fun z => absurd (of_decide_eq_true z) (by omega)) (fun _ => hR2 rfl)⟩
     obtain ⟨hst, rfl, rfl⟩ := IFlt.done (K := K) el8 hP
     refine ⟨hst, fun lq nlq => ?_⟩
     have eP : ((gj nm).h.lost.filter (fun _ => false)).map V.int = [] := by simp
     rw [eP]
     have g2 := Same.new (o := .lst []) nlq
     refine ⟨Nat.zero_le _, fun lz nlz => ?_⟩
     have g3 := Same.new (o := .lst []) nlz
     refine ⟨lq, lz, [], rfl, rfl, SqL.ofL (g3 _ _ upd_same), SqL.ofL upd_same, _, rfl, iteF ?_⟩
     have X12 := (X11.same g2).same g3
     have elb12 := (g2.trans g3) _ _ elb11
     have mb12 := mb11.same (g2.trans g3)
     have el112 := (g2.trans g3) _ _ el111
     have ml112 := ml111.same (g2.trans g3)
     generalize upd (upd H11 lq (.lst [])) lz (.lst []) = H12 at X12 elb12 mb12 el112 ml112 ⊢
     clear X11 g2 g3 elb11 mb11 el111 ml111 hst hP el8
     obtain ⟨dx, h1⟩ := X12.g.fa.ob
     have cn := X12.g.can (by omega) hnm (99 : Int).toNat
     refine ⟨_, rfl, A.p, dx, _, rfl, h1, nfC, _, rfl, A, l, gj, k, all, nm, 99, rfl, X12.g.fa, hnm, by decide, cn.1, cn.2.1, cn.2.2.1, cn.2.2.2.1, cn.2.2.2.2, fun e2 lh2 ys2 fo2 H13 fa13 b1 b2 b3 b4 eh2 st13 fr2 ol2 el2 ml2 => ?_⟩
     have hO13 := hO3'.carry X12.g.rows b1 b3 b4
     have X13 := X12.step (X12.g.upd fa13 hO13) st13
     have hre : ∀ m ∈ (gj nm).s.rows, m.n < (gj nm).h.next := fun m hm => by
       obtain ⟨i', hi', _, en⟩ := X12.g.rows.at (hO3'.sub m hm)
       omega
     rw [take_known (fun m hm => hre m (List.mem_of_mem_take hm)) chd] at b4
     have hrz : e2.s.rows = [] := by
       rw [b3]
       show (gj nm).s.rows.drop 99 = []
       exact List.drop_of_length_le (by have := hO3'.sum; omega)
     have elb13 := st13.keep elb12 nbj
     have mb13 := mb12.step st13
     have el113 := st13.keep el112 ol1
     have ml113 := ml112.step st13
     have e2h : (updE gj nm e2 nm) = e2 := updE_same
     have eo2 : ∀ n, n ≠ nm → updE gj nm e2 n = gi n := fun n h => (updE_ne h).trans (eo n h)
     clear fa13 h1 cn st13
     generalize updE gj nm e2 = gk at X13 e2h eo2
     subst e2h
     rw [← b4] at eh1 okh cw csz1
     have leh2 : (gk nm).h.heard.length = (gj nm).h.heard.length := by rw [b4]
     clear X12 elb12 mb12 el112 ml112
     obtain ⟨dx, h1⟩ := X13.g.fa.ob
     refine ⟨_, rfl, A.p, dx, _, rfl, h1, nfH, _, rfl, A, l, gk, k, all, nm, rfl, X13.g.fa, hnm, fun lc yc nlc mc => ?_⟩
     have g4 := Same.new (o := .lst yc) nlc
     have X14 := X13.same g4
     have elc := upd_same (H := H13) (a := lc) (o := .lst yc)
     have elb14 := g4 _ _ elb13
     have mb14 := mb13.same g4
     have el114 := g4 _ _ el113
     have ml114 := ml113.same g4
     generalize upd H13 lc (.lst yc) = H14' at X14 elc elb14 mb14 el114 ml114 mc ⊢
     clear X13 g4 elb13 mb13 el113 ml113
     refine ⟨_, rfl, _, rfl, lb, lh1, yb, ys1, rfl, rfl, elb14, el114, by rw [sizeLine_eq]; omega, fun ld nld => ?_⟩
     have g5 := Same.new (o := .lst (yb ++ ys1)) nld
     refine ne_ms (g5 _ _ elc) (mc.same g5) upd_same (by rw [eh1]; exact (mb14.append ml114).same g5) okh ⟨_, rfl, iteF ?_⟩
     have X15 := X14.same g5
     generalize upd H14' ld (.lst (yb ++ ys1)) = H15 at X15 ⊢
     clear X14 g5 elb14 mb14 el114 ml114 elc mc
     obtain ⟨dx, h1⟩ := X15.g.fa.ob
     refine ⟨_, rfl, A.p, dx, _, rfl, h1, nfW, _, rfl, A, l, gk, k, all, nm, rfl, X15.g.fa, hnm, fun lw2 yw nlw2 mw => ⟨Nat.zero_le _, fun lz nlz => ?_⟩⟩
     rw [hrz] at mw
     have eyw : yw = [] := List.length_eq_zero_iff.mp mw.len
     subst eyw
     have g6 := Same.new (o := .lst []) nlw2
     have g7 := Same.new (o := .lst []) nlz
     refine ⟨lw2, lz, [], rfl, rfl, SqL.ofL (g7 _ _ upd_same), SqL.ofL upd_same, _, rfl, iteF ?_⟩
     have X16 := (X15.same g6).same g7
     generalize upd (upd H15 lw2 (.lst [])) lz (.lst []) = H16 at X16 ⊢
     clear X15 g6 g7 mw
     obtain ⟨dx, h1⟩ := X16.g.fa.ob
     refine ⟨_, rfl, .inl ⟨rfl, _, SqL.ofL X16.er⟩, _, rfl, A.p, dx, _, rfl, h1, nfH, _, rfl, A, l, gk, k, all, nm, rfl, X16.g.fa, hnm, fun lx yx nlx mx => ?_⟩
     have g8 := Same.new (o := .lst yx) nlx
     have X17 := X16.same g8
     have nlxr : lx ≠ lrr := fun z => by have := X16.er; rw [← z, nlx] at this; cases this
     refine ⟨lrr, _, _, rfl, rfl, X17.er, by rw [List.length_map, X17.cl, sizeLine_eq]; omega, ?_⟩
     have X18 := X17.app upd_same mx (X16.g.fa.free nlx) nlxr ⟨fun m hm => cw.sub m (.inl hm), by omega⟩
     refine ⟨_, _, _, _, _, _, gk, _, _, rfl, X18, fun n hn => ?_, by rw [List.length_append]; show _ + 1 ≤ _; omega⟩
     have hne : n ≠ nm := fun z => hndd (z ▸ hn)
     rw [eo2 n hne]
     exact hWd n (by rw [hdr]; exact List.mem_cons_of_mem _ hn)
   rintro σ H15 ⟨o8', o9', o11, o12, o13, o14, gi, cs, rows, rfl, X15, _, hrl⟩
   rw [List.length_map] at hrl
   refine ⟨Nat.zero_le _, fun le nle => ?_⟩
   have gz := Same.new (o := .lst []) nle
   have X16 := X15.same gz
   have ele := upd_same (H := H15) (a := le) (o := .lst [])
   generalize upd H15 le (.lst []) = H16 at X16 ele ⊢
   clear X15 gz nle
   have hflat : ∀ i, ((rows.take i).flatten).length ≤ 9 * i ∧ ∀ m ∈ (rows.take i).flatten, m ∈ all := fun i => by
     have hr := X16.rl
     clear X16
     induction i generalizing rows with
     | zero => exact ⟨by simp, fun m hm => by simp at hm⟩
     | succ i ih =>
       cases rows with
       | nil => exact ⟨by simp, fun m hm => by simp at hm⟩
       | cons r rows =>
         have h0 := hr r List.mem_cons_self
         have h1 := ih rows (by rw [List.length_cons] at hrl; omega) (fun x hx => hr x (List.mem_cons_of_mem _ hx))
         rw [List.take_succ_cons, List.flatten_cons]
         refine ⟨by rw [List.length_append]; omega, fun m hm => ?_⟩
         rcases List.mem_append.mp hm with z | z
         · exact h0.1 m z
         · exact h1.2 m z
   refine ⟨_, rfl, lrr, rfl, ⟨_, SqL.ofL X16.er⟩, for_list (K := K) (a := lrr) (xs := cs.map V.ref) (fun i σ H' => ∃ o9 le ye, σ = [some (.ref a), some (.int k), some (.ref A.p), some (.ref ln), some (.int (all.length : Int)), some (.ref lr), some (.int N), some (.ref lw), o8', o9, some (.ref lrr), o11, o12, o13, o14, some (.ref le)] ∧ X2 CF CT CR CH H' A l gi k all ln lrr cs rows ∧ H' le = some (.lst ye) ∧ Ms H' ye (rows.take i).flatten)
     ⟨_, le, [], rfl, X16, ele, Ms.nil⟩ (fun i σ H' _ ⟨_, _, _, _, h, _⟩ => SqL.ofL h.er) ?_ ?_⟩
   · rintro i x σ H' hi ⟨o9, le', ye, rfl, X, el', mye⟩
     obtain ⟨c, hc, rfl⟩ : ∃ c, cs[i]? = some c ∧ x = V.ref c := by
       rw [List.getElem?_map] at hi
       cases h : cs[i]? with
       | none => rw [h] at hi; cases hi
       | some n => rw [h] at hi; exact ⟨n, rfl, (Option.some.inj hi).symm⟩
     have hic := (List.getElem?_eq_some_iff.mp hc).1
     have hir : i < rows.length := by rw [← X.cl]; exact hic
     obtain ⟨ys, ec, mc⟩ := X.at' i c rows[i] hc (List.getElem?_eq_getElem hir)
     have l1 := (hflat i).1
     have l2 := (X.rl _ (List.getElem_mem hir)).2
     have l3 := mye.len
     have l4 := mc.len
     refine rd_name ⟨_, rfl, _, rfl, le', c, ye, ys, rfl, rfl, el', ec, by rw [sizeLine_eq]; omega, fun ld nld => ?_⟩
     have g1 := Same.new (o := .lst (ye ++ ys)) nld
     refine ⟨_, ld, ye ++ ys, rfl, X.same g1, upd_same, ?_⟩
     rw [List.take_add_one, List.getElem?_eq_getElem hir, List.flatten_append]
     show Ms _ _ (_ ++ (rows[i] ++ []))
     rw [List.append_nil]
     exact (mye.append mc).same g1
   rintro σ H17 ⟨o9, le', ye, rfl, X, el', mye⟩
   have hfl := hflat rows.length
   rw [List.length_map, X.cl] at mye
   rw [List.take_length] at mye hfl
   have hR := X.g.rows
   generalize rows.flatten = ev at mye hfl
   clear X hflat X16 ele
   obtain ⟨xs, ex1, ex2, ex3⟩ := ms_pairs mye
   refine ⟨_, rfl, le', xs, all, rfl, SqL.ofL (by rw [← ex2]; exact el'), ex3, fun p hp => hfl.2 _ (by rw [← ex1]; exact List.mem_map.mpr ⟨p, hp, rfl⟩), by omega, fun sp nsp => ?_⟩
   have g1 := Same.new (o := SetU P w sp (xs.map (·.1))) nsp
   refine ⟨sp, _, rfl, upd_same, fun ds hd1 hd2 => ?_⟩
   rw [ex1] at hd2 g1 ⊢
   have el2 := g1 _ _ el'
   have mye2 := mye.same g1
   generalize upd H17 sp (SetU P w sp ev) = H18 at el2 mye2 ⊢
   refine ⟨_, rfl, le', rfl, ⟨_, SqL.ofL el2⟩, _, PMap H18 ev fun m => .int m.n, szl (by omega), PMap.zero, PMap.step el2 mye2 (fun c1 m1 R N hm1 hc1 hR => ?_), fun ys' H19 hP => ?_⟩
   · exact rd_name (rd_yes (iteT ⟨_, rfl, c1, _, 0, _, rfl, rfl, SqT.ofT hc1, rfl, hR⟩))
   obtain ⟨hst, rfl, rfl⟩ := PMap.done (K := K) el2 mye2 hP
   refine ⟨hst, fun lk nlk => ?_⟩
   have hks : (ev.map fun m => V.int m.n) = ((ev.map (·.n)).map Sum.inl : List Key).map kV := by rw [List.map_map, List.map_map]; rfl
   refine ⟨lk, (ev.map (·.n)).map Sum.inl, rfl, SqL.ofL (by rw [← hks]; exact upd_same), by rw [List.length_map, List.length_map]; omega, fun s2 ns2 => ?_⟩
   refine ⟨s2, _, rfl, upd_same, fun ks hk1 hk2 => ?_⟩
   have := ds_len hR hfl.2 hd1 hd2 hk1 hk2
   refine ⟨rfl, ?_⟩
   show Q (V.bl (decide (V.int (ds.length : Int) = V.int (ks.length : Int)))) _
   rw [this, decide_eq_true rfl]
   exact q _
end
end K41
namespace K41
open PySem L2
theorem all_mk {l : W.OpenLaw} {w : World} {K : W.Frag} {h : Heap} {mg : Str → Option Value} {fa f0 f1 f2 f3 f4 f5 f6 f7 f8 f9 f10 f11 f12 f13 f14 f15 f16 f17 f18 f19 f20 f21 f22 f23 f24 f25 f26 f27 f28 f29 f30 f31 f32 f33 f34 f35 f36 f37 f38 f39 f40 f41 f42 C_Fan C_Teller C_Road C_Hearer : Addr} (X : K.In h) (G : h.Ns mainGlobals mg) (hfa : mg "law" = some (.ref fa))
   {od0 an0 od1 an1 od2 an2 od3 an3 od4 an4 od5 an5 od6 an6 od7 an7 od8 an8 od9 an9 od10 an10 od11 an11 od12 an12 od13 an13 od14 an14 od15 an15 od16 an16 od17 an17 od18 an18 od19 an19 od20 an20 od21 an21 od22 an22 od23 an23 od24 an24 od25 an25 od26 an26 od27 an27 od28 an28 od29 an29 od30 an30 od31 an31 od32 an32 od33 an33 od34 an34 od35 an35 od36 an36 od37 an37 od38 an38 od39 an39 od40 an40 od41 an41 od42 an42 : Option Addr} {sl0 sl1 sl2 sl3 sl4 sl5 sl6 sl7 sl8 sl9 sl10 sl11 sl12 sl13 sl14 sl15 sl16 sl17 sl18 sl19 sl20 sl21 sl22 sl23 sl24 sl25 sl26 sl27 sl28 sl29 sl30 sl31 sl32 sl33 sl34 sl35 sl36 sl37 sl38 sl39 sl40 sl41 sl42 : Array (Option Value)} {oc0 kV0 dc0 pm0 cd0 ct0 oc1 kV1 dc1 pm1 cd1 ct1 oc2 kV2 dc2 pm2 cd2 ct2 oc3 kV3 dc3 pm3 cd3 ct3 oc4 kV4 dc4 pm4 cd4 ct4 oc5 kV5 dc5 pm5 cd5 ct5 oc6 kV6 dc6 pm6 cd6 ct6 oc7 kV7 dc7 pm7 cd7 ct7 oc8 kV8 dc8 pm8 cd8 ct8 oc9 kV9 dc9 pm9 cd9 ct9 oc10 kV10 dc10 pm10 cd10 ct10 oc11 kV11 dc11 pm11 cd11 ct11 oc12 kV12 dc12 pm12 cd12 ct12 oc13 kV13 dc13 pm13 cd13 ct13 oc14 kV14 dc14 pm14 cd14 ct14 oc15 kV15 dc15 pm15 cd15 ct15 oc16 kV16 dc16 pm16 cd16 ct16 oc17 kV17 dc17 pm17 cd17 ct17 oc18 kV18 dc18 pm18 cd18 ct18 oc19 kV19 dc19 pm19 cd19 ct19 oc20 kV20 dc20 pm20 cd20 ct20 oc21 kV21 dc21 pm21 cd21 ct21 oc22 kV22 dc22 pm22 cd22 ct22 oc23 kV23 dc23 pm23 cd23 ct23 oc24 kV24 dc24 pm24 cd24 ct24 oc25 kV25 dc25 pm25 cd25 ct25 oc26 kV26 dc26 pm26 cd26 ct26 oc27 kV27 dc27 pm27 cd27 ct27 oc28 kV28 dc28 pm28 cd28 ct28 oc29 kV29 dc29 pm29 cd29 ct29 oc30 kV30 dc30 pm30 cd30 ct30 oc31 kV31 dc31 pm31 cd31 ct31 oc32 kV32 dc32 pm32 cd32 ct32 oc33 kV33 dc33 pm33 cd33 ct33 oc34 kV34 dc34 pm34 cd34 ct34 oc35 kV35 dc35 pm35 cd35 ct35 oc36 kV36 dc36 pm36 cd36 ct36 oc37 kV37 dc37 pm37 cd37 ct37 oc38 kV38 dc38 pm38 cd38 ct38 oc39 kV39 dc39 pm39 cd39 ct39 oc40 kV40 dc40 pm40 cd40 ct40 oc41 kV41 dc41 pm41 cd41 ct41 oc42 kV42 dc42 pm42 cd42 ct42 : Value}
   (aC_Fan : W.nsIn K mainGlobals "Fan" = some (some (.ref C_Fan)))
   (pg_Fan : W.plainGet K C_Fan Str.empty = true)
   (hd_Fan : W.hasDictIn K C_Fan = true)
   (po_Fan : W.plainOver K C_Fan = true)
   (sa_Fan : W.findIn K (.ref C_Fan) "__setattr__" = some (some (.builtin "object.__setattr__")))
   (mk_Fan : W.makesIn K C_Fan = true)
   (kc_Fan : W.keepIn K (.ref C_Fan) = true)
   (n_Fan_teller : W.findIn K (.ref C_Fan) "teller" = some none)
   (n_Fan_roads : W.findIn K (.ref C_Fan) "roads" = some none)
   (n_Fan_hearers : W.findIn K (.ref C_Fan) "hearers" = some none)
   (aC_Teller : W.nsIn K mainGlobals "Teller" = some (some (.ref C_Teller)))
   (pg_Teller : W.plainGet K C_Teller Str.empty = true)
   (hd_Teller : W.hasDictIn K C_Teller = true)
   (po_Teller : W.plainOver K C_Teller = true)
   (sa_Teller : W.findIn K (.ref C_Teller) "__setattr__" = some (some (.builtin "object.__setattr__")))
   (mk_Teller : W.makesIn K C_Teller = true)
   (kc_Teller : W.keepIn K (.ref C_Teller) = true)
   (n_Teller_keep : W.findIn K (.ref C_Teller) "keep" = some none)
   (n_Teller_turn : W.findIn K (.ref C_Teller) "turn" = some none)
   (n_Teller_total : W.findIn K (.ref C_Teller) "total" = some none)
   (n_Teller_stored : W.findIn K (.ref C_Teller) "stored" = some none)
   (n_Teller_newest : W.findIn K (.ref C_Teller) "newest" = some none)
   (aC_Road : W.nsIn K mainGlobals "Road" = some (some (.ref C_Road)))
   (pg_Road : W.plainGet K C_Road Str.empty = true)
   (hd_Road : W.hasDictIn K C_Road = true)
   (po_Road : W.plainOver K C_Road = true)
   (sa_Road : W.findIn K (.ref C_Road) "__setattr__" = some (some (.builtin "object.__setattr__")))
   (mk_Road : W.makesIn K C_Road = true)
   (kc_Road : W.keepIn K (.ref C_Road) = true)
   (n_Road_size : W.findIn K (.ref C_Road) "size" = some none)
   (n_Road_way : W.findIn K (.ref C_Road) "way" = some none)
   (n_Road_row : W.findIn K (.ref C_Road) "row" = some none)
   (n_Road_dropped : W.findIn K (.ref C_Road) "dropped" = some none)
   (n_Road_broken : W.findIn K (.ref C_Road) "broken" = some none)
   (aC_Hearer : W.nsIn K mainGlobals "Hearer" = some (some (.ref C_Hearer)))
   (pg_Hearer : W.plainGet K C_Hearer Str.empty = true)
   (hd_Hearer : W.hasDictIn K C_Hearer = true)
   (po_Hearer : W.plainOver K C_Hearer = true)
   (sa_Hearer : W.findIn K (.ref C_Hearer) "__setattr__" = some (some (.builtin "object.__setattr__")))
   (mk_Hearer : W.makesIn K C_Hearer = true)
   (kc_Hearer : W.keepIn K (.ref C_Hearer) = true)
   (n_Hearer_next_number : W.findIn K (.ref C_Hearer) "next_number" = some none)
   (n_Hearer_past : W.findIn K (.ref C_Hearer) "past" = some none)
   (n_Hearer_held : W.findIn K (.ref C_Hearer) "held" = some none)
   (n_Hearer_known : W.findIn K (.ref C_Hearer) "known" = some none)
   (n_Hearer_given_up : W.findIn K (.ref C_Hearer) "given_up" = some none)
   (a0 : W.nsIn K mainGlobals "number_of" = some (some (.ref f0)))
   (l0 : K.lookup f0 = some ⟨oc0, od0, .func (W.fnOf "number_of" "number_of" (defArgs s_number_of) (defBody s_number_of) (defScope s_number_of) .none kV0 dc0 pm0 an0 cd0 ct0), sl0⟩)
   (c0 : W.codeIn K cd0 "number_of" = true)
   (k0 : W.keepIn K (.ref f0) = true)
   (a1 : W.nsIn K mainGlobals "topic_of" = some (some (.ref f1)))
   (l1 : K.lookup f1 = some ⟨oc1, od1, .func (W.fnOf "topic_of" "topic_of" (defArgs s_topic_of) (defBody s_topic_of) (defScope s_topic_of) .none kV1 dc1 pm1 an1 cd1 ct1), sl1⟩)
   (c1 : W.codeIn K cd1 "topic_of" = true)
   (k1 : W.keepIn K (.ref f1) = true)
   (a2 : W.nsIn K mainGlobals "of_topics" = some (some (.ref f2)))
   (l2 : K.lookup f2 = some ⟨oc2, od2, .func (W.fnOf "of_topics" "of_topics" (defArgs s_of_topics) (defBody s_of_topics) (defScope s_of_topics) .none kV2 dc2 pm2 an2 cd2 ct2), sl2⟩)
   (c2 : W.codeIn K cd2 "of_topics" = true)
   (k2 : W.keepIn K (.ref f2) = true)
   (a3 : W.nsIn K mainGlobals "with_greater_numbers" = some (some (.ref f3)))
   (l3 : K.lookup f3 = some ⟨oc3, od3, .func (W.fnOf "with_greater_numbers" "with_greater_numbers" (defArgs s_with_greater_numbers) (defBody s_with_greater_numbers) (defScope s_with_greater_numbers) .none kV3 dc3 pm3 an3 cd3 ct3), sl3⟩)
   (c3 : W.codeIn K cd3 "with_greater_numbers" = true)
   (k3 : W.keepIn K (.ref f3) = true)
   (a4 : W.findIn K (.ref C_Teller) "__init__" = some (some (.ref f4)))
   (i4 : W.isFn K (.ref f4) = true)
   (l4 : K.lookup f4 = some ⟨oc4, od4, .func (W.fnOf "__init__" "Teller.__init__" (defArgs s_Teller___init__) (defBody s_Teller___init__) (defScope s_Teller___init__) .none kV4 dc4 pm4 an4 cd4 ct4), sl4⟩)
   (c4 : W.codeIn K cd4 "Teller.__init__" = true)
   (k4 : W.keepIn K (.ref f4) = true)
   (a5 : W.findIn K (.ref C_Teller) "tell" = some (some (.ref f5)))
   (i5 : W.isFn K (.ref f5) = true)
   (l5 : K.lookup f5 = some ⟨oc5, od5, .func (W.fnOf "tell" "Teller.tell" (defArgs s_Teller_tell) (defBody s_Teller_tell) (defScope s_Teller_tell) .none kV5 dc5 pm5 an5 cd5 ct5), sl5⟩)
   (c5 : W.codeIn K cd5 "Teller.tell" = true)
   (k5 : W.keepIn K (.ref f5) = true)
   (a6 : W.findIn K (.ref C_Teller) "told" = some (some (.ref f6)))
   (i6 : W.isFn K (.ref f6) = true)
   (l6 : K.lookup f6 = some ⟨oc6, od6, .func (W.fnOf "told" "Teller.told" (defArgs s_Teller_told) (defBody s_Teller_told) (defScope s_Teller_told) .none kV6 dc6 pm6 an6 cd6 ct6), sl6⟩)
   (c6 : W.codeIn K cd6 "Teller.told" = true)
   (k6 : W.keepIn K (.ref f6) = true)
   (a7 : W.findIn K (.ref C_Teller) "oldest" = some (some (.ref f7)))
   (i7 : W.isFn K (.ref f7) = true)
   (l7 : K.lookup f7 = some ⟨oc7, od7, .func (W.fnOf "oldest" "Teller.oldest" (defArgs s_Teller_oldest) (defBody s_Teller_oldest) (defScope s_Teller_oldest) .none kV7 dc7 pm7 an7 cd7 ct7), sl7⟩)
   (c7 : W.codeIn K cd7 "Teller.oldest" = true)
   (k7 : W.keepIn K (.ref f7) = true)
   (a8 : W.findIn K (.ref C_Teller) "behind" = some (some (.ref f8)))
   (i8 : W.isFn K (.ref f8) = true)
   (l8 : K.lookup f8 = some ⟨oc8, od8, .func (W.fnOf "behind" "Teller.behind" (defArgs s_Teller_behind) (defBody s_Teller_behind) (defScope s_Teller_behind) .none kV8 dc8 pm8 an8 cd8 ct8), sl8⟩)
   (c8 : W.codeIn K cd8 "Teller.behind" = true)
   (k8 : W.keepIn K (.ref f8) = true)
   (a9 : W.findIn K (.ref C_Road) "__init__" = some (some (.ref f9)))
   (i9 : W.isFn K (.ref f9) = true)
   (l9 : K.lookup f9 = some ⟨oc9, od9, .func (W.fnOf "__init__" "Road.__init__" (defArgs s_Road___init__) (defBody s_Road___init__) (defScope s_Road___init__) .none kV9 dc9 pm9 an9 cd9 ct9), sl9⟩)
   (c9 : W.codeIn K cd9 "Road.__init__" = true)
   (k9 : W.keepIn K (.ref f9) = true)
   (a10 : W.findIn K (.ref C_Road) "leave_out" = some (some (.ref f10)))
   (i10 : W.isFn K (.ref f10) = true)
   (l10 : K.lookup f10 = some ⟨oc10, od10, .func (W.fnOf "leave_out" "Road.leave_out" (defArgs s_Road_leave_out) (defBody s_Road_leave_out) (defScope s_Road_leave_out) .none kV10 dc10 pm10 an10 cd10 ct10), sl10⟩)
   (c10 : W.codeIn K cd10 "Road.leave_out" = true)
   (k10 : W.keepIn K (.ref f10) = true)
   (a11 : W.findIn K (.ref C_Road) "put_without_room" = some (some (.ref f11)))
   (i11 : W.isFn K (.ref f11) = true)
   (l11 : K.lookup f11 = some ⟨oc11, od11, .func (W.fnOf "put_without_room" "Road.put_without_room" (defArgs s_Road_put_without_room) (defBody s_Road_put_without_room) (defScope s_Road_put_without_room) .none kV11 dc11 pm11 an11 cd11 ct11), sl11⟩)
   (c11 : W.codeIn K cd11 "Road.put_without_room" = true)
   (k11 : W.keepIn K (.ref f11) = true)
   (a12 : W.findIn K (.ref C_Road) "put" = some (some (.ref f12)))
   (i12 : W.isFn K (.ref f12) = true)
   (l12 : K.lookup f12 = some ⟨oc12, od12, .func (W.fnOf "put" "Road.put" (defArgs s_Road_put) (defBody s_Road_put) (defScope s_Road_put) .none kV12 dc12 pm12 an12 cd12 ct12), sl12⟩)
   (c12 : W.codeIn K cd12 "Road.put" = true)
   (k12 : W.keepIn K (.ref f12) = true)
   (a13 : W.findIn K (.ref C_Road) "take" = some (some (.ref f13)))
   (i13 : W.isFn K (.ref f13) = true)
   (l13 : K.lookup f13 = some ⟨oc13, od13, .func (W.fnOf "take" "Road.take" (defArgs s_Road_take) (defBody s_Road_take) (defScope s_Road_take) .none kV13 dc13 pm13 an13 cd13 ct13), sl13⟩)
   (c13 : W.codeIn K cd13 "Road.take" = true)
   (k13 : W.keepIn K (.ref f13) = true)
   (a14 : W.findIn K (.ref C_Road) "waiting" = some (some (.ref f14)))
   (i14 : W.isFn K (.ref f14) = true)
   (l14 : K.lookup f14 = some ⟨oc14, od14, .func (W.fnOf "waiting" "Road.waiting" (defArgs s_Road_waiting) (defBody s_Road_waiting) (defScope s_Road_waiting) .none kV14 dc14 pm14 an14 cd14 ct14), sl14⟩)
   (c14 : W.codeIn K cd14 "Road.waiting" = true)
   (k14 : W.keepIn K (.ref f14) = true)
   (a15 : W.findIn K (.ref C_Road) "mend" = some (some (.ref f15)))
   (i15 : W.isFn K (.ref f15) = true)
   (l15 : K.lookup f15 = some ⟨oc15, od15, .func (W.fnOf "mend" "Road.mend" (defArgs s_Road_mend) (defBody s_Road_mend) (defScope s_Road_mend) .none kV15 dc15 pm15 an15 cd15 ct15), sl15⟩)
   (c15 : W.codeIn K cd15 "Road.mend" = true)
   (k15 : W.keepIn K (.ref f15) = true)
   (a16 : W.findIn K (.ref C_Hearer) "__init__" = some (some (.ref f16)))
   (i16 : W.isFn K (.ref f16) = true)
   (l16 : K.lookup f16 = some ⟨oc16, od16, .func (W.fnOf "__init__" "Hearer.__init__" (defArgs s_Hearer___init__) (defBody s_Hearer___init__) (defScope s_Hearer___init__) .none kV16 dc16 pm16 an16 cd16 ct16), sl16⟩)
   (c16 : W.codeIn K cd16 "Hearer.__init__" = true)
   (k16 : W.keepIn K (.ref f16) = true)
   (a17 : W.findIn K (.ref C_Hearer) "expects" = some (some (.ref f17)))
   (i17 : W.isFn K (.ref f17) = true)
   (l17 : K.lookup f17 = some ⟨oc17, od17, .func (W.fnOf "expects" "Hearer.expects" (defArgs s_Hearer_expects) (defBody s_Hearer_expects) (defScope s_Hearer_expects) .none kV17 dc17 pm17 an17 cd17 ct17), sl17⟩)
   (c17 : W.codeIn K cd17 "Hearer.expects" = true)
   (k17 : W.keepIn K (.ref f17) = true)
   (a18 : W.findIn K (.ref C_Hearer) "hear_held" = some (some (.ref f18)))
   (i18 : W.isFn K (.ref f18) = true)
   (l18 : K.lookup f18 = some ⟨oc18, od18, .func (W.fnOf "hear_held" "Hearer.hear_held" (defArgs s_Hearer_hear_held) (defBody s_Hearer_hear_held) (defScope s_Hearer_hear_held) .none kV18 dc18 pm18 an18 cd18 ct18), sl18⟩)
   (c18 : W.codeIn K cd18 "Hearer.hear_held" = true)
   (k18 : W.keepIn K (.ref f18) = true)
   (a19 : W.findIn K (.ref C_Hearer) "refuse_others" = some (some (.ref f19)))
   (i19 : W.isFn K (.ref f19) = true)
   (l19 : K.lookup f19 = some ⟨oc19, od19, .func (W.fnOf "refuse_others" "Hearer.refuse_others" (defArgs s_Hearer_refuse_others) (defBody s_Hearer_refuse_others) (defScope s_Hearer_refuse_others) .none kV19 dc19 pm19 an19 cd19 ct19), sl19⟩)
   (c19 : W.codeIn K cd19 "Hearer.refuse_others" = true)
   (k19 : W.keepIn K (.ref f19) = true)
   (a20 : W.findIn K (.ref C_Hearer) "take_all" = some (some (.ref f20)))
   (i20 : W.isFn K (.ref f20) = true)
   (l20 : K.lookup f20 = some ⟨oc20, od20, .func (W.fnOf "take_all" "Hearer.take_all" (defArgs s_Hearer_take_all) (defBody s_Hearer_take_all) (defScope s_Hearer_take_all) .none kV20 dc20 pm20 an20 cd20 ct20), sl20⟩)
   (c20 : W.codeIn K cd20 "Hearer.take_all" = true)
   (k20 : W.keepIn K (.ref f20) = true)
   (a21 : W.findIn K (.ref C_Hearer) "heard" = some (some (.ref f21)))
   (i21 : W.isFn K (.ref f21) = true)
   (l21 : K.lookup f21 = some ⟨oc21, od21, .func (W.fnOf "heard" "Hearer.heard" (defArgs s_Hearer_heard) (defBody s_Hearer_heard) (defScope s_Hearer_heard) .none kV21 dc21 pm21 an21 cd21 ct21), sl21⟩)
   (c21 : W.codeIn K cd21 "Hearer.heard" = true)
   (k21 : W.keepIn K (.ref f21) = true)
   (a22 : W.findIn K (.ref C_Hearer) "lost" = some (some (.ref f22)))
   (i22 : W.isFn K (.ref f22) = true)
   (l22 : K.lookup f22 = some ⟨oc22, od22, .func (W.fnOf "lost" "Hearer.lost" (defArgs s_Hearer_lost) (defBody s_Hearer_lost) (defScope s_Hearer_lost) .none kV22 dc22 pm22 an22 cd22 ct22), sl22⟩)
   (c22 : W.codeIn K cd22 "Hearer.lost" = true)
   (k22 : W.keepIn K (.ref f22) = true)
   (a23 : W.findIn K (.ref C_Hearer) "give_up" = some (some (.ref f23)))
   (i23 : W.isFn K (.ref f23) = true)
   (l23 : K.lookup f23 = some ⟨oc23, od23, .func (W.fnOf "give_up" "Hearer.give_up" (defArgs s_Hearer_give_up) (defBody s_Hearer_give_up) (defScope s_Hearer_give_up) .none kV23 dc23 pm23 an23 cd23 ct23), sl23⟩)
   (c23 : W.codeIn K cd23 "Hearer.give_up" = true)
   (k23 : W.keepIn K (.ref f23) = true)
   (a24 : W.nsIn K mainGlobals "caught_up" = some (some (.ref f24)))
   (l24 : K.lookup f24 = some ⟨oc24, od24, .func (W.fnOf "caught_up" "caught_up" (defArgs s_caught_up) (defBody s_caught_up) (defScope s_caught_up) .none kV24 dc24 pm24 an24 cd24 ct24), sl24⟩)
   (c24 : W.codeIn K cd24 "caught_up" = true)
   (k24 : W.keepIn K (.ref f24) = true)
   (a25 : W.findIn K (.ref C_Fan) "__init__" = some (some (.ref f25)))
   (i25 : W.isFn K (.ref f25) = true)
   (l25 : K.lookup f25 = some ⟨oc25, od25, .func (W.fnOf "__init__" "Fan.__init__" (defArgs s_Fan___init__) (defBody s_Fan___init__) (defScope s_Fan___init__) .none kV25 dc25 pm25 an25 cd25 ct25), sl25⟩)
   (c25 : W.codeIn K cd25 "Fan.__init__" = true)
   (k25 : W.keepIn K (.ref f25) = true)
   (a26 : W.findIn K (.ref C_Fan) "lay" = some (some (.ref f26)))
   (i26 : W.isFn K (.ref f26) = true)
   (l26 : K.lookup f26 = some ⟨oc26, od26, .func (W.fnOf "lay" "Fan.lay" (defArgs s_Fan_lay) (defBody s_Fan_lay) (defScope s_Fan_lay) .none kV26 dc26 pm26 an26 cd26 ct26), sl26⟩)
   (c26 : W.codeIn K cd26 "Fan.lay" = true)
   (k26 : W.keepIn K (.ref f26) = true)
   (a27 : W.findIn K (.ref C_Fan) "refuse_unknown" = some (some (.ref f27)))
   (i27 : W.isFn K (.ref f27) = true)
   (l27 : K.lookup f27 = some ⟨oc27, od27, .func (W.fnOf "refuse_unknown" "Fan.refuse_unknown" (defArgs s_Fan_refuse_unknown) (defBody s_Fan_refuse_unknown) (defScope s_Fan_refuse_unknown) .none kV27 dc27 pm27 an27 cd27 ct27), sl27⟩)
   (c27 : W.codeIn K cd27 "Fan.refuse_unknown" = true)
   (k27 : W.keepIn K (.ref f27) = true)
   (a28 : W.findIn K (.ref C_Fan) "road_of" = some (some (.ref f28)))
   (i28 : W.isFn K (.ref f28) = true)
   (l28 : K.lookup f28 = some ⟨oc28, od28, .func (W.fnOf "road_of" "Fan.road_of" (defArgs s_Fan_road_of) (defBody s_Fan_road_of) (defScope s_Fan_road_of) .none kV28 dc28 pm28 an28 cd28 ct28), sl28⟩)
   (c28 : W.codeIn K cd28 "Fan.road_of" = true)
   (k28 : W.keepIn K (.ref f28) = true)
   (a29 : W.findIn K (.ref C_Fan) "hearer_of" = some (some (.ref f29)))
   (i29 : W.isFn K (.ref f29) = true)
   (l29 : K.lookup f29 = some ⟨oc29, od29, .func (W.fnOf "hearer_of" "Fan.hearer_of" (defArgs s_Fan_hearer_of) (defBody s_Fan_hearer_of) (defScope s_Fan_hearer_of) .none kV29 dc29 pm29 an29 cd29 ct29), sl29⟩)
   (c29 : W.codeIn K cd29 "Fan.hearer_of" = true)
   (k29 : W.keepIn K (.ref f29) = true)
   (a30 : W.findIn K (.ref C_Fan) "names" = some (some (.ref f30)))
   (i30 : W.isFn K (.ref f30) = true)
   (l30 : K.lookup f30 = some ⟨oc30, od30, .func (W.fnOf "names" "Fan.names" (defArgs s_Fan_names) (defBody s_Fan_names) (defScope s_Fan_names) .none kV30 dc30 pm30 an30 cd30 ct30), sl30⟩)
   (c30 : W.codeIn K cd30 "Fan.names" = true)
   (k30 : W.keepIn K (.ref f30) = true)
   (a31 : W.findIn K (.ref C_Fan) "tell" = some (some (.ref f31)))
   (i31 : W.isFn K (.ref f31) = true)
   (l31 : K.lookup f31 = some ⟨oc31, od31, .func (W.fnOf "tell" "Fan.tell" (defArgs s_Fan_tell) (defBody s_Fan_tell) (defScope s_Fan_tell) .none kV31 dc31 pm31 an31 cd31 ct31), sl31⟩)
   (c31 : W.codeIn K cd31 "Fan.tell" = true)
   (k31 : W.keepIn K (.ref f31) = true)
   (a32 : W.findIn K (.ref C_Fan) "carry" = some (some (.ref f32)))
   (i32 : W.isFn K (.ref f32) = true)
   (l32 : K.lookup f32 = some ⟨oc32, od32, .func (W.fnOf "carry" "Fan.carry" (defArgs s_Fan_carry) (defBody s_Fan_carry) (defScope s_Fan_carry) .none kV32 dc32 pm32 an32 cd32 ct32), sl32⟩)
   (c32 : W.codeIn K cd32 "Fan.carry" = true)
   (k32 : W.keepIn K (.ref f32) = true)
   (a33 : W.findIn K (.ref C_Fan) "catch_up" = some (some (.ref f33)))
   (i33 : W.isFn K (.ref f33) = true)
   (l33 : K.lookup f33 = some ⟨oc33, od33, .func (W.fnOf "catch_up" "Fan.catch_up" (defArgs s_Fan_catch_up) (defBody s_Fan_catch_up) (defScope s_Fan_catch_up) .none kV33 dc33 pm33 an33 cd33 ct33), sl33⟩)
   (c33 : W.codeIn K cd33 "Fan.catch_up" = true)
   (k33 : W.keepIn K (.ref f33) = true)
   (a34 : W.findIn K (.ref C_Fan) "heard" = some (some (.ref f34)))
   (i34 : W.isFn K (.ref f34) = true)
   (l34 : K.lookup f34 = some ⟨oc34, od34, .func (W.fnOf "heard" "Fan.heard" (defArgs s_Fan_heard) (defBody s_Fan_heard) (defScope s_Fan_heard) .none kV34 dc34 pm34 an34 cd34 ct34), sl34⟩)
   (c34 : W.codeIn K cd34 "Fan.heard" = true)
   (k34 : W.keepIn K (.ref f34) = true)
   (a35 : W.findIn K (.ref C_Fan) "lost" = some (some (.ref f35)))
   (i35 : W.isFn K (.ref f35) = true)
   (l35 : K.lookup f35 = some ⟨oc35, od35, .func (W.fnOf "lost" "Fan.lost" (defArgs s_Fan_lost) (defBody s_Fan_lost) (defScope s_Fan_lost) .none kV35 dc35 pm35 an35 cd35 ct35), sl35⟩)
   (c35 : W.codeIn K cd35 "Fan.lost" = true)
   (k35 : W.keepIn K (.ref f35) = true)
   (a36 : W.findIn K (.ref C_Fan) "waiting" = some (some (.ref f36)))
   (i36 : W.isFn K (.ref f36) = true)
   (l36 : K.lookup f36 = some ⟨oc36, od36, .func (W.fnOf "waiting" "Fan.waiting" (defArgs s_Fan_waiting) (defBody s_Fan_waiting) (defScope s_Fan_waiting) .none kV36 dc36 pm36 an36 cd36 ct36), sl36⟩)
   (c36 : W.codeIn K cd36 "Fan.waiting" = true)
   (k36 : W.keepIn K (.ref f36) = true)
   (a37 : W.findIn K (.ref C_Fan) "lag" = some (some (.ref f37)))
   (i37 : W.isFn K (.ref f37) = true)
   (l37 : K.lookup f37 = some ⟨oc37, od37, .func (W.fnOf "lag" "Fan.lag" (defArgs s_Fan_lag) (defBody s_Fan_lag) (defScope s_Fan_lag) .none kV37 dc37 pm37 an37 cd37 ct37), sl37⟩)
   (c37 : W.codeIn K cd37 "Fan.lag" = true)
   (k37 : W.keepIn K (.ref f37) = true)
   (a38 : W.findIn K (.ref C_Fan) "slowest" = some (some (.ref f38)))
   (i38 : W.isFn K (.ref f38) = true)
   (l38 : K.lookup f38 = some ⟨oc38, od38, .func (W.fnOf "slowest" "Fan.slowest" (defArgs s_Fan_slowest) (defBody s_Fan_slowest) (defScope s_Fan_slowest) .none kV38 dc38 pm38 an38 cd38 ct38), sl38⟩)
   (c38 : W.codeIn K cd38 "Fan.slowest" = true)
   (k38 : W.keepIn K (.ref f38) = true)
   (a39 : W.nsIn K mainGlobals "_law_cell" = some (some (.ref f39)))
   (l39 : K.lookup f39 = some ⟨oc39, od39, .func (W.fnOf "_law_cell" "_law_cell" (defArgs s_l_cell) (defBody s_l_cell) (defScope s_l_cell) .none kV39 dc39 pm39 an39 cd39 ct39), sl39⟩)
   (c39 : W.codeIn K cd39 "_law_cell" = true)
   (k39 : W.keepIn K (.ref f39) = true)
   (a40 : W.nsIn K mainGlobals "_law_drawn" = some (some (.ref f40)))
   (l40 : K.lookup f40 = some ⟨oc40, od40, .func (W.fnOf "_law_drawn" "_law_drawn" (defArgs s_l_drawn) (defBody s_l_drawn) (defScope s_l_drawn) .none kV40 dc40 pm40 an40 cd40 ct40), sl40⟩)
   (c40 : W.codeIn K cd40 "_law_drawn" = true)
   (k40 : W.keepIn K (.ref f40) = true)
   (a41 : W.nsIn K mainGlobals "_law_fan" = some (some (.ref f41)))
   (l41 : K.lookup f41 = some ⟨oc41, od41, .func (W.fnOf "_law_fan" "_law_fan" (defArgs s_l_fan) (defBody s_l_fan) (defScope s_l_fan) .none kV41 dc41 pm41 an41 cd41 ct41), sl41⟩)
   (c41 : W.codeIn K cd41 "_law_fan" = true)
   (k41 : W.keepIn K (.ref f41) = true)
   (a42 : W.nsIn K mainGlobals "law" = some (some (.ref f42)))
   (l42 : K.lookup f42 = some ⟨oc42, od42, .func (W.fnOf "law" "law" (defArgs s_law) (defBody s_law) (defScope s_law) .none kV42 dc42 pm42 an42 cd42 ct42), sl42⟩)
   (c42 : W.codeIn K cd42 "law" = true)
   (k42 : W.keepIn K (.ref f42) = true)
   (z0 : W.nsIn K mainGlobals "len" = some none)
   (z1 : W.nsIn K mainGlobals "range" = some none)
   (z2 : W.nsIn K mainGlobals "list" = some none)
   (z3 : W.nsIn K mainGlobals "max" = some none)
   (z4 : W.nsIn K mainGlobals "sorted" = some none)
   (z5 : W.nsIn K mainGlobals "set" = some none)
   (z6 : W.nsIn K mainGlobals "enumerate" = some none)
   (z7 : W.nsIn K mainGlobals "zip" = some none)
   : ∃ fd : FuncData, (∀ (s : Shared) (v : Value), BindsTo s fd ⟨[v], []⟩ [("_law_script", v)]) ∧ ∀ base : Heap, K.In base → base.Ns mainGlobals mg → FnOk l.prog w K mg base CX0 7 fa fd ["_law_script"] (spLaw K) := by
 have e := hfa.symm.trans (W.mg_of X G a42)
 cases e
 have T : Txt mg := { b_len := W.mg_none_of X G z0, b_range := W.mg_none_of X G z1, b_list := W.mg_none_of X G z2, b_max := W.mg_none_of X G z3, b_sorted := W.mg_none_of X G z4, b_set := W.mg_none_of X G z5, b_enumerate := W.mg_none_of X G z6, b_zip := W.mg_none_of X G z7 }
 have R_Fan : FanC K mg C_Fan := { cl_Fan := ⟨pg_Fan, hd_Fan, po_Fan, sa_Fan⟩, mg_Fan := W.mg_of X G aC_Fan, n_teller := n_Fan_teller, n_roads := n_Fan_roads, n_hearers := n_Fan_hearers }
 have R_Teller : TellerC K mg C_Teller := { cl_Teller := ⟨pg_Teller, hd_Teller, po_Teller, sa_Teller⟩, mg_Teller := W.mg_of X G aC_Teller, n_keep := n_Teller_keep, n_turn := n_Teller_turn, n_total := n_Teller_total, n_stored := n_Teller_stored, n_newest := n_Teller_newest }
 have R_Road : RoadC K mg C_Road := { cl_Road := ⟨pg_Road, hd_Road, po_Road, sa_Road⟩, mg_Road := W.mg_of X G aC_Road, n_size := n_Road_size, n_way := n_Road_way, n_row := n_Road_row, n_dropped := n_Road_dropped, n_broken := n_Road_broken }
 have R_Hearer : HearK K mg C_Hearer := { cl_Hearer := ⟨pg_Hearer, hd_Hearer, po_Hearer, sa_Hearer⟩, mg_Hearer := W.mg_of X G aC_Hearer, n_next_number := n_Hearer_next_number, n_past := n_Hearer_past, n_held := n_Hearer_held, n_known := n_Hearer_known, n_given_up := n_Hearer_given_up }
 have TC : TxtF K mg C_Fan C_Teller C_Road C_Hearer := ⟨R_Fan, R_Teller, R_Road, R_Hearer⟩
 have F0 := fun_mk (st := s_number_of) l0 c0 k0
 have b0 := F0.binds (ps := ["message"]) fun _ _ _ _ _ _ us hl => match us, hl with | [_], _ => rfl
 have F1 := fun_mk (st := s_topic_of) l1 c1 k1
 have b1 := F1.binds (ps := ["message"]) fun _ _ _ _ _ _ us hl => match us, hl with | [_], _ => rfl
 have F2 := fun_mk (st := s_of_topics) l2 c2 k2
 have b2 := F2.binds (ps := ["messages", "topics"]) fun _ _ _ _ _ _ us hl => match us, hl with | [_, _], _ => rfl
 have F3 := fun_mk (st := s_with_greater_numbers) l3 c3 k3
 have b3 := F3.binds (ps := ["messages", "number"]) fun _ _ _ _ _ _ us hl => match us, hl with | [_, _], _ => rfl
 have F4 := fun_mk (st := s_Teller___init__) l4 c4 k4
 have b4 := F4.binds (ps := ["self", "keep"]) fun _ _ _ _ _ _ us hl => match us, hl with | [_, _], _ => rfl
 have F5 := fun_mk (st := s_Teller_tell) l5 c5 k5
 have b5 := F5.binds (ps := ["self", "topic", "text"]) fun _ _ _ _ _ _ us hl => match us, hl with | [_, _, _], _ => rfl
 have F6 := fun_mk (st := s_Teller_told) l6 c6 k6
 have b6 := F6.binds (ps := ["self"]) fun _ _ _ _ _ _ us hl => match us, hl with | [_], _ => rfl
 have F7 := fun_mk (st := s_Teller_oldest) l7 c7 k7
 have b7 := F7.binds (ps := ["self"]) fun _ _ _ _ _ _ us hl => match us, hl with | [_], _ => rfl
 have F8 := fun_mk (st := s_Teller_behind) l8 c8 k8
 have b8 := F8.binds (ps := ["self", "number", "topics"]) fun _ _ _ _ _ _ us hl => match us, hl with | [_, _, _], _ => rfl
 have F9 := fun_mk (st := s_Road___init__) l9 c9 k9
 have b9 := F9.binds (ps := ["self", "size", "way"]) fun _ _ _ _ _ _ us hl => match us, hl with | [_, _, _], _ => rfl
 have F10 := fun_mk (st := s_Road_leave_out) l10 c10 k10
 have b10 := F10.binds (ps := ["self", "messages"]) fun _ _ _ _ _ _ us hl => match us, hl with | [_, _], _ => rfl
 have F11 := fun_mk (st := s_Road_put_without_room) l11 c11 k11
 have b11 := F11.binds (ps := ["self", "message"]) fun _ _ _ _ _ _ us hl => match us, hl with | [_, _], _ => rfl
 have F12 := fun_mk (st := s_Road_put) l12 c12 k12
 have b12 := F12.binds (ps := ["self", "message"]) fun _ _ _ _ _ _ us hl => match us, hl with | [_, _], _ => rfl
 have F13 := fun_mk (st := s_Road_take) l13 c13 k13
 have b13 := F13.binds (ps := ["self", "many"]) fun _ _ _ _ _ _ us hl => match us, hl with | [_, _], _ => rfl
 have F14 := fun_mk (st := s_Road_waiting) l14 c14 k14
 have b14 := F14.binds (ps := ["self"]) fun _ _ _ _ _ _ us hl => match us, hl with | [_], _ => rfl
 have F15 := fun_mk (st := s_Road_mend) l15 c15 k15
 have b15 := F15.binds (ps := ["self"]) fun _ _ _ _ _ _ us hl => match us, hl with | [_], _ => rfl
 have F16 := fun_mk (st := s_Hearer___init__) l16 c16 k16
 have b16 := F16.binds (ps := ["self"]) fun _ _ _ _ _ _ us hl => match us, hl with | [_], _ => rfl
 have F17 := fun_mk (st := s_Hearer_expects) l17 c17 k17
 have b17 := F17.binds (ps := ["self"]) fun _ _ _ _ _ _ us hl => match us, hl with | [_], _ => rfl
 have F18 := fun_mk (st := s_Hearer_hear_held) l18 c18 k18
 have b18 := F18.binds (ps := ["self"]) fun _ _ _ _ _ _ us hl => match us, hl with | [_], _ => rfl
 have F19 := fun_mk (st := s_Hearer_refuse_others) l19 c19 k19
 have b19 := F19.binds (ps := ["self", "messages"]) fun _ _ _ _ _ _ us hl => match us, hl with | [_, _], _ => rfl
 have F20 := fun_mk (st := s_Hearer_take_all) l20 c20 k20
 have b20 := F20.binds (ps := ["self", "messages"]) fun _ _ _ _ _ _ us hl => match us, hl with | [_, _], _ => rfl
 have F21 := fun_mk (st := s_Hearer_heard) l21 c21 k21
 have b21 := F21.binds (ps := ["self"]) fun _ _ _ _ _ _ us hl => match us, hl with | [_], _ => rfl
 have F22 := fun_mk (st := s_Hearer_lost) l22 c22 k22
 have b22 := F22.binds (ps := ["self"]) fun _ _ _ _ _ _ us hl => match us, hl with | [_], _ => rfl
 have F23 := fun_mk (st := s_Hearer_give_up) l23 c23 k23
 have b23 := F23.binds (ps := ["self", "number"]) fun _ _ _ _ _ _ us hl => match us, hl with | [_, _], _ => rfl
 have F24 := fun_mk (st := s_caught_up) l24 c24 k24
 have b24 := F24.binds (ps := ["teller", "hearer"]) fun _ _ _ _ _ _ us hl => match us, hl with | [_, _], _ => rfl
 have F25 := fun_mk (st := s_Fan___init__) l25 c25 k25
 have b25 := F25.binds (ps := ["self", "keep"]) fun _ _ _ _ _ _ us hl => match us, hl with | [_, _], _ => rfl
 have F26 := fun_mk (st := s_Fan_lay) l26 c26 k26
 have b26 := F26.binds (ps := ["self", "name", "size", "way"]) fun _ _ _ _ _ _ us hl => match us, hl with | [_, _, _, _], _ => rfl
 have F27 := fun_mk (st := s_Fan_refuse_unknown) l27 c27 k27
 have b27 := F27.binds (ps := ["self", "name"]) fun _ _ _ _ _ _ us hl => match us, hl with | [_, _], _ => rfl
 have F28 := fun_mk (st := s_Fan_road_of) l28 c28 k28
 have b28 := F28.binds (ps := ["self", "name"]) fun _ _ _ _ _ _ us hl => match us, hl with | [_, _], _ => rfl
 have F29 := fun_mk (st := s_Fan_hearer_of) l29 c29 k29
 have b29 := F29.binds (ps := ["self", "name"]) fun _ _ _ _ _ _ us hl => match us, hl with | [_, _], _ => rfl
 have F30 := fun_mk (st := s_Fan_names) l30 c30 k30
 have b30 := F30.binds (ps := ["self"]) fun _ _ _ _ _ _ us hl => match us, hl with | [_], _ => rfl
 have F31 := fun_mk (st := s_Fan_tell) l31 c31 k31
 have b31 := F31.binds (ps := ["self", "topic", "text"]) fun _ _ _ _ _ _ us hl => match us, hl with | [_, _, _], _ => rfl
 have F32 := fun_mk (st := s_Fan_carry) l32 c32 k32
 have b32 := F32.binds (ps := ["self", "name", "many"]) fun _ _ _ _ _ _ us hl => match us, hl with | [_, _, _], _ => rfl
 have F33 := fun_mk (st := s_Fan_catch_up) l33 c33 k33
 have b33 := F33.binds (ps := ["self", "name"]) fun _ _ _ _ _ _ us hl => match us, hl with | [_, _], _ => rfl
 have F34 := fun_mk (st := s_Fan_heard) l34 c34 k34
 have b34 := F34.binds (ps := ["self", "name"]) fun _ _ _ _ _ _ us hl => match us, hl with | [_, _], _ => rfl
 have F35 := fun_mk (st := s_Fan_lost) l35 c35 k35
 have b35 := F35.binds (ps := ["self", "name"]) fun _ _ _ _ _ _ us hl => match us, hl with | [_, _], _ => rfl
 have F36 := fun_mk (st := s_Fan_waiting) l36 c36 k36
 have b36 := F36.binds (ps := ["self", "name"]) fun _ _ _ _ _ _ us hl => match us, hl with | [_, _], _ => rfl
 have F37 := fun_mk (st := s_Fan_lag) l37 c37 k37
 have b37 := F37.binds (ps := ["self", "name"]) fun _ _ _ _ _ _ us hl => match us, hl with | [_, _], _ => rfl
 have F38 := fun_mk (st := s_Fan_slowest) l38 c38 k38
 have b38 := F38.binds (ps := ["self"]) fun _ _ _ _ _ _ us hl => match us, hl with | [_], _ => rfl
 have F39 := fun_mk (st := s_l_cell) l39 c39 k39
 have b39 := F39.binds (ps := ["_law_script", "_law_k"]) fun _ _ _ _ _ _ us hl => match us, hl with | [_, _], _ => rfl
 have F40 := fun_mk (st := s_l_drawn) l40 c40 k40
 have b40 := F40.binds (ps := ["_law_script", "_law_k", "_law_many"]) fun _ _ _ _ _ _ us hl => match us, hl with | [_, _, _], _ => rfl
 have F41 := fun_mk (st := s_l_fan) l41 c41 k41
 have b41 := F41.binds (ps := ["_law_script", "_law_at", "_law_fan_here"]) fun _ _ _ _ _ _ us hl => match us, hl with | [_, _, _], _ => rfl
 have F42 := fun_mk (st := s_law) l42 c42 k42
 refine ⟨W.fnOf "law" "law" (defArgs s_law) (defBody s_law) (defScope s_law) .none kV42 dc42 pm42 an42 cd42 ct42, fun s v => .of_eq rfl, fun base _ _ => ?_⟩
 have C0 : Callee l.prog w K mg base 1 "number_of" ["message"] (spItem 0) := ⟨_, _, ok_number_of F0 , W.mg_of X G a0, k0, b0⟩
 have C1 : Callee l.prog w K mg base 1 "topic_of" ["message"] (spItem 1) := ⟨_, _, ok_topic_of F1 , W.mg_of X G a1, k1, b1⟩
 have C2 : Callee l.prog w K mg base 2 "of_topics" ["messages", "topics"] (spOfT K) := ⟨_, _, ok_of_topics F2 T C1, W.mg_of X G a2, k2, b2⟩
 have C3 : Callee l.prog w K mg base 2 "with_greater_numbers" ["messages", "number"] (spGreater) := ⟨_, _, ok_with_greater_numbers F3 T C0, W.mg_of X G a3, k3, b3⟩
 have C4 : CalleeI l.prog w K mg base 1 C_Teller ["self", "keep"] (spInitT C_Teller) := ⟨_, _, ok_Teller_init F4 R_Teller, ⟨mk_Teller, a4, i4, kc_Teller⟩, b4⟩
 have C5 : CalleeM l.prog w K mg base 1 C_Teller "tell" ["self", "topic", "text"] (spTell C_Teller) := ⟨_, _, ok_Teller_tell F5 T R_Teller, ⟨a5, i5, k5⟩, b5⟩
 have C6 : CalleeM l.prog w K mg base 1 C_Teller "told" ["self"] (spTold C_Teller) := ⟨_, _, ok_Teller_told F6 R_Teller, ⟨a6, i6, k6⟩, b6⟩
 have C7 : CalleeM l.prog w K mg base 1 C_Teller "oldest" ["self"] (spOldest C_Teller) := ⟨_, _, ok_Teller_oldest F7 T R_Teller, ⟨a7, i7, k7⟩, b7⟩
 have C8 : CalleeM l.prog w K mg base 3 C_Teller "behind" ["self", "number", "topics"] (spBehind K C_Teller) := ⟨_, _, ok_Teller_behind F8 T R_Teller C2 C3 C7, ⟨a8, i8, k8⟩, b8⟩
 have C9 : CalleeI l.prog w K mg base 1 C_Road ["self", "size", "way"] (spInitR C_Road) := ⟨_, _, ok_Road_init F9 R_Road, ⟨mk_Road, a9, i9, kc_Road⟩, b9⟩
 have C10 : CalleeM l.prog w K mg base 2 C_Road "leave_out" ["self", "messages"] (spLeave C_Road) := ⟨_, _, ok_Road_leave_out F10 R_Road C0, ⟨a10, i10, k10⟩, b10⟩
 have C11 : CalleeM l.prog w K mg base 3 C_Road "put_without_room" ["self", "message"] (spPutW C_Road) := ⟨_, _, ok_Road_put_without_room F11 R_Road C10, ⟨a11, i11, k11⟩, b11⟩
 have C12 : CalleeM l.prog w K mg base 4 C_Road "put" ["self", "message"] (spPut C_Road) := ⟨_, _, ok_Road_put F12 T R_Road C10 C11, ⟨a12, i12, k12⟩, b12⟩
 have C13 : CalleeM l.prog w K mg base 1 C_Road "take" ["self", "many"] (spTakeR C_Road) := ⟨_, _, ok_Road_take F13 T R_Road, ⟨a13, i13, k13⟩, b13⟩
 have C14 : CalleeM l.prog w K mg base 1 C_Road "waiting" ["self"] (spWait C_Road) := ⟨_, _, ok_Road_waiting F14 T R_Road, ⟨a14, i14, k14⟩, b14⟩
 have C15 : CalleeM l.prog w K mg base 1 C_Road "mend" ["self"] (spMend C_Road) := ⟨_, _, ok_Road_mend F15 R_Road, ⟨a15, i15, k15⟩, b15⟩
 have C16 : CalleeI l.prog w K mg base 1 C_Hearer ["self"] (spInitH C_Hearer) := ⟨_, _, ok_Hearer_init F16 R_Hearer.toHearC, ⟨mk_Hearer, a16, i16, kc_Hearer⟩, b16⟩
 have C17 : CalleeM l.prog w K mg base 1 C_Hearer "expects" ["self"] (spExpects C_Hearer) := ⟨_, _, ok_Hearer_expects F17 R_Hearer.toHearC, ⟨a17, i17, k17⟩, b17⟩
 have C18 : CalleeM l.prog w K mg base 1 C_Hearer "hear_held" ["self"] (spHear C_Hearer) := ⟨_, _, ok_Hearer_hear_held F18 R_Hearer.toHearC, ⟨a18, i18, k18⟩, b18⟩
 have C19 : CalleeM l.prog w K mg base 2 C_Hearer "refuse_others" ["self", "messages"] (spRefuse C_Hearer) := ⟨_, _, ok_Hearer_refuse_others F19 R_Hearer.toHearC C0, ⟨a19, i19, k19⟩, b19⟩
 have C20 : CalleeM l.prog w K mg base 3 C_Hearer "take_all" ["self", "messages"] (spTakeAll C_Hearer) := ⟨_, _, ok_Hearer_take_all F20 R_Hearer.toHearC C0 C19 C18, ⟨a20, i20, k20⟩, b20⟩
 have C21 : CalleeM l.prog w K mg base 1 C_Hearer "heard" ["self"] (spHeard C_Hearer) := ⟨_, _, ok_Hearer_heard F21 T R_Hearer.toHearC, ⟨a21, i21, k21⟩, b21⟩
 have C22 : CalleeM l.prog w K mg base 1 C_Hearer "lost" ["self"] (spLost C_Hearer) := ⟨_, _, ok_Hearer_lost F22 T R_Hearer.toHearC, ⟨a22, i22, k22⟩, b22⟩
 have C23 : CalleeM l.prog w K mg base 2 C_Hearer "give_up" ["self", "number"] (spGive C_Hearer) := ⟨_, _, ok_Hearer_give_up F23 R_Hearer.toHearC C18, ⟨a23, i23, k23⟩, b23⟩
 have C24 : Callee l.prog w K mg base 4 "caught_up" ["teller", "hearer"] (spCaughtN C_Teller C_Hearer) := ⟨_, _, ok_caught_up F24 T ⟨R_Teller, R_Hearer⟩ C8 C7 C17 C19 C22 C23 C20, W.mg_of X G a24, k24, b24⟩
 have C25 : CalleeI l.prog w K mg base 3 C_Fan ["self", "keep"] (spFInit C_Fan C_Teller C_Road C_Hearer) := ⟨_, _, ok_Fan_init F25 TC C4, ⟨mk_Fan, a25, i25, kc_Fan⟩, b25⟩
 have C26 : CalleeM l.prog w K mg base 3 C_Fan "lay" ["self", "name", "size", "way"] (spFLay C_Fan C_Teller C_Road C_Hearer) := ⟨_, _, ok_Fan_lay F26 TC C9 C16, ⟨a26, i26, k26⟩, b26⟩
 have C27 : CalleeM l.prog w K mg base 1 C_Fan "refuse_unknown" ["self", "name"] (spFKnow C_Fan C_Teller C_Road C_Hearer) := ⟨_, _, ok_Fan_refuse_unknown F27 R_Fan, ⟨a27, i27, k27⟩, b27⟩
 have C28 : CalleeM l.prog w K mg base 2 C_Fan "road_of" ["self", "name"] (spFRoad C_Fan C_Teller C_Road C_Hearer) := ⟨_, _, ok_Fan_road_of F28 R_Fan C27, ⟨a28, i28, k28⟩, b28⟩
 have C29 : CalleeM l.prog w K mg base 2 C_Fan "hearer_of" ["self", "name"] (spFHearer C_Fan C_Teller C_Road C_Hearer) := ⟨_, _, ok_Fan_hearer_of F29 R_Fan C27, ⟨a29, i29, k29⟩, b29⟩
 have C30 : CalleeM l.prog w K mg base 1 C_Fan "names" ["self"] (spFNames C_Fan C_Teller C_Road C_Hearer) := ⟨_, _, ok_Fan_names F30 T R_Fan, ⟨a30, i30, k30⟩, b30⟩
 have C31 : CalleeM l.prog w K mg base 5 C_Fan "tell" ["self", "topic", "text"] (spFTell C_Fan C_Teller C_Road C_Hearer) := ⟨_, _, ok_Fan_tell F31 TC C5 C12, ⟨a31, i31, k31⟩, b31⟩
 have C32 : CalleeM l.prog w K mg base 4 C_Fan "carry" ["self", "name", "many"] (spFCarry C_Fan C_Teller C_Road C_Hearer) := ⟨_, _, ok_Fan_carry F32 TC C29 C28 C20 C13, ⟨a32, i32, k32⟩, b32⟩
 have C33 : CalleeM l.prog w K mg base 5 C_Fan "catch_up" ["self", "name"] (spFCatch C_Fan C_Teller C_Road C_Hearer) := ⟨_, _, ok_Fan_catch_up F33 TC C29 C28 C15 C24, ⟨a33, i33, k33⟩, b33⟩
 have C34 : CalleeM l.prog w K mg base 3 C_Fan "heard" ["self", "name"] (spFHeard C_Fan C_Teller C_Road C_Hearer) := ⟨_, _, ok_Fan_heard F34 TC C29 C21, ⟨a34, i34, k34⟩, b34⟩
 have C35 : CalleeM l.prog w K mg base 3 C_Fan "lost" ["self", "name"] (spFLost C_Fan C_Teller C_Road C_Hearer) := ⟨_, _, ok_Fan_lost F35 TC C29 C22, ⟨a35, i35, k35⟩, b35⟩
 have C36 : CalleeM l.prog w K mg base 3 C_Fan "waiting" ["self", "name"] (spFWait C_Fan C_Teller C_Road C_Hearer) := ⟨_, _, ok_Fan_waiting F36 TC C28 C14, ⟨a36, i36, k36⟩, b36⟩
 have C37 : CalleeM l.prog w K mg base 3 C_Fan "lag" ["self", "name"] (spFLag C_Fan C_Teller C_Road C_Hearer) := ⟨_, _, ok_Fan_lag F37 TC C29 C6 C17, ⟨a37, i37, k37⟩, b37⟩
 have C38 : CalleeM l.prog w K mg base 4 C_Fan "slowest" ["self"] (spFSlow C_Fan C_Teller C_Road C_Hearer) := ⟨_, _, ok_Fan_slowest F38 T TC C30 C37, ⟨a38, i38, k38⟩, b38⟩
 have C39 : Callee l.prog w K mg base 1 "_law_cell" ["_law_script", "_law_k"] (spCell K) := ⟨_, _, ok_l_cell F39 T, W.mg_of X G a39, k39, b39⟩
 have C40 : Callee l.prog w K mg base 2 "_law_drawn" ["_law_script", "_law_k", "_law_many"] (spDrawn K) := ⟨_, _, ok_l_drawn F40 T C39, W.mg_of X G a40, k40, b40⟩
 have C41 : Callee l.prog w K mg base 6 "_law_fan" ["_law_script", "_law_at", "_law_fan_here"] (spLFan K C_Fan C_Teller C_Road C_Hearer) := ⟨_, _, ok_l_fan F41 T TC C40 C26 C31 C32, W.mg_of X G a41, k41, b41⟩
 exact ok_law F42 T TC C40 C41 C25 C30 C31 C32 C33 C34 C35 C36 C37 C38
theorem walk {l : W.OpenLaw} {q : Program} {loose : List Str} {XP : (Str → Option Value) → Heap → Prop} {YP : World → Heap → Prop} {d : DefRec} {K : Params → W.Frag} (hn : l.most = some 63) (hdf : d.params.defaults = [])
   (hY : ∀ (w : World) (h : Heap), YP w h → (K w.params).In h)
   (F : ∀ (w : World) (mg : Str → Option Value) (fa : Addr) (h : Heap), (K w.params).In h → h.Ns mainGlobals mg → mg d.name = some (.ref fa) →
     ∃ fd : FuncData, (∀ (s : Shared) (u : Value), BindsTo s fd ⟨[u], []⟩ [("_law_script", u)]) ∧ ∀ base : Heap, (K w.params).In base → base.Ns mainGlobals mg → FnOk l.prog w (K w.params) mg base CX0 7 fa fd ["_law_script"] (spLaw (K w.params))) :
   W.WalkO q loose XP YP l.row.toRowW d [] (fun f vs => PySem.call f vs) :=
 L2.walk_of (n := 63) (k := 7) (x := "_law_script") (CX := fun _ => CX0) (sp := fun w => spLaw (K w.params)) hn (by decide) hdf ⟨rfl, by decide, by decide⟩ hY F (fun _ _ a ns hl _ hS => ⟨a, ns, rfl, hS, hl, fun _ => rfl⟩) fun _ _ _ _ _ z => z
end K41
def PySem.W.Fast.tw9633716602905459354 : Unit := ()
def PySem.W.Fast.tw2655318616225429534 : Unit := ()
def PySem.W.Fast.tw11196477034027660925 : Unit := ()
def PySem.W.Fast.tw1074597189569309179 : Unit := ()
def PySem.W.Fast.tw586526146377270462 : Unit := ()
def PySem.W.Fast.tw12690632661349197878 : Unit := ()
def PySem.W.Fast.tw11248369282588877337 : Unit := ()
def PySem.W.Fast.tw15809642268134360026 : Unit := ()
def PySem.W.Fast.tw4795118421178192739 : Unit := ()
def PySem.W.Fast.tw3366249603952872484 : Unit := ()
def PySem.W.Fast.tw15075454606718221302 : Unit := ()
def PySem.W.Fast.tw195212300862611663 : Unit := ()
def PySem.W.Fast.tw10630087591349937765 : Unit := ()
def PySem.W.Fast.tw2342586168489252298 : Unit := ()
def PySem.W.Fast.tw4902176513573855536 : Unit := ()
def PySem.W.Fast.tw3325414172092210716 : Unit := ()
def PySem.W.Fast.tw13412026045542495097 : Unit := ()
open PySem PySem.W PyProof.Rows
set_option maxRecDepth 100000 in
set_option maxHeartbeats 0 in
theorem PySem.Challenge.cw_tellroads_k41_whole_fans_holds : PySem.Challenge.rw_tellroads_k41_whole_fans.Holds := by
 w_on; o_law; k_head; (case hw => w_witness2)
 k_fill
 refine K41.walk (l := PySem.Challenge.rw_tellroads_k41_whole_fans) rfl rfl (fun w h Y => W.kIn_of Y) ?F
 case F =>
   intro w mg fa h KX G hmg
   refine' K41.all_mk KX G hmg ?aC_Fan ?pg_Fan ?hd_Fan ?po_Fan ?sa_Fan ?mk_Fan ?kc_Fan ?n_Fan_teller ?n_Fan_roads ?n_Fan_hearers ?aC_Teller ?pg_Teller ?hd_Teller ?po_Teller ?sa_Teller ?mk_Teller ?kc_Teller ?n_Teller_keep ?n_Teller_turn ?n_Teller_total ?n_Teller_stored ?n_Teller_newest ?aC_Road ?pg_Road ?hd_Road ?po_Road ?sa_Road ?mk_Road ?kc_Road ?n_Road_size ?n_Road_way ?n_Road_row ?n_Road_dropped ?n_Road_broken ?aC_Hearer ?pg_Hearer ?hd_Hearer ?po_Hearer ?sa_Hearer ?mk_Hearer ?kc_Hearer ?n_Hearer_next_number ?n_Hearer_past ?n_Hearer_held ?n_Hearer_known ?n_Hearer_given_up ?a0 ?l0 ?c0 ?k0 ?a1 ?l1 ?c1 ?k1 ?a2 ?l2 ?c2 ?k2 ?a3 ?l3 ?c3 ?k3 ?a4 ?i4 ?l4 ?c4 ?k4 ?a5 ?i5 ?l5 ?c5 ?k5 ?a6 ?i6 ?l6 ?c6 ?k6 ?a7 ?i7 ?l7 ?c7 ?k7 ?a8 ?i8 ?l8 ?c8 ?k8 ?a9 ?i9 ?l9 ?c9 ?k9 ?a10 ?i10 ?l10 ?c10 ?k10 ?a11 ?i11 ?l11 ?c11 ?k11 ?a12 ?i12 ?l12 ?c12 ?k12 ?a13 ?i13 ?l13 ?c13 ?k13 ?a14 ?i14 ?l14 ?c14 ?k14 ?a15 ?i15 ?l15 ?c15 ?k15 ?a16 ?i16 ?l16 ?c16 ?k16 ?a17 ?i17 ?l17 ?c17 ?k17 ?a18 ?i18 ?l18 ?c18 ?k18 ?a19 ?i19 ?l19 ?c19 ?k19 ?a20 ?i20 ?l20 ?c20 ?k20 ?a21 ?i21 ?l21 ?c21 ?k21 ?a22 ?i22 ?l22 ?c22 ?k22 ?a23 ?i23 ?l23 ?c23 ?k23 ?a24 ?l24 ?c24 ?k24 ?a25 ?i25 ?l25 ?c25 ?k25 ?a26 ?i26 ?l26 ?c26 ?k26 ?a27 ?i27 ?l27 ?c27 ?k27 ?a28 ?i28 ?l28 ?c28 ?k28 ?a29 ?i29 ?l29 ?c29 ?k29 ?a30 ?i30 ?l30 ?c30 ?k30 ?a31 ?i31 ?l31 ?c31 ?k31 ?a32 ?i32 ?l32 ?c32 ?k32 ?a33 ?i33 ?l33 ?c33 ?k33 ?a34 ?i34 ?l34 ?c34 ?k34 ?a35 ?i35 ?l35 ?c35 ?k35 ?a36 ?i36 ?l36 ?c36 ?k36 ?a37 ?i37 ?l37 ?c37 ?k37 ?a38 ?i38 ?l38 ?c38 ?k38 ?a39 ?l39 ?c39 ?k39 ?a40 ?l40 ?c40 ?k40 ?a41 ?l41 ?c41 ?k41 ?a42 ?l42 ?c42 ?k42 ?z0 ?z1 ?z2 ?z3 ?z4 ?z5 ?z6 ?z7
   (case aC_Fan => k_is)
   (case pg_Fan => k_is)
   (case hd_Fan => k_is)
   (case po_Fan => k_is)
   (case sa_Fan => k_is)
   (case mk_Fan => k_is)
   (case kc_Fan => k_is)
   (case n_Fan_teller => k_is)
   (case n_Fan_roads => k_is)
   (case n_Fan_hearers => k_is)
   (case aC_Teller => k_is)
   (case pg_Teller => k_is)
   (case hd_Teller => k_is)
   (case po_Teller => k_is)
   (case sa_Teller => k_is)
   (case mk_Teller => k_is)
   (case kc_Teller => k_is)
   (case n_Teller_keep => k_is)
   (case n_Teller_turn => k_is)
   (case n_Teller_total => k_is)
   (case n_Teller_stored => k_is)
   (case n_Teller_newest => k_is)
   (case aC_Road => k_is)
   (case pg_Road => k_is)
   (case hd_Road => k_is)
   (case po_Road => k_is)
   (case sa_Road => k_is)
   (case mk_Road => k_is)
   (case kc_Road => k_is)
   (case n_Road_size => k_is)
   (case n_Road_way => k_is)
   (case n_Road_row => k_is)
   (case n_Road_dropped => k_is)
   (case n_Road_broken => k_is)
   (case aC_Hearer => k_is)
   (case pg_Hearer => k_is)
   (case hd_Hearer => k_is)
   (case po_Hearer => k_is)
   (case sa_Hearer => k_is)
   (case mk_Hearer => k_is)
   (case kc_Hearer => k_is)
   (case n_Hearer_next_number => k_is)
   (case n_Hearer_past => k_is)
   (case n_Hearer_held => k_is)
   (case n_Hearer_known => k_is)
   (case n_Hearer_given_up => k_is)
   (case a0 => k_is)
   (case l0 => k_is)
   (case c0 => k_is)
   (case k0 => k_is)
   (case a1 => k_is)
   (case l1 => k_is)
   (case c1 => k_is)
   (case k1 => k_is)
   (case a2 => k_is)
   (case l2 => k_is)
   (case c2 => k_is)
   (case k2 => k_is)
   (case a3 => k_is)
   (case l3 => k_is)
   (case c3 => k_is)
   (case k3 => k_is)
   (case a4 => k_is)
   (case i4 => k_is)
   (case l4 => k_is)
   (case c4 => k_is)
   (case k4 => k_is)
   (case a5 => k_is)
   (case i5 => k_is)
   (case l5 => k_is)
   (case c5 => k_is)
   (case k5 => k_is)
   (case a6 => k_is)
   (case i6 => k_is)
   (case l6 => k_is)
   (case c6 => k_is)
   (case k6 => k_is)
   (case a7 => k_is)
   (case i7 => k_is)
   (case l7 => k_is)
   (case c7 => k_is)
   (case k7 => k_is)
   (case a8 => k_is)
   (case i8 => k_is)
   (case l8 => k_is)
   (case c8 => k_is)
   (case k8 => k_is)
   (case a9 => k_is)
   (case i9 => k_is)
   (case l9 => k_is)
   (case c9 => k_is)
   (case k9 => k_is)
   (case a10 => k_is)
   (case i10 => k_is)
   (case l10 => k_is)
   (case c10 => k_is)
   (case k10 => k_is)
   (case a11 => k_is)
   (case i11 => k_is)
   (case l11 => k_is)
   (case c11 => k_is)
   (case k11 => k_is)
   (case a12 => k_is)
   (case i12 => k_is)
   (case l12 => k_is)
   (case c12 => k_is)
   (case k12 => k_is)
   (case a13 => k_is)
   (case i13 => k_is)
   (case l13 => k_is)
   (case c13 => k_is)
   (case k13 => k_is)
   (case a14 => k_is)
   (case i14 => k_is)
   (case l14 => k_is)
   (case c14 => k_is)
   (case k14 => k_is)
   (case a15 => k_is)
   (case i15 => k_is)
   (case l15 => k_is)
   (case c15 => k_is)
   (case k15 => k_is)
   (case a16 => k_is)
   (case i16 => k_is)
   (case l16 => k_is)
   (case c16 => k_is)
   (case k16 => k_is)
   (case a17 => k_is)
   (case i17 => k_is)
   (case l17 => k_is)
   (case c17 => k_is)
   (case k17 => k_is)
   (case a18 => k_is)
   (case i18 => k_is)
   (case l18 => k_is)
   (case c18 => k_is)
   (case k18 => k_is)
   (case a19 => k_is)
   (case i19 => k_is)
   (case l19 => k_is)
   (case c19 => k_is)
   (case k19 => k_is)
   (case a20 => k_is)
   (case i20 => k_is)
   (case l20 => k_is)
   (case c20 => k_is)
   (case k20 => k_is)
   (case a21 => k_is)
   (case i21 => k_is)
   (case l21 => k_is)
   (case c21 => k_is)
   (case k21 => k_is)
   (case a22 => k_is)
   (case i22 => k_is)
   (case l22 => k_is)
   (case c22 => k_is)
   (case k22 => k_is)
   (case a23 => k_is)
   (case i23 => k_is)
   (case l23 => k_is)
   (case c23 => k_is)
   (case k23 => k_is)
   (case a24 => k_is)
   (case l24 => k_is)
   (case c24 => k_is)
   (case k24 => k_is)
   (case a25 => k_is)
   (case i25 => k_is)
   (case l25 => k_is)
   (case c25 => k_is)
   (case k25 => k_is)
   (case a26 => k_is)
   (case i26 => k_is)
   (case l26 => k_is)
   (case c26 => k_is)
   (case k26 => k_is)
   (case a27 => k_is)
   (case i27 => k_is)
   (case l27 => k_is)
   (case c27 => k_is)
   (case k27 => k_is)
   (case a28 => k_is)
   (case i28 => k_is)
   (case l28 => k_is)
   (case c28 => k_is)
   (case k28 => k_is)
   (case a29 => k_is)
   (case i29 => k_is)
   (case l29 => k_is)
   (case c29 => k_is)
   (case k29 => k_is)
   (case a30 => k_is)
   (case i30 => k_is)
   (case l30 => k_is)
   (case c30 => k_is)
   (case k30 => k_is)
   (case a31 => k_is)
   (case i31 => k_is)
   (case l31 => k_is)
   (case c31 => k_is)
   (case k31 => k_is)
   (case a32 => k_is)
   (case i32 => k_is)
   (case l32 => k_is)
   (case c32 => k_is)
   (case k32 => k_is)
   (case a33 => k_is)
   (case i33 => k_is)
   (case l33 => k_is)
   (case c33 => k_is)
   (case k33 => k_is)
   (case a34 => k_is)
   (case i34 => k_is)
   (case l34 => k_is)
   (case c34 => k_is)
   (case k34 => k_is)
   (case a35 => k_is)
   (case i35 => k_is)
   (case l35 => k_is)
   (case c35 => k_is)
   (case k35 => k_is)
   (case a36 => k_is)
   (case i36 => k_is)
   (case l36 => k_is)
   (case c36 => k_is)
   (case k36 => k_is)
   (case a37 => k_is)
   (case i37 => k_is)
   (case l37 => k_is)
   (case c37 => k_is)
   (case k37 => k_is)
   (case a38 => k_is)
   (case i38 => k_is)
   (case l38 => k_is)
   (case c38 => k_is)
   (case k38 => k_is)
   (case a39 => k_is)
   (case l39 => k_is)
   (case c39 => k_is)
   (case k39 => k_is)
   (case a40 => k_is)
   (case l40 => k_is)
   (case c40 => k_is)
   (case k40 => k_is)
   (case a41 => k_is)
   (case l41 => k_is)
   (case c41 => k_is)
   (case k41 => k_is)
   (case a42 => k_is)
   (case l42 => k_is)
   (case c42 => k_is)
   (case k42 => k_is)
   (case z0 => k_is)
   (case z1 => k_is)
   (case z2 => k_is)
   (case z3 => k_is)
   (case z4 => k_is)
   (case z5 => k_is)
   (case z6 => k_is)
   (case z7 => k_is)
