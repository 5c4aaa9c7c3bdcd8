
import PyProof.Rows.All
import Wide.All
import OpenK.AllK
import Wide.FinOn
import Lean
import PyProof.EqAt
import PyProof.EqKinds
import PyProof.TupleCall
import PySem.Challenge.RW_tellroads_k86_journal_texts
set_option Elab.async false
set_option linter.all false
set_option maxRecDepth 100000
namespace L2
open PySem PySem.Spec PyProof.Rows
abbrev Key := Sum Int Str
def keyIs : Key → Value → Bool
 | .inl k, v => Value.isInt k v
 | .inr x, v => Value.isStrOf x v
def keyH (w : World) : Key → Int
 | .inl k => hashInt k
 | .inr x => hashStr w x
theorem keyIs_shape : ∀ {k : Key} {v : Value}, keyIs k v = true → (∃ i t, k = Sum.inl i ∧ v = Value.int i t) ∨ (∃ x t, k = Sum.inr x ∧ v = Value.str x t)
 | .inl i, v, h => by
   obtain ⟨t, e⟩ := Value.isInt_shape (k := i) (v := v) h
   exact .inl ⟨i, t, rfl, e⟩
 | .inr x, v, h => by
   obtain ⟨t, e⟩ := Value.isStrOf_shape (x := x) (v := v) h
   exact .inr ⟨x, t, rfl, e⟩
theorem keyIs_int (i : Int) (t : Tok) : keyIs (.inl i) (.int i t) = true := by simp [keyIs, Value.isInt]
theorem keyIs_str (x : Str) (t : Tok) : keyIs (.inr x) (.str x t) = true := by simp [keyIs, Value.isStrOf]
theorem key_ll (a b : Int) : decide ((Sum.inl a : Key) = Sum.inl b) = (a == b) := by
 by_cases e : a = b
 · subst e; simp
 · have h : ¬ (Sum.inl a : Key) = Sum.inl b := fun q => e (Sum.inl.inj q)
   rw [decide_eq_false h]
   exact (beq_eq_false_iff_ne.mpr e).symm
theorem key_rr (a b : Str) : decide ((Sum.inr a : Key) = Sum.inr b) = decide (a = b) := by
 by_cases e : a = b
 · subst e; simp
 · have h : ¬ (Sum.inr a : Key) = Sum.inr b := fun q => e (Sum.inr.inj q)
   rw [decide_eq_false h, decide_eq_false e]
theorem key_lr (a : Int) (b : Str) : decide ((Sum.inl a : Key) = Sum.inr b) = false := decide_eq_false (fun q => nomatch q)
theorem key_rl (a : Str) (b : Int) : decide ((Sum.inr a : Key) = Sum.inl b) = false := decide_eq_false (fun q => nomatch q)
def yw (prog : Program) (w : World) : PySem.KeyKind prog w Key where
 is := keyIs
 hash := keyH w
 inj := fun v a b ha hb => by
   rcases keyIs_shape ha with ⟨i, t, rfl, rfl⟩ | ⟨x, t, rfl, rfl⟩
   · rcases keyIs_shape hb with ⟨j, u, rfl, e⟩ | ⟨y, u, rfl, e⟩
     · injection e with e1 _; rw [e1]
     · exact nomatch e
   · rcases keyIs_shape hb with ⟨j, u, rfl, e⟩ | ⟨y, u, rfl, e⟩
     · exact nomatch e
     · injection e with e1 _; rw [e1]
 byValue := fun k v h => by
   rcases keyIs_shape h with ⟨i, t, rfl, rfl⟩ | ⟨x, t, rfl, rfl⟩ <;> rfl
 pyHash := fun hv h => by
   rcases keyIs_shape hv with ⟨i, t, rfl, rfl⟩ | ⟨x, t, rfl, rfl⟩
   · exact wpAny_pyHash_int h
   · exact wpAny_pyHash_str h
 eqBool := fun hu hv h => by
   rcases keyIs_shape hu with ⟨i, t, rfl, rfl⟩ | ⟨x, t, rfl, rfl⟩
   · rcases keyIs_shape hv with ⟨j, u, rfl, rfl⟩ | ⟨y, u, rfl, rfl⟩
     · rw [key_ll] at h; exact wpAny_eqBool_int h
     · rw [key_lr] at h; exact SeqAt.EqAt.int_str i t y u _ _ _ _ h
   · rcases keyIs_shape hv with ⟨j, u, rfl, rfl⟩ | ⟨y, u, rfl, rfl⟩
     · rw [key_rl] at h; exact SeqAt.EqAt.str_int x t j u _ _ _ _ h
     · rw [key_rr] at h; exact wpAny_eqBool_str h
 «strs» := fun k x t v h => by
   rcases keyIs_shape h with ⟨i, u, rfl, e⟩ | ⟨y, u, rfl, e⟩
   · exact nomatch e
   · injection e with e1 _
     subst e1
     cases v <;> rfl
theorem mixKind_int (prog : Program) (w : World) (i : Int) (t : Tok) : (yw prog w).is (.inl i) (.int i t) = true := keyIs_int i t
theorem mixKind_str (prog : Program) (w : World) (x : Str) (t : Tok) : (yw prog w).is (.inr x) (.str x t) = true := keyIs_str x t
end L2
namespace L2
open PySem PySem.Spec PyProof.Rows
inductive V where
 | non | bl (b : Bool) | int (i : Int) | str (x : Str) | byt (b : Array UInt8) | flt (b : UInt64) | ref (a : Addr) | ty (n : String)
 deriving DecidableEq
def RelV : V → Value → Prop
 | .non, u => u = Value.none
 | .bl b, u => u = Value.bool b
 | .int i, u => ∃ t, u = Value.int i t
 | .str x, u => ∃ t, u = Value.str x t
 | .byt b, u => ∃ t, u = Value.bytes b t
 | .flt b, u => ∃ t, u = Value.float b t
 | .ref a, u => u = Value.ref a
 | .ty n, u => u = Value.type n
abbrev Vals : List V → List Value → Prop := Paired RelV
theorem Vals.length {xs : List V} {us : List Value} (r : Vals xs us) : xs.length = us.length := Paired.length r
theorem Vals.get : ∀ {xs : List V} {us : List Value} {i : Nat} {x : V}, Vals xs us → xs[i]? = some x → ∃ u, us[i]? = some u ∧ RelV x u
 | _, _, _, _, .nil, e => by simp at e
 | _, _, 0, _, .cons r _, e => by simp at e; subst e; exact ⟨_, rfl, r⟩
 | _, _, i + 1, x, .cons _ t, e => by
   obtain ⟨u, h1, h2⟩ := Vals.get (i := i) (x := x) t (by simpa using e)
   exact ⟨u, by simpa using h1, h2⟩
theorem Vals.append : ∀ {xs ys : List V} {us ws : List Value}, Vals xs us → Vals ys ws → Vals (xs ++ ys) (us ++ ws)
 | _, _, _, _, .nil, s => s
 | _, _, _, _, .cons r t, s => .cons r (Vals.append t s)
theorem Vals.take : ∀ {xs : List V} {us : List Value} (n : Nat), Vals xs us → Vals (xs.take n) (us.take n)
 | _, _, 0, _ => .nil
 | _, _, _ + 1, .nil => .nil
 | _, _, n + 1, .cons r t => .cons r (Vals.take n t)
theorem Vals.drop : ∀ {xs : List V} {us : List Value} (n : Nat), Vals xs us → Vals (xs.drop n) (us.drop n)
 | _, _, 0, r => r
 | _, _, _ + 1, .nil => .nil
 | _, _, n + 1, .cons _ t => Vals.drop n t
def RelO : Option V → Option Value → Prop
 | some v, some u => RelV v u
 | none, none => True
 | _, _ => False
def KV {κ : Type} : List (κ × V) → List (κ × Value) → Prop := Paired fun (p : κ × V) (q : κ × Value) => p.1 = q.1 ∧ RelV p.2 q.2
def kV : Key → V
 | .inl i => .int i
 | .inr x => .str x
inductive HO where
 /-- a list -/
 | lst (xs : List V)
 /-- a tuple (never changes) -/
 | tup (xs : List V)
 /-- a dict whose keys are ints and texts; one whose keys are tuples of ints and texts (the empty one is both) -/
 | dK (kvs : List (Key × V)) | dT (kvs : List (List Key × V))
 /-- a set of ints: its members, its size -/
 | set (S : Int → Bool) (n : Nat)
 /-- an instance of the class at C, its dict at dx, its attributes -/
 | ins (C dx : Addr) (fs : List (Str × V))
 /-- the dict of the instance at x -/
 | own (x : Addr)
 /-- the dict of an exception -/
 | xd (fs : List (Str × V))
 /-- a bound method, f of x -/
 | met (f x : Addr)
 /-- a range object lo, lo + 1, .. below hi -/
 | rng (lo hi : Int)
 /-- a thing that is known to the object (the script; a dict while a loop walks it): read, never written while it is so -/
 | frz (o : Obj) (u : HO)
 /-- a code object's table -/
 | tbl (ps : Array Value)
 /-- any other thing, by what is true of its one object (a def of one's own: SetO a S n := HO.ext fun h => ..) -/
 | ext (φ : Heap → Prop)
abbrev Hp := Addr → Option HO
def upd (H : Hp) (a : Addr) (o : HO) : Hp := fun b => if b = a then some o else H b
theorem qY {H : Hp} {a : Addr} {o : HO} : upd H a o a = some o := by unfold upd; rw [if_pos rfl]
theorem qv {H : Hp} {a b : Addr} {o : HO} (h : b ≠ a) : upd H a o b = H b := by unfold upd; rw [if_neg h]
theorem ne_of {H : Hp} {a b : Addr} {o u : HO} (h : H a = some o) (h' : H b = some u) (d : o ≠ u) : a ≠ b := by
 intro e; subst e; rw [h] at h'; exact d (Option.some.inj h')
theorem qy {H : Hp} {a b : Addr} {o : HO} (h : H a = some o) (h' : H b = none) : a ≠ b := by
 intro e; subst e; rw [h] at h'; cases h'
section
variable (P : Program) (w : World)
def ObjOk (H : Hp) (h : Heap) (a : Addr) : HO → Prop
 | .lst xs => xs.length ≤ sizeLine ∧ ∃ (its : List Value) (n : Nat), Vals xs its ∧ h.get? a = some { cls := .type "list", data := .seq its.toArray n }
 | .tup xs => xs.length ≤ sizeLine ∧ ∃ its : List Value, Vals xs its ∧ IsTup h a its.toArray
 | .dK kvs => kvs.length ≤ sizeLine ∧ (a == sysModules) = false ∧ ∃ vs, KV kvs vs ∧ h.DictOf (yw P w) a vs
 | .dT kvs => kvs.length ≤ sizeLine ∧ (a == sysModules) = false ∧ ∃ xs : List (List Key × Addr × Value),
     Paired (fun (p : List Key × V) (q : List Key × Addr × Value) => p.1 = q.1 ∧ H q.2.1 = some (.tup (p.1.map kV)) ∧ RelV p.2 q.2.2) kvs xs ∧
     ∃ o es ep, h.get? a = some o ∧ o.ExactDict ∧ o.data = .dict es ep ∧ es.toList = xs.map (entryOfKey (tupleKind (yw P w))) ∧ (xs.map (·.1)).Nodup
 | .set S n => h.SetOf (intKind P w) a S n
 | .ins C dx fs => H dx = some (.own a) ∧ fs.length ≤ 1000 ∧ dx ≠ a ∧ h.get? a = some (W.instObj C dx) ∧
     ∃ mA, h.Ns1 dx mA ∧ (∀ f, RelO (fs.lookup f) (mA f)) ∧ PySem.Within mA (fs.map (·.1))
 | .own _ => ∃ o, h.get? a = some o
 | .xd fs => ∃ mA, h.Ns1 a mA ∧ ∀ f, RelO (fs.lookup f) (mA f)
 | .rng lo hi => ∃ t u v, h.get? a = some { cls := .type "range", data := .fields #[.int lo t, .int hi u, .int 1 v] }
 | .frz o u => h.get? a = some o ∧ ObjOk H h a u
 | .tbl ps => h.get? a = some { cls := .none, data := .fields ps }
 | .met f x => h.get? a = some (W.methodObj (.ref f) (.ref x))
 | .ext φ => φ h ∧ (∃ o, h.get? a = some o) ∧ ∀ h1 h2 : Heap, φ h1 → (∀ o, h1.get? a = some o → h2.get? a = some o) → φ h2
def HOk (H : Hp) (h : Heap) : Prop := ∀ a o, H a = some o → ObjOk P w H h a o
end
section
variable {P : Program} {w : World} {H H' : Hp} {h h' : Heap} {a : Addr} {o : HO}
theorem ObjOk.lt (x : ObjOk P w H h a o) : a < h.objs.size := by
 cases o with
 | lst xs => obtain ⟨_, _, _, _, e⟩ := x; exact Heap.lt_size e
 | tup xs => obtain ⟨_, _, _, p⟩ := x; exact p.lt
 | dK kvs => obtain ⟨_, _, _, _, o, _, _, e, _⟩ := x; exact Heap.lt_size e
 | dT kvs => obtain ⟨_, _, _, _, o, _, _, e, _⟩ := x; exact Heap.lt_size e
 | set S n => obtain ⟨o, _, _, _, e, _⟩ := x; exact Heap.lt_size e
 | ins C dx fs => obtain ⟨_, _, _, e, _⟩ := x; exact Heap.lt_size e
 | own y => obtain ⟨_, e⟩ := x; exact Heap.lt_size e
 | xd fs => obtain ⟨_, ⟨_, _, _, e, _⟩, _⟩ := x; exact Heap.lt_size e
 | rng lo hi => obtain ⟨_, _, _, e⟩ := x; exact Heap.lt_size e
 | frz ob u => obtain ⟨e, _⟩ := x; exact Heap.lt_size e
 | tbl ps => exact Heap.lt_size (show h.get? a = some _ from x)
 | met f y => exact Heap.lt_size (show h.get? a = some _ from x)
 | ext φ => obtain ⟨_, ⟨_, e⟩, _⟩ := x; exact Heap.lt_size e
theorem Paired.mapP {α β : Type} {F G : α → β → Prop} : ∀ {l₁ : List α} {l₂ : List β}, Paired F l₁ l₂ → (∀ a b, F a b → G a b) → Paired G l₁ l₂
 | _, _, .nil, _ => .nil
 | _, _, .cons r t, f => .cons (f _ _ r) (Paired.mapP t f)
theorem ObjOk.stay (x : ObjOk P w H h a o) (k : ∀ b u, (b = a ∨ H b = some (.own a)) → h.get? b = some u → h'.get? b = some u)
   (ho : ∀ b, H b = some (.own a) → H' b = some (.own a)) (ht : ∀ b xs, H b = some (.tup xs) → H' b = some (.tup xs)) : ObjOk P w H' h' a o := by
 induction o with
 | lst xs => obtain ⟨z, its, n, r, e⟩ := x; exact ⟨z, its, n, r, k _ _ (.inl rfl) e⟩
 | tup xs => obtain ⟨z, its, r, ob, e, c⟩ := x; exact ⟨z, its, r, ob, k _ _ (.inl rfl) e, c⟩
 | dK kvs => obtain ⟨z, y, vs, r, ob, es, ep, e, c⟩ := x; exact ⟨z, y, vs, r, ob, es, ep, k _ _ (.inl rfl) e, c⟩
 | dT kvs =>
   obtain ⟨z, y, xs, r, ob, es, ep, e, c⟩ := x
   exact ⟨z, y, xs, Paired.mapP r fun p q z => ⟨z.1, ht _ _ z.2.1, z.2.2⟩, ob, es, ep, k _ _ (.inl rfl) e, c⟩
 | set S n => obtain ⟨ob, es, ep, t, e, c⟩ := x; exact ⟨ob, es, ep, t, k _ _ (.inl rfl) e, c⟩
 | ins C dx fs =>
   obtain ⟨d, z, ne, e, mA, ⟨od, es, ep, e2, c⟩, r⟩ := x
   exact ⟨ho _ d, z, ne, k _ _ (.inl rfl) e, mA, ⟨od, es, ep, k _ _ (.inr d) e2, c⟩, r⟩
 | own y => obtain ⟨ob, e⟩ := x; exact ⟨ob, k _ _ (.inl rfl) e⟩
 | xd fs => obtain ⟨mA, ⟨od, es, ep, e, c⟩, r⟩ := x; exact ⟨mA, ⟨od, es, ep, k _ _ (.inl rfl) e, c⟩, r⟩
 | rng lo hi => obtain ⟨t, u, v, e⟩ := x; exact ⟨t, u, v, k _ _ (.inl rfl) e⟩
 | frz ob u ih => obtain ⟨e, q⟩ := x; exact ⟨k _ _ (.inl rfl) e, ih q⟩
 | tbl ps =>
   have e : h.get? a = some { cls := .none, data := .fields ps } := x
   show h'.get? a = some { cls := .none, data := .fields ps }
   exact k a _ (.inl rfl) e
 | met f y =>
   have e : h.get? a = some (W.methodObj (.ref f) (.ref y)) := x
   show h'.get? a = some (W.methodObj (.ref f) (.ref y))
   exact k a _ (.inl rfl) e
 | ext φ => obtain ⟨p, ⟨o, e⟩, st⟩ := x; exact ⟨st _ _ p fun o q => k _ _ (.inl rfl) q, ⟨o, k _ _ (.inl rfl) e⟩, st⟩
theorem HOk.lt (x : HOk P w H h) (e : H a = some o) : a < h.objs.size := (x a o e).lt
theorem HOk.fresh (x : HOk P w H h) (e : h.objs.size ≤ a) : H a = none := by
 cases q : H a with
 | none => rfl
 | some u => exact absurd (Nat.lt_of_lt_of_le (x.lt q) e) (Nat.lt_irrefl _)
theorem HOk.kept (x : HOk P w H h) (k : ∀ b u, h.get? b = some u → h'.get? b = some u) : HOk P w H h' := fun a o e =>
 (x a o e).stay (fun b u _ q => k b u q) (fun _ q => q) fun _ _ q => q
theorem HOk.laid (x : HOk P w H h) (k : ∀ b u, h.get? b = some u → h'.get? b = some u) (hp : h.objs.size ≤ a) (new : ObjOk P w (upd H a o) h' a o) : HOk P w (upd H a o) h' := fun b u e => by
 have hn := x.fresh hp
 by_cases hb : b = a
 · subst hb; rw [qY] at e; cases e; exact new
 · rw [qv hb] at e
   exact (x b u e).stay (fun c v _ q => k c v q) (fun c q => by rw [qv (qy q hn)]; exact q) fun c xs q => by rw [qv (qy q hn)]; exact q
end
def Rd (H : Hp) (a : Addr) (u : HO) : Prop := H a = some u ∨ ∃ o, H a = some (.frz o u)
theorem Rd.ok {P : Program} {w : World} {H : Hp} {h : Heap} {a : Addr} {u : HO} (r : Rd H a u) (x : HOk P w H h) : ObjOk P w H h a u := by
 rcases r with r | ⟨o, r⟩
 · exact x a u r
 · obtain ⟨_, q⟩ := x a _ r
   exact q
def Mut : Option HO → Prop
 | some (.lst _) => True
 | some (.dK _) => True
 | some (.dT _) => True
 | some (.set _ _) => True
 | some (.ins _ _ _) => True
 | some (.ext _) => True
 | _ => False
section
variable {P : Program} {w : World} {H : Hp} {h h' : Heap} {x e : Addr} {o' : HO}
theorem HOk.write (ok : HOk P w H h) (mu : Mut (H x)) (he : e = x ∨ H e = some (.own x)) (k : ∀ b u, b ≠ e → h.get? b = some u → h'.get? b = some u) (heo : ∃ u, h'.get? e = some u)
   (new : ObjOk P w (upd H x o') h' x o') : HOk P w (upd H x o') h' := fun b u q => by
 have nown : ∀ c y, H c = some (.own y) → c ≠ x := fun c y r z => by subst z; rw [r] at mu; exact mu
 have ntup : ∀ c xs, H c = some (.tup xs) → c ≠ x := fun c xs r z => by subst z; rw [r] at mu; exact mu
 by_cases hb : b = x
 · subst hb; rw [qY] at q; cases q; exact new
 · rw [qv hb] at q
   by_cases hbe : b = e
   · have q' : H b = some (.own x) := by
       rcases he with z | z
       · exact absurd (hbe.trans z) hb
       · rw [hbe]; exact z
     rw [q] at q'; cases q'
     obtain ⟨v, hv⟩ := heo
     exact ⟨v, by rw [hbe]; exact hv⟩
   · refine (ok b u q).stay (fun c v hc r => k c v ?_ r) (fun c r => by rw [qv (nown c b r)]; exact r) fun c xs r => by rw [qv (ntup c xs r)]; exact r
     rcases hc with rfl | hc
     · exact hbe
     · rintro rfl
       rcases he with z | z
       · exact nown c b hc z
       · rw [hc] at z; cases z; exact hb rfl
end
structure Un (fs ex : List Addr) (H H' : Hp) (h h' : Heap) : Prop where
 keep : ∀ b o, h.get? b = some o → H b = none → b ∉ fs → b ∉ ex → h'.get? b = some o
 slot : ∀ b o, h.get? b = some o → H b = none → b ∈ fs → b ∉ ex → ∃ sl, h'.get? b = some { o with slots := sl }
 free : ∀ b o, h.get? b = some o → H b = none → b ∉ ex → H' b = none
 there : ∀ b o, h.get? b = some o → b ∉ ex → ∃ o', h'.get? b = some o'
 tups : ∀ b xs, H b = some (.tup xs) → H' b = some (.tup xs)
 frzs : ∀ b o u, H b = some (.frz o u) → H' b = some (.frz o u)
 tbls : ∀ b ps, H b = some (.tbl ps) → ∃ more, H' b = some (.tbl (ps ++ more))
section
variable {fs fs' ex ex' : List Addr} {H H1 H2 : Hp} {h h1 h2 h' : Heap} {a x e : Addr} {o : HO}
theorem Un.any (u : Un fs ex H H1 h h1) {b : Addr} {ob : Obj} (q : h.get? b = some ob) (n : H b = none) (hx : b ∉ ex) : ∃ sl, h1.get? b = some { ob with slots := sl } := by
 by_cases hb : b ∈ fs
 · exact u.slot b ob q n hb hx
 · exact ⟨ob.slots, u.keep b ob q n hb hx⟩
theorem Un.kept (k : ∀ b u, h.get? b = some u → h'.get? b = some u) : Un fs ex H H h h' :=
 ⟨fun b ob q _ _ _ => k b ob q, fun b ob q _ _ _ => ⟨ob.slots, k b ob q⟩, fun _ _ _ n _ => n, fun b ob q _ => ⟨ob, k b ob q⟩, fun _ _ q => q, fun _ _ _ q => q, fun _ ps q => ⟨#[], by rw [q]; simp⟩⟩
theorem Un.refl : Un fs ex H H h h := Un.kept fun _ _ q => q
theorem Un.laid (k : ∀ b u, h.get? b = some u → h'.get? b = some u) (hp : h.objs.size ≤ a) (hn : H a = none) : Un fs ex H (upd H a o) h h' where
 keep := fun b u q _ _ _ => k b u q
 slot := fun b u q _ _ _ => ⟨u.slots, k b u q⟩
 free := fun b u q n _ => by rw [qv (Nat.ne_of_lt (Nat.lt_of_lt_of_le (Heap.lt_size q) hp))]; exact n
 there := fun b u q _ => ⟨u, k b u q⟩
 tups := fun b xs q => by rw [qv (qy q hn)]; exact q
 frzs := fun b u xs q => by rw [qv (qy q hn)]; exact q
 tbls := fun b ps q => ⟨#[], by rw [qv (qy q hn), q]; simp⟩
theorem Un.write (mu : Mut (H x)) (he : e = x ∨ H e = some (.own x)) (k : ∀ b u, b ≠ e → h.get? b = some u → h'.get? b = some u) (heo : ∃ u, h'.get? e = some u) : Un fs ex H (upd H x o) h h' := by
 have hx : ∀ b, H b = none → b ≠ x := fun b n z => by subst z; rw [n] at mu; exact mu
 have hb : ∀ b, H b = none → b ≠ e := fun b n z => by
   subst z
   rcases he with r | r
   · exact hx b n r
   · rw [n] at r; cases r
 have hm : ∀ b u, H b = some u → ¬ Mut (some u) → b ≠ x := fun b u q nm z => by subst z; rw [q] at mu; exact nm mu
 refine ⟨fun b u q n _ _ => k b u (hb b n) q, fun b u q n _ _ => ⟨u.slots, k b u (hb b n) q⟩, fun b u q n _ => by rw [qv (hx b n)]; exact n, fun b u q _ => ?_,
   fun b xs q => by rw [qv (hm b _ q fun z => z)]; exact q, fun b u xs q => by rw [qv (hm b _ q fun z => z)]; exact q, fun b ps q => ⟨#[], by rw [qv (hm b _ q fun z => z), q]; simp⟩⟩
 by_cases hbe : b = e
 · subst hbe; exact heo
 · exact ⟨u, k b u hbe q⟩
end
def trk (h : Heap) (H : Hp) : List Addr := (List.range h.objs.size).filter fun a => (H a).isSome
def hidT (h : Heap) (H : Hp) : Heap := W.hideAll h (trk h H)
theorem hidT_size (h : Heap) (H : Hp) : (hidT h H).objs.size = h.objs.size := W.hideAll_size _ _
theorem hidT_get {h : Heap} {H : Hp} {b : Addr} {o : Obj} (e : h.get? b = some o) (n : H b = none) : (hidT h H).get? b = some o :=
 W.hideAll_get _ e fun hm => by
   have q : (H b).isSome = true := (List.mem_filter.mp hm).2
   rw [n] at q; simp at q
theorem of_hidT {h : Heap} {H : Hp} {b : Addr} {o : Obj} (e : (hidT h H).get? b = some o) : h.get? b = some o ∧ H b = none := by
 have e' : h.get? b = some o := W.of_hideAll (trk h H) e
 refine ⟨e', ?_⟩
 cases q : H b with
 | none => rfl
 | some x =>
   have hm : b ∈ trk h H := List.mem_filter.mpr ⟨List.mem_range.mpr (Heap.lt_size e'), by simp [q]⟩
   have z : (hidT h H).get? b = none := W.hideAll_none (trk h H) hm
   rw [z] at e; cases e
end L2
namespace L2
open PySem PySem.Spec PyProof.Rows
structure Mod (K : W.Frag) (mg : Str → Option Value) (base : Heap) : Prop where
 kin : K.In base
 glob : base.Ns mainGlobals mg
 blt : ∃ mb, base.Ns builtinsNs mb ∧ ∀ x : Str, x ≠ "__name__" → mb x = bootBuiltins x
 nolimit : base.NoLimit
structure Cx where
 prog : Program
 w : World
 K : W.Frag
 mg : Str → Option Value
 base : Heap
 A : Around
 N : List Str
 s₀ : Shared
 H₀ : Hp
 env : Env
 outer : List Env
 stack : List Env
 ex : List Addr
 fn : Str → Bool
 calm : Bool
 pn : List (Addr × Obj)
 xe : Value → Shared → Prop
def frs (l : List Env) : List Addr := l.filterMap (·.frame)
abbrev Cx.fs (X : Cx) : List Addr := frs X.outer
def Vis (sc : Scope) (x : Str) : Prop := sc.names.lookup x = some .local ∨ sc.names.lookup x = some .cell ∨ sc.names.lookup x = some .free
def Loc (sc : Scope) (x : Str) : Prop := sc.names.lookup x = some .local ∨ sc.names.lookup x = some .cell
def Look (env : Env) (h : Heap) (m : Str → Option Value) (x : Str) (u : Value) : Prop :=
 (env.kindOf x = some .local ∧ m x = some u) ∨ ((env.kindOf x = some .cell ∨ env.kindOf x = some .free) ∧ ∃ c, env.cells.lookup x = some c ∧ h.IsCell c (some u))
structure Cx.Ok (X : Cx) : Prop where
 mod : Mod X.K X.mg X.base
 kind : X.env.scope.kind = .function
 glob : X.env.globals = mainGlobals
 blt : X.env.builtins = builtinsNs
 above : X.s₀.heap.objs.size ≤ X.env.locals
 inj : ∀ x y c, X.env.cells.lookup x = some c → X.env.cells.lookup y = some c → x = y
 has : ∀ x, (X.env.kindOf x = some .cell ∨ X.env.kindOf x = some .free) → ∃ c, X.env.cells.lookup x = some c
 cab : ∀ x c, X.fn x = true → X.env.cells.lookup x = some c → X.s₀.heap.objs.size ≤ c
 hd : X.calm = true → X.A.handled = none
 frames : X.A.frames = some X.stack
 stk : X.stack = X.outer ∨ (X.stack = X.env :: X.outer ∧ X.env.frame = some X.env.locals)
 exf : ∀ b ∈ X.ex, b ≠ X.env.locals ∧ ∀ x c, X.env.cells.lookup x = some c → c ≠ b
 bs : ∀ b o, X.base.get? b = some o → X.s₀.heap.get? b = some o ∧ X.H₀ b = none
 bsz : X.base.objs.size ≤ X.s₀.heap.objs.size
 noex : ∀ b o, X.base.get? b = some o → b ∉ X.ex
 exfs : ∀ b ∈ X.ex, b ∉ X.fs
 funs : X.s₀.heap.FunFrames X.base X.outer
 frf : ∀ b ∈ X.fs, X.H₀ b = none
structure Inv (X : Cx) (pins : List (Addr × Obj)) (σ : List (Option V)) (H : Hp) (s : Shared) : Prop where
 ok : X.Ok
 os : s.os = X.s₀.os
 bare : AllBare s.gens
 base : Un X.fs X.ex X.H₀ H X.s₀.heap s.heap
 loc : ∃ m, s.heap.Ns X.env.locals m ∧ ∀ (i : Nat) (x : Str) (v : V), X.N[i]? = some x → σ[i]? = some (some v) → Vis X.env.scope x → ∃ u, RelV v u ∧ Look X.env s.heap m x u
 cell : ∀ x c, X.env.cells.lookup x = some c → ∃ v, s.heap.IsCell c v
 free : H X.env.locals = none
 freeC : ∀ x c, X.env.cells.lookup x = some c → H c = none
 pin : ∀ p ∈ X.pn ++ pins, s.heap.get? p.1 = some p.2 ∧ H p.1 = none ∧ p.1 ≠ X.env.locals ∧ p.1 ∉ X.fs ∧ ∀ v, p.2.data ≠ .cell v
 hok : HOk X.prog X.w H s.heap
 len : σ.length = X.N.length
section
variable {X : Cx} {pins : List (Addr × Obj)} {σ : List (Option V)} {H H' : Hp} {s : Shared} {h' : Heap}
theorem Cx.Ok.nofr (ok : X.Ok) {b : Addr} {o : Obj} (e : X.base.get? b = some o) : b ∉ X.fs := fun hb => by
 have := (ok.funs.mem hb).1
 rw [e] at this; cases this
theorem Inv.bs (I : Inv X pins σ H s) : ∀ b o, X.base.get? b = some o → s.heap.get? b = some o ∧ H b = none := fun b o e =>
 ⟨I.base.keep b o (I.ok.bs b o e).1 (I.ok.bs b o e).2 (I.ok.nofr e) (I.ok.noex b o e), I.base.free b o (I.ok.bs b o e).1 (I.ok.bs b o e).2 (I.ok.noex b o e)⟩
theorem Inv.bk (I : Inv X pins σ H s) : ∀ b o, X.base.get? b = some o → s.heap.get? b = some o := fun b o e => (I.bs b o e).1
theorem Inv.mod (I : Inv X pins σ H s) : Mod X.K X.mg X.base := I.ok.mod
theorem Inv.kIn (I : Inv X pins σ H s) : X.K.In s.heap := I.ok.mod.kin.keeps I.bk
theorem Inv.lt (I : Inv X pins σ H s) : X.env.locals < s.heap.objs.size := let ⟨_, hn, _⟩ := I.loc; hn.lt
theorem Inv.sz (I : Inv X pins σ H s) : X.s₀.heap.objs.size ≤ s.heap.objs.size := Nat.le_trans I.ok.above (Nat.le_of_lt I.lt)
theorem Inv.nofs (I : Inv X pins σ H s) {a : Addr} (h : s.heap.objs.size ≤ a) : a ∉ X.fs := fun hb => by
 obtain ⟨_, o, ho, _⟩ := I.ok.funs.mem hb
 exact absurd (Nat.lt_of_lt_of_le (Heap.lt_size ho) (Nat.le_trans I.sz h)) (Nat.lt_irrefl _)
theorem Inv.cne (I : Inv X pins σ H s) : ∀ x c, X.env.cells.lookup x = some c → c ≠ X.env.locals := fun x c e z => by
 obtain ⟨v, o, ho, hd⟩ := I.cell x c e
 obtain ⟨m, ⟨o', es, ep, ho', hd', _⟩, _⟩ := I.loc
 rw [z, ho'] at ho; cases ho; rw [hd'] at hd; cases hd
theorem Inv.funs (I : Inv X pins σ H s) : s.heap.FunFrames X.base X.outer := by
 have all : ∀ (l : List Env), (∀ b ∈ frs l, b ∈ X.fs) → X.s₀.heap.FunFrames X.base l → s.heap.FunFrames X.base l := by
   intro l
   induction l with
   | nil => intro _ _; trivial
   | cons env r ih =>
     intro hs hl
     obtain ⟨hk, ⟨L, o, hf, hn, ho, hd⟩, hr⟩ := hl
     have hL : L ∈ X.fs := hs L (by unfold frs; rw [List.filterMap_cons, hf]; exact List.mem_cons_self)
     obtain ⟨sl, e⟩ := I.base.slot L o ho (I.ok.frf L hL) hL fun z => I.ok.exfs L z hL
     exact ⟨hk, ⟨L, _, hf, hn, e, hd⟩, ih (fun b hb => hs b (by unfold frs; rw [List.filterMap_cons, hf]; exact List.mem_cons_of_mem _ hb)) hr⟩
 exact all X.outer (fun _ hb => hb) I.ok.funs
theorem Inv.stack (I : Inv X pins σ H s) : s.heap.FunFrames X.base X.stack := by
 rcases I.ok.stk with e | ⟨e, hf⟩
 · rw [e]; exact I.funs
 · rw [e]
   obtain ⟨m, hn, _⟩ := I.loc
   refine .cons (by rw [I.ok.kind]; decide) hf hn ?_ I.funs
   exact Heap.get?_none_of_le (Nat.le_trans I.ok.bsz I.ok.above)
theorem Inv.stkSub (I : Inv X pins σ H s) : ∀ b ∈ frs X.stack, b ∈ X.env.locals :: X.fs := fun b hb => by
 rcases I.ok.stk with e | ⟨e, hf⟩
 · rw [e] at hb; exact List.mem_cons_of_mem _ hb
 · rw [e] at hb
   unfold frs at hb
   rw [List.filterMap_cons, hf] at hb
   exact hb
theorem Inv.stkFree (I : Inv X pins σ H s) : ∀ b ∈ frs X.stack, H b = none := fun b hb => by
 rcases List.mem_cons.mp (I.stkSub b hb) with e | hb
 · rw [e]; exact I.free
 · obtain ⟨_, o, ho, _⟩ := I.ok.funs.mem hb
   exact I.base.free b o ho (I.ok.frf b hb) fun z => I.ok.exfs b z hb
theorem Inv.step {g' : Array GenState} {t' : Nat} {d' : Drawn} {ch : List Addr} (I : Inv X pins σ H s)
   (hch : ∀ b ∈ ch, (b ∈ X.ex ∨ X.s₀.heap.objs.size ≤ b) ∧ b ≠ X.env.locals ∧ (∀ x c, X.env.cells.lookup x = some c → c ≠ b) ∧ ∀ p ∈ X.pn ++ pins, p.1 ≠ b)
   (keep : ∀ b o, b ≠ X.env.locals → b ∉ X.fs → b ∉ ch → s.heap.get? b = some o → H b = none → h'.get? b = some o)
   (slot : ∀ b o, b ≠ X.env.locals → b ∈ X.fs → b ∉ ch → s.heap.get? b = some o → H b = none → ∃ sl, h'.get? b = some { o with slots := sl }) (free : ∀ b o, b ∉ ch → s.heap.get? b = some o → H b = none → H' b = none)
   (there : ∀ b o, b ∉ ch → s.heap.get? b = some o → ∃ o', h'.get? b = some o')
   (tups : ∀ b xs, H b = some (.tup xs) → H' b = some (.tup xs)) (frzs : ∀ b o u, H b = some (.frz o u) → H' b = some (.frz o u)) (tbls : ∀ b ps, H b = some (.tbl ps) → ∃ more, H' b = some (.tbl (ps ++ more)))
   (ns : ∀ m, s.heap.Ns X.env.locals m → h'.Ns X.env.locals m) (hok : HOk X.prog X.w H' h') (hg : AllBare g') :
   Inv X pins σ H' { s with heap := h', gens := g', drawn := d', toks := t' } := by
 have neL : ∀ b o, X.s₀.heap.get? b = some o → b ≠ X.env.locals := fun b o e => Nat.ne_of_lt (Nat.lt_of_lt_of_le (Heap.lt_size e) I.ok.above)
 have neC : ∀ b o, X.s₀.heap.get? b = some o → b ∉ X.ex → b ∉ ch := fun b o e hx hb => by
   rcases (hch b hb).1 with z | z
   · exact hx z
   · exact absurd (Nat.lt_of_lt_of_le (Heap.lt_size e) z) (Nat.lt_irrefl _)
 have cellK : ∀ x c, X.env.cells.lookup x = some c → ∀ v, s.heap.IsCell c v → h'.IsCell c v := fun x c e v ⟨o, ho, hd⟩ => by
   have nch : c ∉ ch := fun z => (hch c z).2.2.1 x c e rfl
   by_cases hc : c ∈ X.fs
   · obtain ⟨sl, q⟩ := slot c o (I.cne x c e) hc nch ho (I.freeC x c e)
     exact ⟨_, q, hd⟩
   · exact ⟨o, keep c o (I.cne x c e) hc nch ho (I.freeC x c e), hd⟩
 refine ⟨I.ok, I.os, hg, ⟨fun b o e n hb hx => ?_, fun b o e n hb hx => ?_, fun b o e n hx => ?_, fun b o e hx => ?_, fun b xs e => tups b xs (I.base.tups b xs e), fun b o xs e => frzs b o xs (I.base.frzs b o xs e), fun b ps e => ?_⟩, ?_, fun x c e => ?_, ?_, fun x c e => ?_, fun p hp => ?_, hok, I.len⟩
 · exact keep b o (neL b o e) hb (neC b o e hx) (I.base.keep b o e n hb hx) (I.base.free b o e n hx)
 · obtain ⟨sl, e1⟩ := I.base.slot b o e n hb hx
   obtain ⟨sl', e2⟩ := slot b _ (neL b o e) hb (neC b o e hx) e1 (I.base.free b o e n hx)
   exact ⟨sl', e2⟩
 · obtain ⟨o', e1⟩ := I.base.there b o e hx
   exact free b o' (neC b o e hx) e1 (I.base.free b o e n hx)
 · obtain ⟨o', e1⟩ := I.base.there b o e hx
   exact there b o' (neC b o e hx) e1
 · obtain ⟨m1, e1⟩ := I.base.tbls b ps e
   obtain ⟨m2, e2⟩ := tbls b _ e1
   exact ⟨m1 ++ m2, by rw [e2, Array.append_assoc]⟩
 · obtain ⟨m, hn, hl⟩ := I.loc
   refine ⟨m, ns m hn, fun i x v e1 e2 e3 => ?_⟩
   obtain ⟨u, r, l⟩ := hl i x v e1 e2 e3
   refine ⟨u, r, ?_⟩
   rcases l with l | ⟨k, c, e, z⟩
   · exact .inl l
   · exact .inr ⟨k, c, e, cellK x c e _ z⟩
 · obtain ⟨v, z⟩ := I.cell x c e
   exact ⟨v, cellK x c e v z⟩
 · obtain ⟨m, ⟨o, _, _, ho, _⟩, _⟩ := I.loc
   exact free _ o (fun z => (hch _ z).2.1 rfl) ho I.free
 · obtain ⟨v, o, ho, hd⟩ := I.cell x c e
   exact free c o (fun z => (hch c z).2.2.1 x c e rfl) ho (I.freeC x c e)
 · obtain ⟨e, n, ne, nf, d⟩ := I.pin p hp
   have nch : p.1 ∉ ch := fun z => (hch p.1 z).2.2.2 p hp rfl
   exact ⟨keep p.1 p.2 ne nf nch e n, free p.1 p.2 nch e n, ne, nf, d⟩
theorem Inv.un {t' : Nat} (I : Inv X pins σ H s) (u : Un X.fs [] H H' s.heap h') (hok : HOk X.prog X.w H' h') : Inv X pins σ H' { s with heap := h', toks := t' } := by
 obtain ⟨m, ⟨o, es, ep, ho, r⟩, _⟩ := id I.loc
 obtain ⟨sl, hL⟩ := u.any ho I.free (by simp)
 exact I.step (g' := s.gens) (d' := s.drawn) (ch := []) (fun _ z => nomatch z) (fun b o _ hb _ e n => u.keep b o e n hb (by simp)) (fun b o _ hb _ e n => u.slot b o e n hb (by simp)) (fun b o _ e n => u.free b o e n (by simp)) (fun b o _ e => u.there b o e (by simp)) u.tups u.frzs u.tbls (fun m' hm => by
   obtain ⟨o', es', ep', ho', r'⟩ := hm
   rw [ho] at ho'; cases ho'
   exact ⟨_, es', ep', hL, r'⟩) hok I.bare
theorem Inv.call {g' : Array GenState} {t' : Nat} {d' : Drawn} {ch : List Addr} (I : Inv X pins σ H s) (u : Un (frs X.stack) ch H H' s.heap h') (hok : HOk X.prog X.w H' h') (hg : AllBare g')
   (hch : ∀ b ∈ ch, (b ∈ X.ex ∨ X.s₀.heap.objs.size ≤ b) ∧ b ≠ X.env.locals ∧ (∀ x c, X.env.cells.lookup x = some c → c ≠ b) ∧ ∀ p ∈ X.pn ++ pins, p.1 ≠ b) :
   Inv X pins σ H' { s with heap := h', gens := g', drawn := d', toks := t' } := by
 obtain ⟨m, ⟨o, es, ep, ho, r⟩, _⟩ := id I.loc
 obtain ⟨sl, hL⟩ := u.any ho I.free fun z => (hch _ z).2.1 rfl
 exact I.step (ch := ch) hch (fun b o hL hb hc e n => u.keep b o e n (fun z => (List.mem_cons.mp (I.stkSub b z)).elim hL hb) hc) (fun b o _ _ hc e n => u.any e n hc) (fun b o hc e n => u.free b o e n hc) (fun b o hc e => u.there b o e hc) u.tups u.frzs u.tbls (fun m' hm => by
   obtain ⟨o', es', ep', ho', r'⟩ := hm
   rw [ho] at ho'; cases ho'
   exact ⟨_, es', ep', hL, r'⟩) hok hg
theorem Inv.turned {t' : Nat} {it : Addr} (I : Inv X pins σ H s) (k : ∀ b o, b ≠ it → s.heap.get? b = some o → h'.get? b = some o) (hn : H it = none) (hL : it ≠ X.env.locals)
   (h1 : it ∈ X.ex ∨ X.s₀.heap.objs.size ≤ it) (h2 : ∀ x c, X.env.cells.lookup x = some c → c ≠ it) (h3 : ∀ p ∈ X.pn ++ pins, p.1 ≠ it) : Inv X pins σ H { s with heap := h', toks := t' } := by
 have nit : ∀ b u, H b = some u → b ≠ it := fun b u e z => by rw [z, hn] at e; cases e
 refine I.step (g' := s.gens) (d' := s.drawn) (ch := [it]) (fun b hb => ?_) (fun b o _ _ hc e _ => k b o (fun z => hc (by simp [z])) e) (fun b o _ _ hc e _ => ⟨o.slots, k b o (fun z => hc (by simp [z])) e⟩) (fun _ _ _ _ n => n)
   (fun b o hc e => ⟨o, k b o (fun z => hc (by simp [z])) e⟩) (fun _ _ e => e) (fun _ _ _ e => e) (fun b ps e => ⟨#[], by rw [e]; simp⟩) (fun m hm => ?_) (fun b u e => ?_) I.bare
 · have e : b = it := by simpa using hb
   subst e
   exact ⟨h1, hL, h2, h3⟩
 · obtain ⟨o, es, ep, ho, r⟩ := hm
   exact ⟨o, es, ep, k _ o (Ne.symm hL) ho, r⟩
 · refine (I.hok b u e).stay (fun c v hc q => k c v ?_ q) (fun _ q => q) fun _ _ q => q
   rcases hc with z | z
   · rw [z]; exact nit b u e
   · exact nit c _ z
theorem Inv.tok (I : Inv X pins σ H s) (t : Nat) : Inv X pins σ H { s with toks := t } := I.un (h' := s.heap) (t' := t) Un.refl I.hok
theorem Inv.kept {t' : Nat} (I : Inv X pins σ H s) (k : ∀ b u, s.heap.get? b = some u → h'.get? b = some u) : Inv X pins σ H { s with heap := h', toks := t' } := I.un (Un.kept k) (I.hok.kept k)
theorem Inv.laid {a : Addr} {o : HO} {t' : Nat} (I : Inv X pins σ H s) (k : ∀ b u, s.heap.get? b = some u → h'.get? b = some u) (hp : s.heap.objs.size ≤ a) (new : ObjOk X.prog X.w (upd H a o) h' a o) :
   Inv X pins σ (upd H a o) { s with heap := h', toks := t' } := I.un (Un.laid k hp (I.hok.fresh hp)) (I.hok.laid k hp new)
theorem Inv.write {x e : Addr} {o : HO} {t' : Nat} (I : Inv X pins σ H s) (mu : Mut (H x)) (he : e = x ∨ H e = some (.own x)) (k : ∀ b u, b ≠ e → s.heap.get? b = some u → h'.get? b = some u) (heo : ∃ u, h'.get? e = some u)
   (new : ObjOk X.prog X.w (upd H x o) h' x o) : Inv X pins σ (upd H x o) { s with heap := h', toks := t' } := I.un (Un.write mu he k heo) (I.hok.write mu he k heo new)
theorem Inv.weak {σ' : List (Option V)} (I : Inv X pins σ H s) (hl : σ'.length = σ.length) (w : ∀ (i : Nat) v, σ'[i]? = some (some v) → σ[i]? = some (some v)) : Inv X pins σ' H s :=
 ⟨I.ok, I.os, I.bare, I.base, let ⟨m, hn, hl'⟩ := I.loc; ⟨m, hn, fun i x v e1 e2 e3 => hl' i x v e1 (w i v e2) e3⟩, I.cell, I.free, I.freeC, I.pin, I.hok, hl.trans I.len⟩
theorem Inv.pins_of {pins' : List (Addr × Obj)} (I : Inv X pins σ H s) (h : ∀ p ∈ pins', s.heap.get? p.1 = some p.2 ∧ H p.1 = none ∧ p.1 ≠ X.env.locals ∧ p.1 ∉ X.fs ∧ ∀ v, p.2.data ≠ .cell v) : Inv X pins' σ H s :=
 ⟨I.ok, I.os, I.bare, I.base, I.loc, I.cell, I.free, I.freeC, fun p hp => (List.mem_append.mp hp).elim (fun z => I.pin p (List.mem_append_left _ z)) (h p), I.hok, I.len⟩
theorem nodup_ix {N : List Str} (hN : N.Nodup) {i j : Nat} {x : Str} (a : N[i]? = some x) (b : N[j]? = some x) : i = j := by
 obtain ⟨h1, e1⟩ := List.getElem?_eq_some_iff.mp a
 obtain ⟨h2, e2⟩ := List.getElem?_eq_some_iff.mp b
 exact (List.getElem_inj hN).mp (e1.trans e2.symm)
theorem store_ok2 {M : Model} {A : Around} {E : Value → Shared → Prop} {i : Nat} {x : Str} {v : V} {u : Value} {Q : Unit → Shared → Prop} (I : Inv X pins σ H s) (hN : X.N.Nodup) (hi : X.N[i]? = some x) (hx : Loc X.env.scope x) (r : RelV v u)
   (h : ∀ s', Inv X pins (σ.set i (some v)) H s' → (∃ a, Heap.SameBut a s.heap s'.heap ∧ (a = X.env.locals ∨ X.env.cells.lookup x = some a)) → Q () s') (hf : X.fn x = true ∨ X.env.scope.names.lookup x = some .local := by first | exact .inl rfl | exact .inr rfl | assumption) : wpAny M A (storeName X.env x u) Q E s := by
 obtain ⟨m, hn, hl⟩ := id I.loc
 have hcls : (X.env.scope.kind == .class || (X.env.scope.kind == .module && X.env.locals != X.env.globals)) = false := by rw [I.ok.kind]; rfl
 have hiσ : i < σ.length := by rw [I.len]; exact (List.getElem?_eq_some_iff.mp hi).1
 have cne := I.cne
 have tracked : ∀ {a : Addr} {h' : Heap}, (∃ o, s.heap.get? a = some o ∧ H a = none) → Heap.SameBut a s.heap h' → HOk X.prog X.w H h' := fun {a h'} ha hs b ob e => by
   obtain ⟨_, _, hfree⟩ := ha
   refine (I.hok b ob e).stay (fun c w' hc q => (hs.2 c ?_).trans q) (fun _ q => q) fun _ _ q => q
   rintro rfl
   rcases hc with rfl | hc
   · rw [hfree] at e; cases e
   · rw [hfree] at hc; cases hc
 rcases hx with hk | hk
 · refine wpAny_storeName_local hk hn (fun h' hn' hs => ?_) hcls
   obtain ⟨oL, _, _, hoL, _⟩ := id hn
   refine h _ ⟨I.ok, I.os, I.bare, ⟨fun b o e n hb hx => ?_, fun b o e n hb hx => ?_, I.base.free, fun b o e hx => ?_, I.base.tups, I.base.frzs, I.base.tbls⟩, ⟨_, hn', fun j y v' e1 e2 e3 => ?_⟩, fun y c e => ?_, I.free, I.freeC, fun p hp => ?_, tracked ⟨oL, hoL, I.free⟩ hs, by simpa using I.len⟩ ⟨_, hs, .inl rfl⟩
   · exact (hs.2 b (Nat.ne_of_lt (Nat.lt_of_lt_of_le (Heap.lt_size e) I.ok.above))).trans (I.base.keep b o e n hb hx)
   · obtain ⟨sl, e1⟩ := I.base.slot b o e n hb hx
     exact ⟨sl, (hs.2 b (Nat.ne_of_lt (Nat.lt_of_lt_of_le (Heap.lt_size e) I.ok.above))).trans e1⟩
   · obtain ⟨o', e1⟩ := I.base.there b o e hx
     exact ⟨o', (hs.2 b (Nat.ne_of_lt (Nat.lt_of_lt_of_le (Heap.lt_size e) I.ok.above))).trans e1⟩
   · by_cases hj : j = i
     · subst hj
       rw [hi] at e1; cases e1
       rw [List.getElem?_set_self hiσ] at e2
       cases e2
       exact ⟨u, r, .inl ⟨hk, by simp⟩⟩
     · rw [List.getElem?_set_ne (Ne.symm hj)] at e2
       obtain ⟨u', r', q⟩ := hl j y v' e1 e2 e3
       refine ⟨u', r', ?_⟩
       rcases q with ⟨k, e⟩ | ⟨k, c, e, z⟩
       · refine .inl ⟨k, ?_⟩
         have : y ≠ x := fun e => hj (nodup_ix hN e1 (e ▸ hi))
         simp [this, e]
       · exact .inr ⟨k, c, e, z.sameBut hs (cne y c e)⟩
   · obtain ⟨w', z⟩ := I.cell y c e
     exact ⟨w', z.sameBut hs (cne y c e)⟩
   · obtain ⟨e, n, ne, nf, d⟩ := I.pin p hp
     exact ⟨(hs.2 p.1 ne).trans e, n, ne, nf, d⟩
 · have hfn : X.fn x = true := by
     rcases hf with z | z
     · exact z
     · rw [z] at hk; cases hk
   obtain ⟨c, hc⟩ := I.ok.has x (.inl hk)
   obtain ⟨w', z⟩ := I.cell x c hc
   refine wpAny_storeName_cell I.ok.kind hk hc z (fun h' hc' hs => ?_)
   obtain ⟨oc, hoc, hocd⟩ := id z
   refine h { s with heap := h' } ⟨I.ok, I.os, I.bare, ⟨fun b o e n hb hx => ?_, fun b o e n hb hx => ?_, I.base.free, fun b o e hx => ?_, I.base.tups, I.base.frzs, I.base.tbls⟩, ⟨m, hn.sameBut hs (Ne.symm (cne x c hc)), fun j y v' e1 e2 e3 => ?_⟩, fun y c' e => ?_, I.free, I.freeC, fun p hp => ?_, tracked ⟨oc, hoc, I.freeC x c hc⟩ hs, by simpa using I.len⟩ ⟨c, hs, .inr hc⟩
   · exact (hs.2 b (Nat.ne_of_lt (Nat.lt_of_lt_of_le (Heap.lt_size e) (I.ok.cab x c hfn hc)))).trans (I.base.keep b o e n hb hx)
   · obtain ⟨sl, e1⟩ := I.base.slot b o e n hb hx
     exact ⟨sl, (hs.2 b (Nat.ne_of_lt (Nat.lt_of_lt_of_le (Heap.lt_size e) (I.ok.cab x c hfn hc)))).trans e1⟩
   · obtain ⟨o', e1⟩ := I.base.there b o e hx
     exact ⟨o', (hs.2 b (Nat.ne_of_lt (Nat.lt_of_lt_of_le (Heap.lt_size e) (I.ok.cab x c hfn hc)))).trans e1⟩
   · by_cases hj : j = i
     · subst hj
       rw [hi] at e1; cases e1
       rw [List.getElem?_set_self hiσ] at e2
       cases e2
       exact ⟨u, r, .inr ⟨.inl hk, c, hc, hc'⟩⟩
     · rw [List.getElem?_set_ne (Ne.symm hj)] at e2
       obtain ⟨u', r', q⟩ := hl j y v' e1 e2 e3
       refine ⟨u', r', ?_⟩
       rcases q with q | ⟨k, c', e, z'⟩
       · exact .inl q
       · refine .inr ⟨k, c', e, z'.sameBut hs ?_⟩
         rintro rfl
         exact hj (nodup_ix hN e1 (I.ok.inj _ _ _ e hc ▸ hi))
   · by_cases hcc : c' = c
     · subst hcc; exact ⟨_, hc'⟩
     · obtain ⟨w2, z2⟩ := I.cell y c' e
       exact ⟨w2, z2.sameBut hs hcc⟩
   · obtain ⟨e, n, ne, nf, d⟩ := I.pin p hp
     refine ⟨(hs.2 p.1 ?_).trans e, n, ne, nf, d⟩
     intro q
     rw [q, hoc] at e
     have q' : oc = p.2 := Option.some.inj e
     exact d w' (by rw [← q']; exact hocd)
theorem store_ok {M : Model} {A : Around} {E : Value → Shared → Prop} {i : Nat} {x : Str} {v : V} {u : Value} {Q : Unit → Shared → Prop} (I : Inv X pins σ H s) (hN : X.N.Nodup) (hi : X.N[i]? = some x) (hx : Loc X.env.scope x) (r : RelV v u)
   (h : ∀ s', Inv X pins (σ.set i (some v)) H s' → Q () s') (hf : X.fn x = true ∨ X.env.scope.names.lookup x = some .local := by first | exact .inl rfl | exact .inr rfl | assumption) : wpAny M A (storeName X.env x u) Q E s :=
 store_ok2 I hN hi hx r (fun s' I' _ => h s' I') hf
theorem Inv.call' {s' : Shared} {ch : List Addr} (I : Inv X pins σ H s) (ho : s'.os = s.os) (u : Un (frs X.stack) ch H H' s.heap s'.heap) (hok : HOk X.prog X.w H' s'.heap) (hg : AllBare s'.gens)
   (hch : ∀ b ∈ ch, (b ∈ X.ex ∨ X.s₀.heap.objs.size ≤ b) ∧ b ≠ X.env.locals ∧ (∀ x c, X.env.cells.lookup x = some c → c ≠ b) ∧ ∀ p ∈ X.pn ++ pins, p.1 ≠ b) : Inv X pins σ H' s' := by
 obtain ⟨h', g', d', t', o'⟩ := s'
 have e : o' = s.os := ho
 subst e
 exact I.call (g' := g') (t' := t') (d' := d') u hok hg hch
end
abbrev XK := Value → Option Addr → Hp → Prop
abbrev St := List (Option V)
abbrev VK := V → Hp → Prop
abbrev TE := St → Hp → VK → Prop
abbrev TT := St → Hp → (Bool → Hp → Prop) → Prop
abbrev TA := St → Hp → (List V → Hp → Prop) → Prop
structure Ends where
 nx : St → Hp → Prop
 rt : VK
 bk : St → Hp → Prop := fun _ _ => False
 ct : St → Hp → Prop := fun _ _ => False
abbrev TS := Ends → St → Hp → Prop
def EP (X : Cx) (pins : List (Addr × Obj)) (σ : St) (Q : VK) (u : Value) (s' : Shared) : Prop := ∃ v H', Inv X pins σ H' s' ∧ RelV v u ∧ Q v H'
def TP (X : Cx) (pins : List (Addr × Obj)) (σ : St) (Q : Bool → Hp → Prop) (b : Bool) (s' : Shared) : Prop := ∃ H', Inv X pins σ H' s' ∧ Q b H'
def AP (X : Cx) (pins : List (Addr × Obj)) (σ : St) (Q : List V → Hp → Prop) (us : List Value) (s' : Shared) : Prop := ∃ vs H', Inv X pins σ H' s' ∧ Vals vs us ∧ Q vs H'
def SP (X : Cx) (pins : List (Addr × Obj)) (D : Ends) (f : Flow) (s' : Shared) : Prop :=
 match f with
 | .next => ∃ σ' H', Inv X pins σ' H' s' ∧ D.nx σ' H'
 | .brk => ∃ σ' H', Inv X pins σ' H' s' ∧ D.bk σ' H'
 | .cont => ∃ σ' H', Inv X pins σ' H' s' ∧ D.ct σ' H'
 | .ret u => ∃ v σ' H', Inv X pins σ' H' s' ∧ RelV v u ∧ D.rt v H'
def PE (X : Cx) (e : Expr) (t : TE) : Prop :=
 ∀ (pins : List (Addr × Obj)) (s : Shared) (σ : St) (H : Hp) (Q : VK), Inv X pins σ H s → t σ H Q → wpAny (model X.prog X.w) X.A (eval e X.env) (EP X pins σ Q) X.xe s
def PT (X : Cx) (e : Expr) (t : TT) : Prop :=
 ∀ (pins : List (Addr × Obj)) (s : Shared) (σ : St) (H : Hp) (Q : Bool → Hp → Prop), Inv X pins σ H s → t σ H Q → wpAny (model X.prog X.w) X.A (isTrue e X.env (eval e X.env)) (TP X pins σ Q) X.xe s
def PW (X : Cx) (e : Expr) (t : TT) : Prop :=
 ∀ (whole : Sem Value) (pins : List (Addr × Obj)) (s : Shared) (σ : St) (H : Hp) (Q : Bool → Hp → Prop), Inv X pins σ H s → t σ H Q → wpAny (model X.prog X.w) X.A (isTrue e X.env whole) (TP X pins σ Q) X.xe s
theorem PW.pt {X : Cx} {e : Expr} {t : TT} (h : PW X e t) : PT X e t := h _
def PA (X : Cx) (es : List Expr) (t : TA) : Prop :=
 ∀ (pos : Pos) (pins : List (Addr × Obj)) (s : Shared) (σ : St) (H : Hp) (Q : List V → Hp → Prop), Inv X pins σ H s → t σ H Q → wpAny (model X.prog X.w) X.A (spliced (backTo pos (starEach es X.env))) (AP X pins σ Q) X.xe s
def PS (X : Cx) (st : Stmt) (t : TS) : Prop :=
 ∀ (pins : List (Addr × Obj)) (s : Shared) (σ : St) (H : Hp) (D : Ends), Inv X pins σ H s → t D σ H → wpAny (model X.prog X.w) X.A (exec st X.env) (SP X pins D) X.xe s
def PSs (X : Cx) (st : List Stmt) (t : TS) : Prop :=
 ∀ (pins : List (Addr × Obj)) (s : Shared) (σ : St) (H : Hp) (D : Ends), Inv X pins σ H s → t D σ H → wpAny (model X.prog X.w) X.A (execs st X.env) (SP X pins D) X.xe s
theorem thn {α : Type} {t : Sem α} {Q Q' : α → Shared → Prop} {M : Model} {A : Around} {E : Value → Shared → Prop} {s : Shared} (h : wpAny M A t Q E s) (hQ : ∀ a s, Q a s → Q' a s) : wpAny M A t Q' E s := wpAny_mono h hQ fun _ _ x => x
end L2
namespace L2
open PySem PySem.Spec PyProof.Rows
section
variable {X : Cx}
def tVar (i : Nat) : TE := fun σ H Q => ∃ v, σ[i]? = some (some v) ∧ Q v H
def tC (v : V) : TE := fun _ H Q => Q v H
theorem pe_var {i : Nat} {x : Str} {pos : Pos} (hN : X.N[i]? = some x) (hv : Vis X.env.scope x) (hd : (x == ("__debug__" : Str)) = false := by decide) (hcd : (x == ("__classdict__" : Str)) = false := by decide) : PE X (.Name x pos) (tVar i) := by
 intro pins s σ H Q I h
 obtain ⟨v, e, h⟩ := h
 obtain ⟨m, hn, hl⟩ := I.loc
 obtain ⟨u, r, l⟩ := hl i x v hN e hv
 have fin : EP X pins σ Q u s := ⟨v, H, I, r, h⟩
 rcases l with ⟨hk, hm⟩ | ⟨hk, c, hc, hcell⟩
 · exact wpAny_Name (wpAny_loadName_local I.ok.kind hk hn hm fin) hd
 · rcases hk with hk | hk
   · exact wpAny_Name (wpAny_loadName_cell I.ok.kind hk hc hcell fin) hd
   · exact wpAny_Name (wpAny_loadName_free I.ok.kind hk hc hcell fin hcd) hd
theorem qG {i j pos} : PE X (.Constant (.int i) j pos) (tC (.int i)) := fun _ _ _ H _ I h => wpAny_Constant_int ⟨.int i, H, I.tok _, ⟨_, rfl⟩, h⟩
theorem pe_bl {b j pos} : PE X (.Constant (.bool b) j pos) (tC (.bl b)) := fun _ _ _ H _ I h => Constant_bool ⟨.bl b, H, I, rfl, h⟩
theorem pe_non {j pos} : PE X (.Constant .none j pos) (tC .non) := fun _ _ _ H _ I h => Constant_none ⟨.non, H, I, rfl, h⟩
theorem qD {x j pos} : PE X (.Constant (.str x) j pos) (tC (.str x)) := fun _ _ _ H _ I h => Calls.Constant_str ⟨.str x, H, I.tok _, ⟨_, rfl⟩, h⟩
def Gl (X : Cx) (x : Str) : Prop := X.env.kindOf x = some .globalImplicit
theorem ld_glob {E : Value → Shared → Prop} {pins : List (Addr × Obj)} {s : Shared} {σ : St} {H : Hp} {x : Str} {u : Value} {pos : Pos} {Q : Value → Shared → Prop} (I : Inv X pins σ H s) (hg : Gl X x) (hm : X.mg x = some u) (h : Q u s)
   (hd : (x == ("__debug__" : Str)) = false := by decide) : wpAny (model X.prog X.w) X.A (eval (.Name x pos) X.env) Q E s :=
 Calls.Name_function_global I.ok.kind hg (Calls.loadGlobal_global (by rw [I.ok.glob]; exact I.mod.glob.keeps I.bk) hm h) hd
theorem ld_blt {E : Value → Shared → Prop} {pins : List (Addr × Obj)} {s : Shared} {σ : St} {H : Hp} {x : Str} {u : Value} {pos : Pos} {Q : Value → Shared → Prop} (I : Inv X pins σ H s) (hg : Gl X x) (hm : X.mg x = none) (hv : bootBuiltins x = some u) (h : Q u s)
   (hn : x ≠ "__name__" := by decide) (hd : (x == ("__debug__" : Str)) = false := by decide) : wpAny (model X.prog X.w) X.A (eval (.Name x pos) X.env) Q E s := by
 obtain ⟨mb, h1, h2⟩ := I.mod.blt
 exact Calls.Name_function_global I.ok.kind hg (Calls.loadGlobal_builtin (by rw [I.ok.glob]; exact I.mod.glob.keeps I.bk) hm (by rw [I.ok.blt]; exact h1.keeps I.bk) ((h2 x hn).trans hv) h) hd
theorem pe_glob {x : Str} {v : V} {u : Value} {pos : Pos} (hg : Gl X x) (hm : X.mg x = some u) (r : RelV v u) (hd : (x == ("__debug__" : Str)) = false := by decide) : PE X (.Name x pos) (tC v) :=
 fun _ _ _ H _ I h => ld_glob I hg hm ⟨v, H, I, r, h⟩ hd
theorem pe_bltn {x : Str} {v : V} {u : Value} {pos : Pos} (hg : Gl X x) (hm : X.mg x = none) (hv : bootBuiltins x = some u) (r : RelV v u) (hn : x ≠ "__name__" := by decide) (hd : (x == ("__debug__" : Str)) = false := by decide) : PE X (.Name x pos) (tC v) :=
 fun _ _ _ H _ I h => ld_blt I hg hm hv ⟨v, H, I, r, h⟩ hn hd
variable {a b : Expr} {ta tb : TE} {pos : Pos}
def tB (t : TE) : TT := fun σ H Q => t σ H fun x H1 => ∃ c, x = .bl c ∧ Q c H1
theorem pt_val {e : Expr} {t : TE} (h : PE X e t) (he : ∀ whole, isTrue e X.env whole = (do let v ← whole; standAt e.pos; holding [v] (truthy v)) := by intro _; rfl) : PT X e (tB t) := by
 intro pins s σ H Q I hw
 refine isTrue_plain (thn (h pins s σ H _ I hw) fun v s1 ⟨x, H1, I1, r1, q1⟩ => ?_) (he _)
 obtain ⟨d, rfl, q⟩ := q1
 cases r1
 exact wpAny_truthy_bool ⟨H1, I1, q⟩
variable {tA tB' : TT} {rest : List Expr}
def tAnd (t u : TT) : TT := fun σ H Q => t σ H fun c H1 => if c = true then u σ H1 Q else Q false H1
def tOr (t u : TT) : TT := fun σ H Q => t σ H fun c H1 => if c = true then Q true H1 else u σ H1 Q
def tNot (t : TT) : TT := fun σ H Q => t σ H fun c H1 => Q (!c) H1
theorem pw_and1 (ha : PT X a tA) : PW X (.BoolOp .And [a] pos) tA := by
 intro wh pins s σ H Q I h
 refine isTrue_and (thn (ha pins s σ H Q I h) fun c s1 e => ?_)
 cases c with
 | true => exact isTrue_and_nil e
 | false => exact e
theorem pw_or1 (ha : PT X a tA) : PW X (.BoolOp .Or [a] pos) tA := by
 intro wh pins s σ H Q I h
 refine isTrue_or (thn (ha pins s σ H Q I h) fun c s1 e => ?_)
 cases c with
 | false => exact isTrue_or_nil e
 | true => exact e
theorem pw_and (ha : PT X a tA) (hb : PW X (.BoolOp .And (b :: rest) pos) tB') : PW X (.BoolOp .And (a :: b :: rest) pos) (tAnd tA tB') := by
 intro wh pins s σ H Q I h
 refine isTrue_and (thn (ha pins s σ H _ I h) fun c s1 ⟨H1, I1, q1⟩ => ?_)
 cases c with
 | true => exact hb wh pins s1 σ H1 Q I1 q1
 | false => exact ⟨H1, I1, q1⟩
theorem pw_or (ha : PT X a tA) (hb : PW X (.BoolOp .Or (b :: rest) pos) tB') : PW X (.BoolOp .Or (a :: b :: rest) pos) (tOr tA tB') := by
 intro wh pins s σ H Q I h
 refine isTrue_or (thn (ha pins s σ H _ I h) fun c s1 ⟨H1, I1, q1⟩ => ?_)
 cases c with
 | true => exact ⟨H1, I1, q1⟩
 | false => exact hb wh pins s1 σ H1 Q I1 q1
theorem pt_not (ha : PT X a tA) : PT X (.UnaryOp .Not a pos) (tNot tA) := by
 intro pins s σ H Q I h
 exact isTrue_not (ha pins s σ H (fun c H1 => Q (!c) H1) I h)
def tAndV (ta tb : TE) : TE := fun σ H Q => ta σ H fun x H1 => ∃ c, x = .bl c ∧ if c = true then tb σ H1 Q else Q (.bl false) H1
def tNotV (ta : TE) : TE := fun σ H Q => ta σ H fun x H1 => ∃ c, x = .bl c ∧ Q (.bl (!c)) H1
theorem pe_one {op} {t : TE} (h : PE X a t) : PE X (.BoolOp op [a] pos) t := fun pins s σ H Q I hw => BoolOp_one (h pins s σ H Q I hw)
theorem pe_and (ha : PE X a ta) (hb : PE X (.BoolOp .And (b :: rest) pos) tb) : PE X (.BoolOp .And (a :: b :: rest) pos) (tAndV ta tb) := by
 intro pins s σ H Q I h
 refine BoolOp_and (thn (ha pins s σ H _ I h) fun v s1 ⟨x, H1, I1, r1, q1⟩ => ?_)
 obtain ⟨c, rfl, q1⟩ := q1
 cases r1
 refine wpAny_truthy_bool ?_
 cases c with
 | true => exact hb pins s1 σ H1 Q I1 q1
 | false => exact ⟨.bl false, H1, I1, rfl, q1⟩
theorem pe_not (ha : PE X a ta) : PE X (.UnaryOp .Not a pos) (tNotV ta) := by
 intro pins s σ H Q I h
 refine UnaryOp_ (thn (ha pins s σ H _ I h) fun v s1 ⟨x, H1, I1, r1, q1⟩ => ?_)
 obtain ⟨c, rfl, q1⟩ := q1
 cases r1
 exact not_of (wpAny_truthy_bool ⟨.bl (!c), H1, I1, rfl, q1⟩)
def tIf (t : TT) (ta tb : TE) : TE := fun σ H Q => t σ H fun c H1 => if c = true then ta σ H1 Q else tb σ H1 Q
theorem pe_ifExp {c : Expr} (hc : PT X c tA) (ha : PE X a ta) (hb : PE X b tb) : PE X (.IfExp c a b pos) (tIf tA ta tb) := by
 intro pins s σ H Q I h
 refine wpAny_IfExp (thn (hc pins s σ H _ I h) fun d s1 ⟨H1, I1, q1⟩ => ?_)
 cases d with
 | true => exact ha pins s1 σ H1 Q I1 q1
 | false => exact hb pins s1 σ H1 Q I1 q1
end
end L2
namespace L2
open PySem PySem.Spec PyProof.Rows
def SqL (K : W.Frag) (H : Hp) (a : Addr) (xs : List V) : Prop :=
 Rd H a (.lst xs) ∨
   ∃ (o : Obj) (its : Array Value) (n : Nat), K.lookup a = some o ∧ o.cls = .type "list" ∧ o.dict = none ∧ o.data = .seq its n ∧ its.size ≤ sizeLine ∧ Vals xs its.toList
def SqT (K : W.Frag) (H : Hp) (a : Addr) (xs : List V) : Prop :=
 Rd H a (.tup xs) ∨
   ∃ (o : Obj) (its : Array Value) (n : Nat), K.lookup a = some o ∧ o.cls = .type "tuple" ∧ o.data = .seq its n ∧ its.size ≤ sizeLine ∧ Vals xs its.toList
def absV : Value → Option V
 | .none => some .non
 | .bool b => some (.bl b)
 | .int i _ => some (.int i)
 | .str x _ => some (.str x)
 | .bytes b _ => some (.byt b)
 | .float b _ => some (.flt b)
 | .ref a => some (.ref a)
 | .type n => some (.ty n)
 | _ => none
theorem RelV.abs {x : V} {u : Value} (r : RelV x u) : absV u = some x := by
 cases x with
 | non => cases r; rfl
 | bl _ => cases r; rfl
 | int _ => obtain ⟨t, rfl⟩ := r; rfl
 | str _ => obtain ⟨t, rfl⟩ := r; rfl
 | byt _ => obtain ⟨t, rfl⟩ := r; rfl
 | flt _ => obtain ⟨t, rfl⟩ := r; rfl
 | ref _ => cases r; rfl
 | ty _ => cases r; rfl
theorem RelV.inj {x y : V} {u : Value} (r : RelV x u) (q : RelV y u) : x = y := Option.some.inj (r.abs.symm.trans q.abs)
theorem Vals.inj : ∀ {xs ys : List V} {us : List Value}, Vals xs us → Vals ys us → xs = ys
 | _, _, _, .nil, .nil => rfl
 | _, _, _, .cons r t, .cons r' t' => by rw [r.inj r', Vals.inj t t']
section
variable {X : Cx} {pins : List (Addr × Obj)} {σ : St} {H : Hp} {s : Shared} {a : Addr} {xs ys : List V}
theorem Inv.list (I : Inv X pins σ H s) (h : SqL X.K H a xs) : ∃ its : List Value, Vals xs its ∧ PlainL s.heap a its.toArray ∧ xs.length ≤ sizeLine := by
 rcases h with h | ⟨o, its, n, hk, hc, hd, hs, hz, r⟩
 · obtain ⟨z, its, n, r, e⟩ := h.ok I.hok
   exact ⟨its, r, ⟨_, n, e, rfl, rfl, rfl⟩, z⟩
 · refine ⟨its.toList, r, ⟨o, n, I.kIn a o hk, hc, hd, by simpa using hs⟩, ?_⟩
   have e := r.length
   simp only [Array.length_toList] at e
   omega
theorem Inv.tuple (I : Inv X pins σ H s) (h : SqT X.K H a xs) : ∃ its : List Value, Vals xs its ∧ IsTup s.heap a its.toArray ∧ xs.length ≤ sizeLine := by
 rcases h with h | ⟨o, its, n, hk, hc, hs, hz, r⟩
 · obtain ⟨z, its, r, p⟩ := h.ok I.hok
   exact ⟨its, r, p, z⟩
 · refine ⟨its.toList, r, ⟨o, I.kIn a o hk, hc, n, by simpa using hs⟩, ?_⟩
   have e := r.length
   simp only [Array.length_toList] at e
   omega
theorem Inv.list_inj (I : Inv X pins σ H s) (h : SqL X.K H a xs) (h' : SqL X.K H a ys) : xs = ys := by
 obtain ⟨its, r, ⟨o, n, e, _, _, d⟩, _⟩ := I.list h
 obtain ⟨its', r', ⟨o', n', e', _, _, d'⟩, _⟩ := I.list h'
 rw [e] at e'; cases e'
 rw [d] at d'
 injection d' with d1 _
 have : its = its' := by simpa using congrArg Array.toList d1
 subst this
 exact r.inj r'
theorem Inv.tuple_inj (I : Inv X pins σ H s) (h : SqT X.K H a xs) (h' : SqT X.K H a ys) : xs = ys := by
 obtain ⟨its, r, ⟨o, e, _, n, d⟩, _⟩ := I.tuple h
 obtain ⟨its', r', ⟨o', e', _, n', d'⟩, _⟩ := I.tuple h'
 rw [e] at e'; cases e'
 rw [d] at d'
 injection d' with d1 _
 have : its = its' := by simpa using congrArg Array.toList d1
 subst this
 exact r.inj r'
end
abbrev Cx.wish (X : Cx) (E : Value → Shared → Prop) : Cx := { X with xe := E }
abbrev Cx.nox (X : Cx) : Cx := X.wish fun _ _ => False
theorem Cx.Ok.wish {X : Cx} (ok : X.Ok) (E : Value → Shared → Prop) : (X.wish E).Ok :=
 ⟨ok.mod, ok.kind, ok.glob, ok.blt, ok.above, ok.inj, ok.has, ok.cab, ok.hd, ok.frames, ok.stk, ok.exf, ok.bs, ok.bsz, ok.noex, ok.exfs, ok.funs, ok.frf⟩
theorem Cx.Ok.unwish {X : Cx} {E : Value → Shared → Prop} (ok : (X.wish E).Ok) : X.Ok :=
 ⟨ok.mod, ok.kind, ok.glob, ok.blt, ok.above, ok.inj, ok.has, ok.cab, ok.hd, ok.frames, ok.stk, ok.exf, ok.bs, ok.bsz, ok.noex, ok.exfs, ok.funs, ok.frf⟩
section
variable {X : Cx} {pins : List (Addr × Obj)} {σ : St} {H : Hp} {s : Shared} {E : Value → Shared → Prop}
theorem Inv.wish (I : Inv X pins σ H s) (E : Value → Shared → Prop) : Inv (X.wish E) pins σ H s := ⟨I.ok.wish E, I.os, I.bare, I.base, I.loc, I.cell, I.free, I.freeC, I.pin, I.hok, I.len⟩
theorem Inv.unwish (I : Inv (X.wish E) pins σ H s) : Inv X pins σ H s := ⟨I.ok.unwish, I.os, I.bare, I.base, I.loc, I.cell, I.free, I.freeC, I.pin, I.hok, I.len⟩
theorem SP.unwish {D : Ends} {f : Flow} {s' : Shared} (h : SP (X.wish E) pins D f s') : SP X pins D f s' := by
 cases f with
 | next => obtain ⟨σ', H', I, q⟩ := h; exact ⟨σ', H', I.unwish, q⟩
 | brk => obtain ⟨σ', H', I, q⟩ := h; exact ⟨σ', H', I.unwish, q⟩
 | cont => obtain ⟨σ', H', I, q⟩ := h; exact ⟨σ', H', I.unwish, q⟩
 | ret u => obtain ⟨v, σ', H', I, r, q⟩ := h; exact ⟨v, σ', H', I.unwish, r, q⟩
theorem PSs.nox {st : List Stmt} {t : TS} (h : PSs X.nox st t) : PSs X st t := fun pins s σ H D I hw =>
 wpAny_mono (h pins s σ H D (I.wish _) hw) (fun _ _ q => q.unwish) fun _ _ z => False.elim z
end
section
variable {X : Cx} {st : Stmt} {rest : List Stmt} {t u : TS} {e : Expr} {te : TE} {pos : Pos}
def tNext : TS := fun D σ H => D.nx σ H
def tSeq (t u : TS) : TS := fun D σ H => t { D with nx := u D } σ H
theorem pss_nil : PSs X [] tNext := fun _ _ σ H _ I h => wpAny_execs_nil ⟨σ, H, I, h⟩
theorem qV (h1 : PS X st t) (h2 : PSs X rest u) : PSs X (st :: rest) (tSeq t u) := by
 intro pins s σ H D I h
 refine wpAny_execs_cons (thn (h1 pins s σ H { D with nx := u D } I h) fun f s1 q => ?_)
 cases f with
 | next =>
   obtain ⟨σ', H', I', q⟩ := q
   exact h2 pins s1 σ' H' D I' q
 | ret v => exact q
 | brk => exact q
 | cont => exact q
theorem qM (h1 : PS X st t) : PSs X [st] t := by
 intro pins s σ H D I h
 refine wpAny_execs_cons (thn (h1 pins s σ H D I h) fun f s1 q => ?_)
 cases f with
 | next => exact wpAny_execs_nil q
 | ret v => exact q
 | brk => exact q
 | cont => exact q
theorem Inv.quiet {pins : List (Addr × Obj)} {σ : St} {H : Hp} {s : Shared} (I : Inv X pins σ H s) : interactive X.env = false := by simp [interactive, I.ok.kind]
def tDrop (te : TE) : TS := fun D σ H => te σ H fun _ H1 => D.nx σ H1
theorem ps_expr (he : PE X e te) (hs : swapsWith e none pos.line X.env = pure false := by rfl) : PS X (.Expr e pos) (tDrop te) := by
 intro pins s σ H D I h
 exact wpAny_Expr_any (thn (he pins s σ H _ I h) fun v s1 ⟨x, H1, I1, r1, q1⟩ => ⟨σ, H1, I1, q1⟩) I.quiet hs
def tRet (te : TE) : TS := fun D σ H => te σ H D.rt
theorem yJ (he : PE X e te) : PS X (.Return (some e) pos) (tRet te) := by
 intro pins s σ H D I h
 exact wpAny_Return_some (thn (he pins s σ H _ I h) fun v s1 ⟨x, H1, I1, r1, q1⟩ => ⟨x, σ, H1, I1, r1, q1⟩)
def tIfS (c : TT) (t u : TS) : TS := fun D σ H => c σ H fun b H1 => if b = true then t D σ H1 else u D σ H1
theorem ps_if {c : Expr} {a b : List Stmt} {tc : TT} (hc : PT X c tc) (ha : PSs X a t) (hb : PSs X b u) : PS X (.If c a b pos) (tIfS tc t u) := by
 intro pins s σ H D I h
 refine wpAny_If (thn (hc pins s σ H _ I h) fun d s1 ⟨H1, I1, q1⟩ => ?_)
 cases d with
 | true => exact ha pins s1 σ H1 D I1 q1
 | false => exact hb pins s1 σ H1 D I1 q1
end
abbrev TG := V → St → Hp → (St → Hp → Prop) → Prop
abbrev TGs := List V → St → Hp → (St → Hp → Prop) → Prop
def PG (X : Cx) (target : Expr) (t : TG) : Prop :=
 ∀ (pins : List (Addr × Obj)) (s : Shared) (σ : St) (H : Hp) (v : V) (u : Value) (Q : St → Hp → Prop), Inv X pins σ H s → RelV v u → t v σ H Q →
   wpAny (model X.prog X.w) X.A (assign target X.env u) (fun _ s' => ∃ σ' H', Inv X pins σ' H' s' ∧ Q σ' H') X.xe s
def PGs (X : Cx) (ts : List Expr) (t : TGs) : Prop :=
 ∀ (pins : List (Addr × Obj)) (s : Shared) (σ : St) (H : Hp) (vs : List V) (us : List Value) (Q : St → Hp → Prop), Inv X pins σ H s → Vals vs us → t vs σ H Q →
   wpAny (model X.prog X.w) X.A (assignInOrder ((assignEach ts X.env).map (·.2)) us) (fun _ s' => ∃ σ' H', Inv X pins σ' H' s' ∧ Q σ' H') X.xe s
section
variable {X : Cx} {pos : Pos}
def gName (i : Nat) : TG := fun v σ H Q => Q (σ.set i (some v)) H
theorem pg_name {i : Nat} {x : Str} (hN : X.N.Nodup) (hi : X.N[i]? = some x) (hx : Loc X.env.scope x) (hf : X.fn x = true ∨ X.env.scope.names.lookup x = some .local := by first | exact .inl rfl | exact .inr rfl | assumption) : PG X (.Name x pos) (gName i) := by
 intro pins s σ H v u Q I r h
 exact wpAny_assign_Name (store_ok I hN hi hx r (fun s' I' => ⟨_, H, I', h⟩) hf)
def gNil : TGs := fun vs σ H Q => vs = [] ∧ Q σ H
def gCons (t : TG) (u : TGs) : TGs := fun vs σ H Q => ∃ v r, vs = v :: r ∧ t v σ H fun σ' H' => u r σ' H' Q
theorem pgs_nil : PGs X [] gNil := by
 intro pins s σ H vs us Q I r h
 obtain ⟨e, h⟩ := h
 subst e
 cases r
 exact assignInOrder_nil ⟨σ, H, I, h⟩
theorem pgs_cons {e : Expr} {es : List Expr} {t : TG} {u : TGs} (h1 : PG X e t) (h2 : PGs X es u)
   (hs : (assignEach (e :: es) X.env).map (·.2) = assign e X.env :: (assignEach es X.env).map (·.2) := by rfl) : PGs X (e :: es) (gCons t u) := by
 intro pins s σ H vs us Q I r h
 obtain ⟨v, vr, e1, h⟩ := h
 subst e1
 cases r with
 | cons r rr =>
   rw [hs]
   refine assignInOrder_cons (thn (h1 pins s σ H _ _ _ I r h) fun _ s1 ⟨σ1, H1, I1, q1⟩ => ?_)
   exact h2 pins s1 σ1 H1 _ _ Q I1 rr q1
def gTup (K : W.Frag) (n : Nat) (t : TGs) : TG := fun v σ H Q => ∃ a xs, v = .ref a ∧ SqT K H a xs ∧ xs.length = n ∧ t xs σ H Q
theorem pg_tup {es : List Expr} {k : Nat} {t : TGs} {n : Nat} (hc : X.calm = true) (h : PGs X es t)
   (hn : (assignEach es X.env).length = n := by rfl) (hst : (assignEach es X.env).findIdx? (·.1) = none := by rfl) : PG X (.Tuple es k pos) (gTup X.K n t) := by
 intro pins s σ H v u Q I r hw
 obtain ⟨a, xs, e1, hq, hl, hw⟩ := hw
 subst e1
 cases r
 obtain ⟨its, rv, ht, hz⟩ := I.tuple hq
 refine assign_Tuple_tuple (I.ok.hd hc) ht (by simp [hn, ← hl, rv.length]) hst fun h' hx => ?_
 have I1 : Inv X pins σ H { s with heap := h' } := I.kept (t' := s.toks) fun b o e => hx b o (Nat.ne_of_lt (Heap.lt_size e)) e
 exact h pins _ σ H xs _ Q I1 (by simpa using rv) hw
def tAsg (te : TE) (g : TG) : TS := fun D σ H => te σ H fun x H1 => g x σ H1 D.nx
theorem yV {i : Nat} {x : Str} {e : Expr} {te : TE} {pos' : Pos} (hN : X.N.Nodup) (hi : X.N[i]? = some x) (hx : Loc X.env.scope x) (he : PE X e te) (hs : swapsWith e (some (.Name x pos')) pos.line X.env = pure false := by rfl) (hf : X.fn x = true ∨ X.env.scope.names.lookup x = some .local := by first | exact .inl rfl | exact .inr rfl | assumption) :
   PS X (.Assign [.Name x pos'] e pos) (tAsg te (gName i)) := by
 intro pins s σ H D I h
 refine wpAny_Assign_Name (thn (he pins s σ H _ I h) fun v s1 ⟨y, H1, I1, r1, q1⟩ => ?_) hs
 exact store_ok I1 hN hi hx r1 (fun s2 I2 => ⟨_, H1, I2, q1⟩) hf
end
structure It where
 go : Nat → Hp → Prop
 yld : Nat → Hp → V → Hp → Prop
 stop : Nat → Hp → Prop
def FpOk (X : Cx) (pins : List (Addr × Obj)) (H : Hp) (b : Addr) : Prop :=
 H b = none ∧ b ≠ X.env.locals ∧ b ∉ X.fs ∧ (b ∈ X.ex ∨ X.s₀.heap.objs.size ≤ b) ∧ (∀ x c, X.env.cells.lookup x = some c → c ≠ b) ∧ ∀ p ∈ X.pn ++ pins, p.1 ≠ b
theorem Inv.fpOk {X : Cx} {pins : List (Addr × Obj)} {σ : St} {H H' : Hp} {s : Shared} {b : Addr} (I : Inv X pins σ H s) (hb : s.heap.objs.size ≤ b) (hn : H' b = none) : FpOk X pins H' b := by
 refine ⟨hn, Nat.ne_of_gt (Nat.lt_of_lt_of_le I.lt hb), I.nofs hb, .inr (Nat.le_trans I.sz hb), fun x c e z => ?_, fun p hp z => ?_⟩
 · obtain ⟨v, q⟩ := I.cell x c e
   exact absurd (Nat.lt_of_lt_of_le q.lt (by rw [z]; exact hb)) (Nat.lt_irrefl _)
 · exact absurd (Nat.lt_of_lt_of_le (Heap.lt_size (I.pin p hp).1) (by rw [z]; exact hb)) (Nat.lt_irrefl _)
structure Turn (P : Program) (w : World) (K : W.Frag) (tg : Expr) (J : It) (fp : List Addr) (it : Addr) (tn : Nat → Heap → Prop) : Prop where
 mem : it ∈ fp
 obj : ∀ i h, tn i h → ∀ b ∈ fp, ∃ o, h.get? b = some o ∧ ∀ v, o.data ≠ .cell v
 keep : ∀ i h h', tn i h → (∀ b ∈ fp, ∀ o, h.get? b = some o → h'.get? b = some o) → tn i h'
 item : ∀ (X : Cx), X.prog = P → X.w = w → X.K = K → X.calm = true → ∀ (i : Nat) (pins : List (Addr × Obj)) (s : Shared) (σ : St) (H : Hp) (E : Value → Shared → Prop), Inv X pins σ H s → (∀ b ∈ fp, FpOk X pins H b) → tn i s.heap → J.go i H →
   wpAny (model P w) X.A (pyNext (.ref it)) (fun r s1 => ∃ u, r = some u ∧
     wpAny (model P w) X.A (letOwnedTupleGo tg (.ref it) u) (fun _ s2 => ∃ x H', Inv X pins σ H' s2 ∧ RelV x u ∧ J.yld i H x H' ∧ tn (i + 1) s2.heap ∧ ∀ b ∈ fp, H' b = none) E s1) E s
 done : ∀ (X : Cx), X.prog = P → X.w = w → X.K = K → X.calm = true → ∀ (i : Nat) (pins : List (Addr × Obj)) (s : Shared) (σ : St) (H : Hp) (E : Value → Shared → Prop), Inv X pins σ H s → (∀ b ∈ fp, FpOk X pins H b) → tn i s.heap → J.stop i H →
   wpAny (model P w) X.A (pyNext (.ref it)) (fun r s1 => r = none ∧ Inv X pins σ H s1) E s
 self : ∀ (A : Around) (i : Nat) (s : Shared) (Q : Value → Shared → Prop) (E : Value → Shared → Prop), tn i s.heap → Q (.ref it) s → wpAny (model P w) A (pyIter (.ref it)) Q E s
abbrev TI := St → Hp → (It → Hp → Prop) → Prop
def PIE (X : Cx) (pins : List (Addr × Obj)) (σ : St) (tg : Expr) (R : It → Hp → Prop) (itv : Value) (s2 : Shared) : Prop :=
 ∃ (it : Addr) (fp : List Addr) (tn : Nat → Heap → Prop) (J : It) (H' : Hp), itv = .ref it ∧ Inv X pins σ H' s2 ∧ Turn X.prog X.w X.K tg J fp it tn ∧ tn 0 s2.heap ∧ (∀ b ∈ fp, FpOk X pins H' b) ∧ R J H'
def PI (X : Cx) (tg iter : Expr) (wi : TI) : Prop :=
 ∀ (pins : List (Addr × Obj)) (s : Shared) (σ : St) (H : Hp) (R : It → Hp → Prop), Inv X pins σ H s → wi σ H R →
   wpAny (model X.prog X.w) X.A (eval iter X.env) (fun v s1 => wpAny (model X.prog X.w) X.A (pyIter v) (PIE X pins σ tg R) X.xe s1) X.xe s
theorem go_of {M : Model} {A : Around} {E : Value → Shared → Prop} {s : Shared} {tg : Expr} {it : Addr} {u : Value} {o : Obj} {n : String} {vs : Array Value} {Q : Unit → Shared → Prop} (ho : s.heap.get? it = some o) (hc : o.cls = .type n) (hd : o.data = .fields vs)
   (hn : ["enumerate", "zip", "dict_itemiterator", "dict_reverseitemiterator", "odict_iterator", "itertools.zip_longest", "itertools.pairwise"].contains n = false) (hQ : Q () s) : wpAny M A (letOwnedTupleGo tg (.ref it) u) Q E s := by
 unfold letOwnedTupleGo
 cases tg <;> first
   | exact wpAny_pure hQ
   | (cases u <;> first
       | exact wpAny_pure hQ
       | (refine wpAny_bind (wpAny_load ho ?_)
          rw [hc, hd]
          show wpAny M A (if (["enumerate", "zip", "dict_itemiterator", "dict_reverseitemiterator", "odict_iterator", "itertools.zip_longest", "itertools.pairwise"].contains n && vs[0]? == some (rawInt _)) = true then _ else _) Q E s
          rw [if_neg (by intro h; rw [hn, Bool.false_and] at h; cases h)]
          exact wpAny_pure hQ))
def Itl (K : W.Frag) (a : Addr) : It :=
 ⟨fun i H => ∃ xs x, SqL K H a xs ∧ xs[i]? = some x, fun i H x H' => H' = H ∧ ∀ xs, SqL K H a xs → xs[i]? = some x, fun i H => ∃ xs, SqL K H a xs ∧ xs.length ≤ i⟩
def Itt (K : W.Frag) (a : Addr) : It :=
 ⟨fun i H => ∃ xs x, SqT K H a xs ∧ xs[i]? = some x, fun i H x H' => H' = H ∧ ∀ xs, SqT K H a xs → xs[i]? = some x, fun i H => ∃ xs, SqT K H a xs ∧ xs.length ≤ i⟩
def Itr (lo : Int) (n : Nat) : It := ⟨fun i _ => i < n, fun i H x H' => H' = H ∧ x = .int (lo + i), fun i _ => n ≤ i⟩
theorem turn_list {P : Program} {w : World} {K : W.Frag} {tg : Expr} (a it : Addr) : Turn P w K tg (Itl K a) [it] it (fun i h => h.IsListIter it a i) where
 mem := by simp
 obj := fun i h st b hb => by
   have e : b = it := by simpa using hb
   subst e
   obtain ⟨o, e, c, d⟩ := st
   exact ⟨o, e, fun v z => by rw [d] at z; cases z⟩
 keep := fun i h h' st k => st.at fun o e => k it (by simp) o e
 item := by
   intro X hP hw hK hc i pins s σ H E I hf st hg
   subst hP hw hK
   obtain ⟨xs, x, hq, hx⟩ := hg
   obtain ⟨its, rv, p, hz⟩ := I.list hq
   obtain ⟨u, hu, ru⟩ := rv.get hx
   obtain ⟨f0, f1, f2, f3, f4, f5⟩ := hf it (by simp)
   refine wpAny_pyNext_list_item st p.isList (x := u) (by simpa using hu) fun h' st' sb => ?_
   have I1 : Inv X pins σ H { s with heap := h' } := I.turned (t' := s.toks) (fun b o hb e => (sb.2 b hb).trans e) f0 f1 f3 f4 f5
   obtain ⟨o, e, c, d⟩ := id st'
   exact ⟨u, rfl, go_of (s := { s with heap := h' }) e c d (by decide) ⟨x, H, I1, ru, ⟨rfl, fun ys hy => by rw [I.list_inj hy hq]; exact hx⟩, st', fun b hb => (hf b hb).1⟩⟩
 done := by
   intro X hP hw hK hc i pins s σ H E I hf st hg
   subst hP hw hK
   obtain ⟨xs, hq, hx⟩ := hg
   obtain ⟨its, rv, p, hz⟩ := I.list hq
   obtain ⟨f0, f1, f2, f3, f4, f5⟩ := hf it (by simp)
   have hl := rv.length
   exact wpAny_pyNext_list_end (I.ok.hd hc) st p.isList (by simp; omega) fun h' eb => ⟨rfl, I.turned (t' := s.toks) (fun b o hb e => eb b o hb e) f0 f1 f3 f4 f5⟩
 self := fun _ _ _ _ _ st h => wpAny_pyIter_listiter st h
theorem turn_tuple {P : Program} {w : World} {K : W.Frag} {tg : Expr} (a it : Addr) : Turn P w K tg (Itt K a) [it] it (fun i h => h.IsTupleIter it a i) where
 mem := by simp
 obj := fun i h st b hb => by
   have e : b = it := by simpa using hb
   subst e
   obtain ⟨o, e, c, d⟩ := st
   exact ⟨o, e, fun v z => by rw [d] at z; cases z⟩
 keep := fun i h h' st k => st.at fun o e => k it (by simp) o e
 item := by
   intro X hP hw hK hc i pins s σ H E I hf st hg
   subst hP hw hK
   obtain ⟨xs, x, hq, hx⟩ := hg
   obtain ⟨its, rv, p, hz⟩ := I.tuple hq
   obtain ⟨u, hu, ru⟩ := rv.get hx
   obtain ⟨f0, f1, f2, f3, f4, f5⟩ := hf it (by simp)
   refine wpAny_pyNext_tuple_item st (show s.heap.IsTuple a its.toArray from p) (x := u) (by simpa using hu) fun h' st' sb => ?_
   have I1 : Inv X pins σ H { s with heap := h' } := I.turned (t' := s.toks) (fun b o hb e => (sb.2 b hb).trans e) f0 f1 f3 f4 f5
   obtain ⟨o, e, c, d⟩ := id st'
   exact ⟨u, rfl, go_of (s := { s with heap := h' }) e c d (by decide) ⟨x, H, I1, ru, ⟨rfl, fun ys hy => by rw [I.tuple_inj hy hq]; exact hx⟩, st', fun b hb => (hf b hb).1⟩⟩
 done := by
   intro X hP hw hK hc i pins s σ H E I hf st hg
   subst hP hw hK
   obtain ⟨xs, hq, hx⟩ := hg
   obtain ⟨its, rv, p, hz⟩ := I.tuple hq
   obtain ⟨f0, f1, f2, f3, f4, f5⟩ := hf it (by simp)
   have hl := rv.length
   exact wpAny_pyNext_tuple_end (I.ok.hd hc) st (show s.heap.IsTuple a its.toArray from p) (by simp; omega) fun h' eb => ⟨rfl, I.turned (t' := s.toks) (fun b o hb e => eb b o hb e) f0 f1 f3 f4 f5⟩
 self := fun _ _ _ _ _ st h => wpAny_pyIter_tupleiter st h
theorem turn_range {P : Program} {w : World} {K : PySem.W.Frag} {tg : Expr} (it : Addr) (lo : Int) (n : Nat) : Turn P w K tg (Itr lo n) [it] it (fun i h => IsRangeIter h it (lo + (i : Nat) * 1) ((n : Int) - (i : Nat)) 1) where
 mem := by simp
 obj := fun i h st b hb => by
   have e : b = it := by simpa using hb
   subst e
   exact ⟨_, st, fun v z => by
     have z' : Data.fields _ = Data.cell v := z
     cases z'⟩
 keep := fun i h h' st k => k it (by simp) _ st
 item := by
   intro X hP hw hK hc i pins s σ H E I hf st hg
   subst hP hw hK
   obtain ⟨f0, f1, f2, f3, f4, f5⟩ := hf it (by simp)
   have W := Walks.range (prog := X.prog) (w := X.w) (I.ok.hd hc) it lo 1 n
   refine W.item i s _ _ hg st fun v h' tk hv st' kk => ?_
   obtain ⟨t, rfl⟩ := hv
   have I1 : Inv X pins σ H { s with heap := h', toks := tk } := I.turned (fun b o hb e => kk b o (by simpa using hb) e) f0 f1 f3 f4 f5
   refine ⟨_, rfl, go_of (s := { s with heap := h', toks := tk }) (n := "range_iterator") st' rfl rfl (by decide) ⟨.int (lo + i), H, I1, ⟨t, ?_⟩, ⟨rfl, rfl⟩, st', fun b hb => (hf b hb).1⟩⟩
   rw [Int.mul_one]
 done := by
   intro X hP hw hK hc i pins s σ H E I hf st hg
   subst hP hw hK
   obtain ⟨f0, f1, f2, f3, f4, f5⟩ := hf it (by simp)
   exact wpAny_pyNext_range_end (I.ok.hd hc) st (by have : n ≤ i := hg; omega) fun h' eb => ⟨rfl, I.turned (t' := s.toks) (fun b o hb e => eb b o hb e) f0 f1 f3 f4 f5⟩
 self := fun _ _ _ _ _ st h => wpAny_pyIter_rangeiter st h
end L2
namespace L2
open PySem PySem.Spec PyProof.Rows
section
variable {X : Cx} {tg : Expr}
def iList (K : W.Frag) (tl : TE) : TI := fun σ H R => tl σ H fun x H1 => ∃ a, x = .ref a ∧ (∃ xs, SqL K H1 a xs) ∧ R (Itl K a) H1
def iTup (K : W.Frag) (tl : TE) : TI := fun σ H R => tl σ H fun x H1 => ∃ a, x = .ref a ∧ (∃ xs, SqT K H1 a xs) ∧ R (Itt K a) H1
theorem pi_list {l : Expr} {tl : TE} (hl : PE X l tl) : PI X tg l (iList X.K tl) := by
 intro pins s σ H R I h
 refine thn (hl pins s σ H _ I h) fun v s1 ⟨x, H1, I1, r1, q1⟩ => ?_
 obtain ⟨a, e, ⟨xs, hq⟩, q⟩ := q1
 subst e
 cases r1
 obtain ⟨its, rv, p, hz⟩ := I1.list hq
 refine wpAny_pyIter_list p.isList ?_
 refine ⟨s1.heap.objs.size, [s1.heap.objs.size], _, _, H1, rfl, I1.kept (t' := s1.toks) fun b o e => Heap.get?_push_of_some _ e, turn_list a _, ⟨_, Heap.get?_push_size _ rfl, rfl, rfl⟩, fun b hb => ?_, q⟩
 have e : b = s1.heap.objs.size := by simpa using hb
 subst e
 exact I1.fpOk (Nat.le_refl _) (I1.hok.fresh (Nat.le_refl _))
theorem pi_tup {l : Expr} {tl : TE} (hl : PE X l tl) : PI X tg l (iTup X.K tl) := by
 intro pins s σ H R I h
 refine thn (hl pins s σ H _ I h) fun v s1 ⟨x, H1, I1, r1, q1⟩ => ?_
 obtain ⟨a, e, ⟨xs, hq⟩, q⟩ := q1
 subst e
 cases r1
 obtain ⟨its, rv, p, hz⟩ := I1.tuple hq
 refine wpAny_pyIter_tuple (show s1.heap.IsTuple a its.toArray from p) ?_
 refine ⟨s1.heap.objs.size, [s1.heap.objs.size], _, _, H1, rfl, I1.kept (t' := s1.toks) fun b o e => Heap.get?_push_of_some _ e, turn_tuple a _, ⟨_, Heap.get?_push_size _ rfl, rfl, rfl⟩, fun b hb => ?_, q⟩
 have e : b = s1.heap.objs.size := by simpa using hb
 subst e
 exact I1.fpOk (Nat.le_refl _) (I1.hok.fresh (Nat.le_refl _))
theorem range_it {pins : List (Addr × Obj)} {σ : St} {H : Hp} {s : Shared} {R : It → Hp → Prop} {E : Value → Shared → Prop} {lo hi : Int} {t u v : Tok} {tk : Nat} (I : Inv X pins σ H s) (h1 : -(2 ^ 62) ≤ lo) (h2 : lo < 2 ^ 62) (h3 : -(2 ^ 62) ≤ hi) (h4 : hi < 2 ^ 62)
   (q : R (Itr lo (hi - lo).toNat) H) : wpAny (model X.prog X.w) X.A (pyIter (.ref s.heap.objs.size)) (PIE X pins σ tg R) E { s with heap := s.heap.push { cls := .type "range", data := .fields #[.int lo t, .int hi u, .int 1 v] }, toks := tk } := by
 refine wpAny_pyIter_range (IsRange.new ..) (small_one h1 h2 h3 h4) ?_
 have I1 : Inv X pins σ H { s with heap := s.heap.push { cls := .type "range", data := .fields #[.int lo t, .int hi u, .int 1 v] }, toks := tk } := I.kept fun b o e => Heap.get?_push_of_some _ e
 refine ⟨(s.heap.push { cls := .type "range", data := .fields #[.int lo t, .int hi u, .int 1 v] }).objs.size, [(s.heap.push { cls := .type "range", data := .fields #[.int lo t, .int hi u, .int 1 v] }).objs.size], _, _, H, rfl,
   I1.kept (t' := tk) fun b o e => Heap.get?_push_of_some _ e, turn_range _ lo (hi - lo).toNat, ?_, fun b hb => ?_, q⟩
 · have e1 : lo + ((0 : Nat) : Int) * 1 = lo := by simp
   have e2 : (((hi - lo).toNat : Nat) : Int) - ((0 : Nat) : Int) = Builtin.Range.rangeSize lo hi 1 := by rw [rangeSize_one]; split <;> omega
   show IsRangeIter _ _ (lo + ((0 : Nat) : Int) * 1) ((((hi - lo).toNat : Nat) : Int) - ((0 : Nat) : Int)) 1
   rw [e1, e2]
   exact Heap.get?_push_size _ rfl
 · have e : b = (s.heap.push { cls := .type "range", data := .fields #[.int lo t, .int hi u, .int 1 v] }).objs.size := by simpa using hb
   subst e
   exact I1.fpOk (Nat.le_refl _) (I1.hok.fresh (Nat.le_refl _))
def iRng1 (ta : TA) : TI := fun σ H R => ta σ H fun vs H1 => ∃ j : Int, vs = [.int j] ∧ -(2 ^ 62) ≤ j ∧ j < 2 ^ 62 ∧ R (Itr 0 j.toNat) H1
theorem pi_range1 {a : Expr} {ta : TA} {p pos : Pos} (hg : Gl X "range") (hm : X.mg "range" = none) (ha : PA X [a] ta) (hs : starEach [a] X.env = [(false, eval a X.env)] := by rfl) : PI X tg (.Call (.Name "range" p) [a] [] pos) (iRng1 ta) := by
 intro pins s σ H R I h
 refine Call_ (ld_blt I hg hm boot_range (PyProof.Rows.callWith_type1 (thn (ha pos pins s σ H _ I h) fun us s1 ⟨vs, H1, I1, r1, q1⟩ => ?_) hs rfl))
 obtain ⟨j, e, q1, q2, q⟩ := q1
 subst e
 cases r1 with
 | cons r rr =>
   cases rr
   obtain ⟨t, rfl⟩ := r
   exact call_range_1 (range_it I1 (by omega) (by omega) q1 q2 (by simpa using q))
def tFor (wi : TI) (g : TG) (tb : TS) : TS := fun D σ H => wi σ H fun J H1 => ∃ W : Nat → Nat → St → Hp → Prop, (∃ m, W 0 m σ H1) ∧ ∀ i m σ H, W i m σ H →
 (J.stop i H ∧ D.nx σ H) ∨ (J.go i H ∧ ∃ N : St → Hp → Prop, (∀ σ' H', N σ' H' → ∃ m', m' < m ∧ W (i + 1) m' σ' H') ∧ ∀ x H', J.yld i H x H' → g x σ H' fun σ2 H2 => tb { D with nx := N, ct := N, bk := D.nx } σ2 H2)
def pinsAt (fp : List Addr) (h : Heap) : List (Addr × Obj) := fp.filterMap fun b => (h.get? b).map fun o => (b, o)
theorem mem_pinsAt {fp : List Addr} {h : Heap} {b : Addr} {o : Obj} (hb : b ∈ fp) (e : h.get? b = some o) : (b, o) ∈ pinsAt fp h := List.mem_filterMap.mpr ⟨b, hb, by rw [e]; rfl⟩
theorem of_pinsAt {fp : List Addr} {h : Heap} {p : Addr × Obj} (hp : p ∈ pinsAt fp h) : p.1 ∈ fp ∧ h.get? p.1 = some p.2 := by
 obtain ⟨b, hb, e⟩ := List.mem_filterMap.mp hp
 cases q : h.get? b with
 | none => rw [q] at e; cases e
 | some o =>
   rw [q] at e
   have e' : (b, o) = p := Option.some.inj e
   subst e'
   exact ⟨hb, q⟩
theorem Inv.pinned {pins : List (Addr × Obj)} {σ : St} {H : Hp} {s : Shared} {fp : List Addr} (I : Inv X pins σ H s) (hf : ∀ b ∈ fp, FpOk X pins H b) (ho : ∀ b ∈ fp, ∃ o, s.heap.get? b = some o ∧ ∀ v, o.data ≠ .cell v) : Inv X (pins ++ pinsAt fp s.heap) σ H s :=
 I.pins_of fun p hp => (List.mem_append.mp hp).elim (fun z => I.pin p (List.mem_append_right _ z)) fun z => by
   obtain ⟨hb, e⟩ := of_pinsAt z
   obtain ⟨f0, f1, f2, _⟩ := hf p.1 hb
   obtain ⟨o, e', d⟩ := ho p.1 hb
   rw [e] at e'; cases e'
   exact ⟨e, f0, f1, f2, d⟩
theorem Inv.unpinned {pins pl : List (Addr × Obj)} {σ : St} {H : Hp} {s : Shared} (I : Inv X (pins ++ pl) σ H s) : Inv X pins σ H s := I.pins_of fun p hp => I.pin p (List.mem_append_right _ (List.mem_append_left _ hp))
theorem ps_for {iter : Expr} {body : List Stmt} {wi : TI} {g : TG} {tb : TS} {pos : Pos} (hp : PassesOwn (model X.prog X.w) X.A X.env X.xe) (hc : X.calm = true) (hi : PI X tg iter wi) (hg : PG X tg g) (hb : PSs X body tb)
   (hs : ∀ x, foldedSetIterable iter X.env x = pure x := by intro _; rfl) : PS X (.For tg iter body [] pos) (tFor wi g tb) := by
 intro pins s σ H D I h
 refine wpAny_For (thn (hi pins s σ H _ I h) fun v s1 h1 => thn h1 fun itv s2 h2 => ?_) hs
 obtain ⟨it, fp, tn, J, H2, e, I2, T, st2, f2, W, ⟨m0, w0⟩, turn⟩ := h2
 subst e
 have stat : ∀ {H' : Hp}, (∀ b ∈ fp, H' b = none) → ∀ b ∈ fp, FpOk X pins H' b := fun hn b hb => ⟨hn b hb, (f2 b hb).2⟩
 refine codeAny_forLoop_any (fun n s' => ∃ i σ' H', Inv X pins σ' H' s' ∧ tn i s'.heap ∧ (∀ b ∈ fp, H' b = none) ∧ W i n σ' H') ?_ m0 ⟨0, σ, H2, I2, st2, fun b hb => (f2 b hb).1, w0⟩
 rintro n s3 ⟨i, σ3, H3, I3, st3, fr3, w3⟩
 rcases turn i n σ3 H3 w3 with ⟨stop, qn⟩ | ⟨go, N, hN, step⟩
 · refine wpAny_passesOwn hp (thn (T.done X rfl rfl rfl hc i pins s3 σ3 H3 X.xe I3 (stat fr3) st3 stop) fun r s4 ⟨hr, I4⟩ => ?_)
   subst hr
   exact wpAny_execs_nil ⟨σ3, H3, I4, qn⟩
 · refine wpAny_passesOwn hp (thn (T.item X rfl rfl rfl hc i pins s3 σ3 H3 X.xe I3 (stat fr3) st3 go) fun r s4 ⟨u, hr, h4⟩ => ?_)
   subst hr
   refine wpAny_passesOwn hp (thn h4 fun _ s5 ⟨x, H5, I5, r5, y5, st5, fr5⟩ => ?_)
   have I5' := I5.pinned (stat fr5) (T.obj _ _ st5)
   refine wpAny_passesOwn hp (thn (hg _ s5 σ3 H5 x u _ I5' r5 (step x H5 y5)) fun _ s6 ⟨σ6, H6, I6, q6⟩ => ?_)
   refine wpAny_passesOwn hp (thn (hb _ s6 σ6 H6 _ I6 q6) fun f s7 q7 => ?_)
   have again : ∀ {σ7 : St} {H7 : Hp}, Inv X (pins ++ pinsAt fp s5.heap) σ7 H7 s7 → N σ7 H7 → ∃ m, m < n ∧ ∃ i σ' H', Inv X pins σ' H' s7 ∧ tn i s7.heap ∧ (∀ b ∈ fp, H' b = none) ∧ W i m σ' H' := fun {σ7 H7} I7 n7 => by
     obtain ⟨m', hm, w7⟩ := hN σ7 H7 n7
     refine ⟨m', hm, i + 1, σ7, H7, I7.unpinned, T.keep _ _ _ st5 fun b hb o e => (I7.pin (b, o) (List.mem_append_right _ (List.mem_append_right _ (mem_pinsAt hb e)))).1, fun b hb => ?_, w7⟩
     obtain ⟨o, e, d⟩ := T.obj _ _ st5 b hb
     exact (I7.pin (b, o) (List.mem_append_right _ (List.mem_append_right _ (mem_pinsAt hb e)))).2.1
   cases f with
   | next => obtain ⟨σ7, H7, I7, n7⟩ := q7; exact again I7 n7
   | cont => obtain ⟨σ7, H7, I7, n7⟩ := q7; exact again I7 n7
   | brk => obtain ⟨σ7, H7, I7, q7⟩ := q7; exact ⟨σ7, H7, I7.unpinned, q7⟩
   | ret v => obtain ⟨x7, σ7, H7, I7, r7, q7⟩ := q7; exact ⟨x7, σ7, H7, I7.unpinned, r7, q7⟩
end
theorem for_list {K : PySem.W.Frag} {a : Addr} {xs : List V} {g : TG} {tb : TS} {D : Ends} {σ : St} {H : Hp} (Pv : Nat → St → Hp → Prop) (h0 : Pv 0 σ H) (hl : ∀ i σ H, i ≤ xs.length → Pv i σ H → SqL K H a xs)
   (hs : ∀ i x σ H, xs[i]? = some x → Pv i σ H → g x σ H fun σ2 H2 => tb { D with nx := Pv (i + 1), ct := Pv (i + 1), bk := D.nx } σ2 H2) (hd : ∀ σ H, Pv xs.length σ H → D.nx σ H) :
   ∃ W : Nat → Nat → St → Hp → Prop, (∃ m, W 0 m σ H) ∧ ∀ i m σ H, W i m σ H →
     ((Itl K a).stop i H ∧ D.nx σ H) ∨ ((Itl K a).go i H ∧ ∃ N : St → Hp → Prop, (∀ σ' H', N σ' H' → ∃ m', m' < m ∧ W (i + 1) m' σ' H') ∧ ∀ x H', (Itl K a).yld i H x H' → g x σ H' fun σ2 H2 => tb { D with nx := N, ct := N, bk := D.nx } σ2 H2) := by
 refine ⟨fun i m σ H => m = xs.length - i ∧ i ≤ xs.length ∧ Pv i σ H, ⟨xs.length, by simp, Nat.zero_le _, h0⟩, ?_⟩
 rintro i m σ H ⟨rfl, hi, p⟩
 have q := hl i σ H hi p
 by_cases hlt : i < xs.length
 · refine .inr ⟨⟨xs, xs[i], q, by simp [hlt]⟩, Pv (i + 1), fun σ' H' p' => ⟨xs.length - (i + 1), by omega, rfl, hlt, p'⟩, fun x H' y => ?_⟩
   obtain ⟨e, y⟩ := y
   subst e
   exact hs i x σ _ (y xs q) p
 · have e : i = xs.length := by omega
   subst e
   exact .inl ⟨⟨xs, q, Nat.le_refl _⟩, hd σ H p⟩
theorem for_range {lo : Int} {n : Nat} {g : TG} {tb : TS} {D : Ends} {σ : St} {H : Hp} (Pv : Nat → St → Hp → Prop) (h0 : Pv 0 σ H)
   (hs : ∀ i σ H, i < n → Pv i σ H → g (.int (lo + i)) σ H fun σ2 H2 => tb { D with nx := Pv (i + 1), ct := Pv (i + 1), bk := D.nx } σ2 H2) (hd : ∀ σ H, Pv n σ H → D.nx σ H) :
   ∃ W : Nat → Nat → St → Hp → Prop, (∃ m, W 0 m σ H) ∧ ∀ i m σ H, W i m σ H →
     ((Itr lo n).stop i H ∧ D.nx σ H) ∨ ((Itr lo n).go i H ∧ ∃ N : St → Hp → Prop, (∀ σ' H', N σ' H' → ∃ m', m' < m ∧ W (i + 1) m' σ' H') ∧ ∀ x H', (Itr lo n).yld i H x H' → g x σ H' fun σ2 H2 => tb { D with nx := N, ct := N, bk := D.nx } σ2 H2) := by
 refine ⟨fun i m σ H => m = n - i ∧ i ≤ n ∧ Pv i σ H, ⟨n, by simp, Nat.zero_le _, h0⟩, ?_⟩
 rintro i m σ H ⟨rfl, hi, p⟩
 by_cases hlt : i < n
 · refine .inr ⟨hlt, Pv (i + 1), fun σ' H' p' => ⟨n - (i + 1), by omega, rfl, hlt, p'⟩, fun x H' y => ?_⟩
   obtain ⟨e, y⟩ := y
   subst e y
   exact hs i σ _ hlt p
 · have e : i = n := by omega
   subst e
   exact .inl ⟨Nat.le_refl _, hd σ H p⟩
end L2
namespace L2
open PySem PySem.Spec PyProof.Rows
abbrev R2 := V → V → Hp → VK → Prop
def OpR (X : Cx) (f : Value → Value → Sem Value) (r : R2) : Prop :=
 ∀ (pins : List (Addr × Obj)) (s : Shared) (σ : St) (H : Hp) (x y : V) (v u : Value) (Q : VK), Inv X pins σ H s → RelV x v → RelV y u → r x y H Q →
   wpAny (model X.prog X.w) X.A (f v u) (EP X pins σ Q) X.xe s
def UnR (X : Cx) (f : Value → Sem Value) (r : V → Hp → VK → Prop) : Prop :=
 ∀ (pins : List (Addr × Obj)) (s : Shared) (σ : St) (H : Hp) (x : V) (v : Value) (Q : VK), Inv X pins σ H s → RelV x v → r x H Q →
   wpAny (model X.prog X.w) X.A (f v) (EP X pins σ Q) X.xe s
def CallR (X : Cx) (f : Value) (r : List V → Hp → VK → Prop) : Prop :=
 ∀ (pins : List (Addr × Obj)) (s : Shared) (σ : St) (H : Hp) (xs : List V) (us : List Value) (Q : VK), Inv X pins σ H s → Vals xs us → r xs H Q →
   wpAny (model X.prog X.w) X.A (call f us) (EP X pins σ Q) X.xe s
def tOp (r : R2) (ta tb : TE) : TE := fun σ H Q => ta σ H fun x H1 => tb σ H1 fun y H2 => r x y H2 Q
def tUn (r : V → Hp → VK → Prop) (ta : TE) : TE := fun σ H Q => ta σ H fun x H1 => r x H1 Q
def rI (C : Int → Int → Prop) (g : Int → Int → V) : R2 := fun x y H Q => ∃ i j, x = .int i ∧ y = .int j ∧ C i j ∧ Q (g i j) H
def rI0 (g : Int → Int → V) : R2 := fun x y H Q => ∃ i j, x = .int i ∧ y = .int j ∧ Q (g i j) H
def rU (g : Int → V) : V → Hp → VK → Prop := fun x H Q => ∃ i, x = .int i ∧ Q (g i) H
section
variable {X : Cx} {a b c : Expr} {ta tb tc : TE} {pos : Pos}
theorem binT (ha : PE X a ta) (hb : PE X b tb) {pins : List (Addr × Obj)} {s : Shared} {σ : St} {H : Hp} {R : V → V → Hp → Prop} (I : Inv X pins σ H s)
   (h : ta σ H fun x H1 => tb σ H1 fun y H2 => R x y H2) {Q : Value → Shared → Prop} {f : Value → Value → Sem Value}
   (hf : ∀ v u s2 x y H2, Inv X pins σ H2 s2 → RelV x v → RelV y u → R x y H2 → wpAny (model X.prog X.w) X.A (f v u) Q X.xe s2) :
   wpAny (model X.prog X.w) X.A (eval a X.env) (fun v s₁ => wpAny (model X.prog X.w) X.A (eval b X.env) (fun u s₂ => wpAny (model X.prog X.w) X.A (f v u) Q X.xe s₂) X.xe s₁) X.xe s := by
 refine thn (ha pins s σ H _ I h) fun v s1 ⟨x, H1, I1, r1, q1⟩ => ?_
 refine thn (hb pins s1 σ H1 _ I1 q1) fun u s2 ⟨y, H2, I2, r2, q2⟩ => ?_
 exact hf v u s2 x y H2 I2 r1 r2 q2
theorem qz {op : Operator} {r : R2} (ho : OpR X (binaryOp op) r) (ha : PE X a ta) (hb : PE X b tb) : PE X (.BinOp a op b pos) (tOp r ta tb) := by
 intro pins s σ H Q I h
 exact wpAny_BinOp (binT ha hb I h fun v u s2 x y H2 I2 rx ry q => ho pins s2 σ H2 x y v u Q I2 rx ry q)
theorem pe_un {op : UnaryOp} {r : V → Hp → VK → Prop} (ho : UnR X (unaryOp op) r) (ha : PE X a ta) : PE X (.UnaryOp op a pos) (tUn r ta) := by
 intro pins s σ H Q I h
 exact UnaryOp_ (thn (ha pins s σ H _ I h) fun v s1 ⟨x, H1, I1, r1, q1⟩ => ho pins s1 σ H1 x v Q I1 r1 q1)
theorem opI {f : Value → Value → Sem Value} {C : Int → Int → Prop} {g : Int → Int → Int}
   (rule : ∀ (i j : Int) (t u : Tok) (s : Shared) (Q : Value → Shared → Prop) (E : Value → Shared → Prop), C i j → Q (.int (g i j) s.toks) { s with toks := s.toks + 1 } → wpAny (model X.prog X.w) X.A (f (.int i t) (.int j u)) Q E s) :
   OpR X f (rI C fun i j => .int (g i j)) := by
 intro pins s σ H x y v u Q I rx ry h
 obtain ⟨i, j, rfl, rfl, hc, q⟩ := h
 obtain ⟨t, rfl⟩ := rx
 obtain ⟨t', rfl⟩ := ry
 exact rule i j t t' s _ _ hc ⟨.int (g i j), H, I.tok _, ⟨_, rfl⟩, q⟩
theorem opI0 {f : Value → Value → Sem Value} {g : Int → Int → Int}
   (rule : ∀ (i j : Int) (t u : Tok) (s : Shared) (Q : Value → Shared → Prop) (E : Value → Shared → Prop), Q (.int (g i j) s.toks) { s with toks := s.toks + 1 } → wpAny (model X.prog X.w) X.A (f (.int i t) (.int j u)) Q E s) :
   OpR X f (rI0 fun i j => .int (g i j)) := by
 intro pins s σ H x y v u Q I rx ry h
 obtain ⟨i, j, rfl, rfl, q⟩ := h
 obtain ⟨t, rfl⟩ := rx
 obtain ⟨t', rfl⟩ := ry
 exact rule i j t t' s _ _ ⟨.int (g i j), H, I.tok _, ⟨_, rfl⟩, q⟩
theorem opB0 {f : Value → Value → Sem Value} {g : Int → Int → Bool}
   (rule : ∀ (i j : Int) (t u : Tok) (s : Shared) (Q : Value → Shared → Prop) (E : Value → Shared → Prop), Q (.bool (g i j)) s → wpAny (model X.prog X.w) X.A (f (.int i t) (.int j u)) Q E s) :
   OpR X f (rI0 fun i j => .bl (g i j)) := by
 intro pins s σ H x y v u Q I rx ry h
 obtain ⟨i, j, rfl, rfl, q⟩ := h
 obtain ⟨t, rfl⟩ := rx
 obtain ⟨t', rfl⟩ := ry
 exact rule i j t t' s _ _ ⟨.bl (g i j), H, I, rfl, q⟩
def CDiv (i j : Int) : Prop := 0 < j ∧ j < 1073741824
def CMul (i j : Int) : Prop := (-(2 ^ 64) < i ∧ i < 2 ^ 64) ∨ (-(2 ^ 64) < j ∧ j < 2 ^ 64)
theorem CMul.ok {i j : Int} (h : CMul i j) : IntMulOk i j := by
 rcases h with ⟨h1, h2⟩ | ⟨h1, h2⟩
 · exact .of_left (intBits_le_64 h1 h2)
 · exact .of_right (intBits_le_64 h1 h2)
theorem op_add : OpR X (binaryOp .Add) (rI0 fun i j => .int (i + j)) := opI0 fun _ _ _ _ _ _ _ q => add_int q
theorem op_sub : OpR X (binaryOp .Sub) (rI0 fun i j => .int (i - j)) := opI0 fun _ _ _ _ _ _ _ q => sub_int q
theorem op_mul : OpR X (binaryOp .Mult) (rI CMul fun i j => .int (i * j)) := opI fun _ _ _ _ _ _ _ hc q => mul_int q hc.ok
theorem op_fdiv : OpR X (binaryOp .FloorDiv) (rI CDiv fun i j => .int (i / j)) := opI fun i j _ _ _ _ _ hc q => by
 have h1 : (0 : Int) < j := hc.1
 have h2 : j < 1073741824 := hc.2
 exact floordiv_int (by omega) (by rw [Int.fdiv_eq_ediv_of_nonneg i (by omega)]; exact q) (.inl (PyProof.noPylong_small (by omega)))
theorem op_mod : OpR X (binaryOp .Mod) (rI (fun _ j => 0 < j) fun i j => .int (i % j)) := opI fun i j _ _ _ _ _ hc q => by
 have h1 : (0 : Int) < j := hc
 exact mod_int' (by omega) (by rw [Int.fmod_eq_emod_of_nonneg i (by omega)]; exact q)
theorem unI {f : Value → Sem Value} {g : Int → Int}
   (rule : ∀ (i : Int) (t : Tok) (s : Shared) (Q : Value → Shared → Prop) (E : Value → Shared → Prop), Q (.int (g i) s.toks) { s with toks := s.toks + 1 } → wpAny (model X.prog X.w) X.A (f (.int i t)) Q E s) :
   UnR X f (rU fun i => .int (g i)) := by
 intro pins s σ H x v Q I rx h
 obtain ⟨i, rfl, q⟩ := h
 obtain ⟨t, rfl⟩ := rx
 exact rule i t s _ _ ⟨.int (g i), H, I.tok _, ⟨_, rfl⟩, q⟩
theorem un_neg : UnR X (unaryOp .USub) (rU fun i => .int (-i)) := unI fun _ _ _ _ _ q => neg_int q
end
def scal : V → V → Bool
 | .non, .non => true | .non, .int _ => true | .int _, .non => true | .non, .bl _ => true | .bl _, .non => true | .non, .str _ => true | .str _, .non => true
 | .int _, .int _ => true | .bl _, .bl _ => true | .str _, .str _ => true | .byt _, .byt _ => true
 | .int _, .str _ => true | .str _, .int _ => true | .bl _, .str _ => true | .str _, .bl _ => true
 | _, _ => false
def rEq : R2 := fun x y H Q => scal x y = true ∧ Q (.bl (decide (x = y))) H
def rNe : R2 := fun x y H Q => scal x y = true ∧ Q (.bl (!decide (x = y))) H
theorem dec_int {i j : Int} : decide (V.int i = V.int j) = (i == j) := by
 rw [Bool.eq_iff_iff]
 simp
theorem dec_bl {i j : Bool} : decide (V.bl i = V.bl j) = (i == j) := by
 rw [Bool.eq_iff_iff]
 simp
theorem dec_str {i j : Str} : decide (V.str i = V.str j) = (i == j) := by
 rw [Bool.eq_iff_iff]
 simp
theorem dec_byt {i j : Array UInt8} : decide (V.byt i = V.byt j) = (i.toList == j.toList) := by
 rw [Bool.eq_iff_iff]
 cases i
 cases j
 simp
section
variable {X : Cx} {a b c : Expr} {ta tb tc : TE} {pos : Pos}
theorem vQ {pins : List (Addr × Obj)} {σ : St} {H : Hp} {s : Shared} {Q : VK} {k k' : Bool} (I : Inv X pins σ H s) (q : Q (.bl k) H) (e : k = k') : EP X pins σ Q (.bool k') s := by
 subst e
 exact ⟨.bl k, H, I, rfl, q⟩
theorem op_eq : OpR X (compareOp .Eq) rEq := by
 intro pins s σ H x y v u Q I rx ry h
 obtain ⟨hs, q⟩ := h
 cases x with
 | non =>
   cases rx
   cases y with
   | non => cases ry; exact PySem.EqNone.eq_none_none (vQ I q (by simp))
   | bl j => cases ry; exact PySem.EqNone.eq_none_bool (vQ I q (by simp))
   | int j => obtain ⟨t', rfl⟩ := ry; exact PySem.EqNone.eq_none_int (vQ I q (by simp))
   | str j => obtain ⟨t', rfl⟩ := ry; exact PySem.EqNone.eq_none_str (vQ I q (by simp))
   | _ => exact absurd (show false = true from hs) Bool.false_ne_true
 | bl i =>
   cases rx
   cases y with
   | non => cases ry; exact PySem.EqNone.eq_bool_none (vQ I q (by simp))
   | bl j => cases ry; exact eq_bool (vQ I q dec_bl)
   | str j => obtain ⟨t', rfl⟩ := ry; exact PySem.EqMixed.eq_bool_str (vQ I q (by simp))
   | _ => exact absurd (show false = true from hs) Bool.false_ne_true
 | int i =>
   obtain ⟨t, rfl⟩ := rx
   cases y with
   | non => cases ry; exact PySem.EqNone.eq_int_none (vQ I q (by simp))
   | int j => obtain ⟨t', rfl⟩ := ry; exact eq_int (vQ I q dec_int)
   | str j => obtain ⟨t', rfl⟩ := ry; exact PySem.EqMixed.eq_int_str (vQ I q (by simp))
   | _ => exact absurd (show false = true from hs) Bool.false_ne_true
 | str i =>
   obtain ⟨t, rfl⟩ := rx
   cases y with
   | non => cases ry; exact PySem.EqNone.eq_str_none (vQ I q (by simp))
   | bl j => cases ry; exact PySem.EqMixed.eq_str_bool (vQ I q (by simp))
   | int j => obtain ⟨t', rfl⟩ := ry; exact PySem.EqMixed.eq_str_int (vQ I q (by simp))
   | str j => obtain ⟨t', rfl⟩ := ry; exact eq_str (vQ I q dec_str)
   | _ => exact absurd (show false = true from hs) Bool.false_ne_true
 | byt i =>
   obtain ⟨t, rfl⟩ := rx
   cases y with
   | byt j => obtain ⟨t', rfl⟩ := ry; exact W.eq_bytes (vQ I q dec_byt)
   | _ => exact absurd (show false = true from hs) Bool.false_ne_true
 | _ => cases y <;> exact absurd (show false = true from hs) Bool.false_ne_true
theorem op_ne : OpR X (compareOp .NotEq) rNe := by
 intro pins s σ H x y v u Q I rx ry h
 obtain ⟨hs, q⟩ := h
 cases x with
 | non =>
   cases rx
   cases y with
   | non => cases ry; exact PySem.EqNone.ne_none_none (vQ I q (by simp))
   | bl j => cases ry; exact PySem.EqNone.ne_none_bool (vQ I q (by simp))
   | int j => obtain ⟨t', rfl⟩ := ry; exact PySem.EqNone.ne_none_int (vQ I q (by simp))
   | str j => obtain ⟨t', rfl⟩ := ry; exact PySem.EqNone.ne_none_str (vQ I q (by simp))
   | _ => exact absurd (show false = true from hs) Bool.false_ne_true
 | bl i =>
   cases rx
   cases y with
   | non => cases ry; exact PySem.EqNone.ne_bool_none (vQ I q (by simp))
   | bl j => cases ry; exact ne_bool (vQ I q (congrArg not dec_bl))
   | str j => obtain ⟨t', rfl⟩ := ry; exact PySem.EqMixed.ne_bool_str (vQ I q (by simp))
   | _ => exact absurd (show false = true from hs) Bool.false_ne_true
 | int i =>
   obtain ⟨t, rfl⟩ := rx
   cases y with
   | non => cases ry; exact PySem.EqNone.ne_int_none (vQ I q (by simp))
   | int j => obtain ⟨t', rfl⟩ := ry; exact ne_int (vQ I q (congrArg not dec_int))
   | str j => obtain ⟨t', rfl⟩ := ry; exact PySem.EqMixed.ne_int_str (vQ I q (by simp))
   | _ => exact absurd (show false = true from hs) Bool.false_ne_true
 | str i =>
   obtain ⟨t, rfl⟩ := rx
   cases y with
   | non => cases ry; exact PySem.EqNone.ne_str_none (vQ I q (by simp))
   | bl j => cases ry; exact PySem.EqMixed.ne_str_bool (vQ I q (by simp))
   | int j => obtain ⟨t', rfl⟩ := ry; exact PySem.EqMixed.ne_str_int (vQ I q (by simp))
   | str j => obtain ⟨t', rfl⟩ := ry; exact ne_str (vQ I q (congrArg not dec_str))
   | _ => exact absurd (show false = true from hs) Bool.false_ne_true
 | byt i =>
   obtain ⟨t, rfl⟩ := rx
   cases y with
   | byt j => obtain ⟨t', rfl⟩ := ry; exact W.ne_bytes (vQ I q (congrArg not dec_byt))
   | _ => exact absurd (show false = true from hs) Bool.false_ne_true
 | _ => cases y <;> exact absurd (show false = true from hs) Bool.false_ne_true
theorem op_lt : OpR X (compareOp .Lt) (rI0 fun i j => .bl (decide (i < j))) := opB0 fun _ _ _ _ _ _ _ q => lt_int q
theorem op_le : OpR X (compareOp .LtE) (rI0 fun i j => .bl (decide (i ≤ j))) := opB0 fun _ _ _ _ _ _ _ q => le_int q
theorem op_gt : OpR X (compareOp .Gt) (rI0 fun i j => .bl (decide (j < i))) := opB0 fun _ _ _ _ _ _ _ q => gt_int q
theorem op_in_str : OpR X (compareOp .In) (fun x y H Q => ∃ i j, x = .str i ∧ y = .str j ∧ Q (.bl (!(Builtin.Str.occurrences j i 0 j.length 1).isEmpty)) H) := by
 intro pins s σ H x y v u Q I rx ry h
 obtain ⟨i, j, rfl, rfl, q⟩ := h
 obtain ⟨t, rfl⟩ := rx
 obtain ⟨t', rfl⟩ := ry
 exact in_str (vQ I q rfl)
theorem nomark (b : Expr) {op : CmpOp} (h : op ≠ .In := by decide) (h2 : op ≠ .NotIn := by decide) : behindInMarks op b = false := by
 have e1 : (op == CmpOp.In) = false := by cases op <;> first | rfl | exact absurd rfl h
 have e2 : (op == CmpOp.NotIn) = false := by cases op <;> first | rfl | exact absurd rfl h2
 cases b <;> simp [behindInMarks, e1, e2]
theorem pe_cmpR {op : CmpOp} {r : R2} (ho : OpR X (compareOp op) r) (ha : PE X a ta) (hb : PE X b tb) (hm : behindInMarks op b = false) : PE X (.Compare a [op] [b] pos) (tOp r ta tb) := by
 intro pins s σ H Q I h
 exact wpAny_Compare1 (binT ha hb I h fun v u s2 x y H2 I2 rx ry q => ho pins s2 σ H2 x y v u Q I2 rx ry q) hm
def tTest (t : TE) : TT := fun σ H Q => t σ H fun x H' => ∃ k, x = .bl k ∧ Q k H'
theorem yv {op : CmpOp} {r : R2} (ho : OpR X (compareOp op) r) (ha : PE X a ta) (hb : PE X b tb) (hm : behindInMarks op b = false) : PT X (.Compare a [op] [b] pos) (tTest (tOp r ta tb)) := by
 intro pins s σ H Q I h
 refine wpAny_isTrue_Compare1 (thn (ha pins s σ H _ I h) fun v s1 ⟨x, H1, I1, r1, q1⟩ => thn (hb pins s1 σ H1 _ I1 q1) fun u s2 ⟨y, H2, I2, r2, q2⟩ =>
   thn (ho pins s2 σ H2 x y v u _ I2 r1 r2 q2) fun c s3 ⟨z, H3, I3, r3, k, e, q3⟩ => ?_) hm
 subst e
 cases r3
 exact wpAny_truthy_bool ⟨H3, I3, q3⟩
def tChain (r r' : R2) (ta tb tc : TE) : TE := fun σ H Q => ta σ H fun x H1 => tb σ H1 fun y H2 => r x y H2 fun z H3 => ∃ k, z = .bl k ∧
 (if k = true then tc σ H3 fun w' H4 => r' y w' H4 Q else Q (.bl false) H3)
theorem pe_chain {op op' : CmpOp} {r r' : R2} (ho : OpR X (compareOp op) r) (ho' : OpR X (compareOp op') r') (ha : PE X a ta) (hb : PE X b tb) (hc : PE X c tc)
   (hm : lastMarks [op, op'] [b, c] = false := by with_unfolding_all rfl) : PE X (.Compare a [op, op'] [b, c] pos) (tChain r r' ta tb tc) := by
 intro pins s σ H Q I h
 refine Compare_chain (thn (ha pins s σ H _ I h) fun v s1 ⟨x, H1, I1, r1, q1⟩ => chain_link (thn (hb pins s1 σ H1 _ I1 q1) fun u s2 ⟨y, H2, I2, r2, q2⟩ =>
   thn (ho pins s2 σ H2 x y v u _ I2 r1 r2 q2) fun d s3 ⟨z, H3, I3, r3, k, e, q3⟩ => ?_)) hm
 subst e
 cases r3
 refine wpAny_truthy_bool ?_
 cases k with
 | false => exact ite_ff ⟨.bl false, H3, I3, rfl, q3⟩
 | true => exact ite_tt (chain_last (thn (hc pins s3 σ H3 _ I3 q3) fun w' s4 ⟨z', H4, I4, r4, q4⟩ => ho' pins s4 σ H4 y z' u w' Q I4 r2 r4 q4))
theorem line63 : (sizeLine : Nat) < 2 ^ 63 := by rw [sizeLine_eq]; decide
theorem qB : OpR X (binaryOp .Add) (fun x y H Q => ∃ i j, x = .str i ∧ y = .str j ∧ i.length + j.length ≤ sizeLine ∧ Q (.str (i ++ j)) H) := by
 intro pins s σ H x y v u Q I rx ry h
 obtain ⟨i, j, rfl, rfl, hz, q⟩ := h
 obtain ⟨t, rfl⟩ := rx
 obtain ⟨t', rfl⟩ := ry
 exact add_str (fun t' tk => ⟨.str (i ++ j), H, I.tok _, ⟨_, rfl⟩, q⟩) hz
theorem vals1 {x : V} {us : List Value} (r : Vals [x] us) : ∃ u, us = [u] ∧ RelV x u := by
 cases r with
 | cons r1 r2 => cases r2; exact ⟨_, rfl, r1⟩
theorem vals2 {x y : V} {us : List Value} (r : Vals [x, y] us) : ∃ u w', us = [u, w'] ∧ RelV x u ∧ RelV y w' := by
 cases r with
 | cons r1 r2 =>
   cases r2 with
   | cons r3 r4 => cases r4; exact ⟨_, _, rfl, r1, r3⟩
end
end L2
namespace L2
open PySem PySem.Spec PyProof.Rows
structure ObjM (h : Heap) (x dx C : Addr) (mA : Str → Option Value) : Prop where
 obj : h.get? x = some (W.instObj C dx)
 ns : h.Ns1 dx mA
 ne : dx ≠ x
theorem lookIn_ns {h : Heap} {dx : Addr} {mA : Str → Option Value} (n : h.Ns1 dx mA) : ∃ od, h.get? dx = some od ∧ ∀ name, W.lookIn name od = some (mA name) := by
 obtain ⟨o, es, ep, ho, hd, hk, _, hm⟩ := n
 refine ⟨o, ho, fun name => ?_⟩
 have e := hm name
 unfold nsFind findBy at e
 rw [← Array.find?_toList] at e
 unfold W.lookIn
 rw [hd]
 dsimp only
 split
 · rename_i y q
   rw [q] at e
   exact congrArg some e
 · rename_i q
   rw [q] at e
   have a : es.toList.any (·.refKey) = false := by
     rw [List.any_eq_false]
     intro y hy
     obtain ⟨z, t, hkey⟩ := hk y (Array.mem_toList_iff.mp hy)
     simp [DictEntry.refKey, hkey]
   have a' : ¬ es.toList.any (·.refKey) = true := by rw [a]; exact Bool.false_ne_true
   rw [if_neg a']
   exact congrArg some e
theorem ObjM.look {h : Heap} {x dx C : Addr} {mA : Str → Option Value} (I : ObjM h x dx C mA) : ∃ od, W.InstAt h x (W.instObj C dx) C (some od) ∧ ∀ name, W.lookIn name od = some (mA name) :=
 let ⟨od, ho, hl⟩ := lookIn_ns I.ns
 ⟨od, ⟨I.obj, rfl, rfl, ho⟩, hl⟩
section
variable {prog : Program} {w : World} {A : Around} {E : Value → Shared → Prop} {s : Shared} {K : W.Frag} {x dx C f : Addr} {mA : Str → Option Value} {name : Str} {v : Value}
theorem get_map {expr : Bool} {Q : Value → Shared → Prop} (X : K.In s.heap) (I : ObjM s.heap x dx C mA) (hg : W.plainGet K C name = true) (hh : W.hasDictIn K C = true)
   (ha : W.findIn K (.ref C) name = some none) (hv : mA name = some v) (hv' : W.handedIn v = true) (h : Q v { s with toks := s.toks + 1 }) :
   wpAny (model prog w) A (getAttr (.ref x) name expr) Q E s := by
 obtain ⟨od, J, hl⟩ := I.look
 exact W.get_value X J (W.plainGet_of hg).1 (W.findObj_own hh ha rfl (by rw [hl, hv])) hv' h
theorem get_meth {pl : Sem Bool} {Q : Value × List Value → Shared → Prop} (X : K.In s.heap) (I : ObjM s.heap x dx C mA) (hg : W.plainGet K C name = true)
   (hf : W.findIn K (.ref C) name = some (some (.ref f))) (ht : W.isFn K (.ref f) = true) (hv : mA name = none) (h : Q (.ref f, [.ref x]) s) :
   wpAny (model prog w) A (getMethod (.ref x) name pl) Q E s := by
 obtain ⟨od, J, hl⟩ := I.look
 exact W.method_fn X J (W.plainGet_of hg).1 (W.plainGet_of hg).2 hf (beq_iff_eq.mp ht) (by show (W.lookIn name od).map (·.isSome) = some false; rw [hl, hv]; rfl) h
theorem set_map {ns : List Str} {Q : Unit → Shared → Prop} (X : K.In s.heap) (I : ObjM s.heap x dx C mA)
   (hs : W.findIn K (.ref C) "__setattr__" = some (some (.builtin "object.__setattr__"))) (hp : W.plainOver K C = true) (ht : W.takerIn K C name = some none) (hh : W.hasDictIn K C = true)
   (hw : PySem.Within mA ns) (hsz : ns.length ≤ sizeLine)
   (h : ∀ h', ObjM h' x dx C (fun y => if y = name then some v else mA y) → Heap.SameBut dx s.heap h' → Q () { s with heap := h', toks := s.toks + 2 }) :
   wpAny (model prog w) A (setAttr (.ref x) name v) Q E s := by
 obtain ⟨od, J, hl⟩ := I.look
 refine W.set_plain X J hs (W.osa_open (s := { s with toks := s.toks + 1 }) (r := none) X J hp ht fun b => ?_)
 obtain ⟨cd, hc, hd'⟩ := W.any_some hh
 have hx : s.heap.get? x = some ⟨.ref C, some dx, .plain, #[]⟩ := I.obj
 refine wpAny_bind (wpAny_pure (wpAny_bind (wpAny_bind (wpAny_loadPart hx (wpAny_bind (W.Looks.here (s := { s with toks := s.toks + 1 }) (W.looks_clsIn X hc) ?_))))))
 rw [hd']
 refine wpAny_pure (a := some dx) (wpAny_bind (wpAny_pure (wpAny_bind ?_)))
 refine wpAny_nsSet1 (s := { s with toks := s.toks + 1 }) I.ns fun h' hn2 hs2 => ?_
 obtain ⟨oD, esD, epD, hoD, hdD, hcD⟩ := hn2.count (PySem.Within.cons name v hw)
 refine wpAny_bind (wpAny_lookBehind hoD (by rw [hdD]; exact pastItsLine_dict (Nat.le_trans hcD (by rw [List.length_cons]; omega))) ?_)
 exact wpAny_pure (h _ ⟨(hs2.2 _ (Ne.symm I.ne)).trans I.obj, hn2, I.ne⟩ hs2)
theorem make_map {R : Result → Shared → Prop} {vs : List Value} {kw : List (Str × Value)} (X : K.In s.heap) (hm : W.makesIn K C = true)
   (hi : W.findIn K (.ref C) "__init__" = some (some (.ref f))) (hf : W.typeIn K (.ref f) = some (.type "function"))
   (h : codeAny (model prog w) (A.under (.builtin "type.__call__" ⟨.ref C :: vs, kw⟩)) (.call (.ref f) ⟨.ref (s.heap.objs.size + 1) :: vs, kw⟩) (W.InitBack (s.heap.objs.size + 1) R)
     { s with heap := (s.heap.push W.emptyDict).push (W.instObj C s.heap.objs.size) }) :
   codeAny (model prog w) A (.call (.ref C) ⟨vs, kw⟩) R s := by
 obtain ⟨hh, g, d, t, os⟩ := s
 exact W.make_core (W.makes_of X hm) (W.looks_findIn X hi) (fun self => W.bind_fn X self hf) (.inl rfl) h
end
def putF (f : Str) (v : V) : List (Str × V) → List (Str × V)
 | [] => [(f, v)]
 | (g, x) :: r => if g = f then (g, v) :: r else (g, x) :: putF f v r
theorem lookup_putF (f g : Str) (v : V) : ∀ fs : List (Str × V), (putF f v fs).lookup g = if g = f then some v else fs.lookup g
 | [] => by
   show List.lookup g [(f, v)] = _
   by_cases h : g = f
   · have hb : (g == f) = true := beq_iff_eq.mpr h
     simp only [List.lookup, hb, if_pos h]
   · have hb : (g == f) = false := beq_eq_false_iff_ne.mpr h
     simp only [List.lookup, hb, if_neg h]
 | (k, x) :: r => by
   have ih := lookup_putF f g v r
   rw [show putF f v ((k, x) :: r) = (if k = f then (k, v) :: r else (k, x) :: putF f v r) from rfl]
   by_cases hk : k = f
   · rw [if_pos hk]
     by_cases h : g = k
     · have hb : (g == k) = true := beq_iff_eq.mpr h
       simp only [List.lookup, hb, if_pos (h.trans hk)]
     · have hb : (g == k) = false := beq_eq_false_iff_ne.mpr h
       simp only [List.lookup, hb, if_neg (fun e : g = f => h (e.trans hk.symm))]
   · rw [if_neg hk]
     by_cases h : g = k
     · have hb : (g == k) = true := beq_iff_eq.mpr h
       simp only [List.lookup, hb, if_neg (fun e : g = f => hk (h.symm.trans e))]
     · have hb : (g == k) = false := beq_eq_false_iff_ne.mpr h
       simp only [List.lookup, hb]
       exact ih
theorem keys_putF (f : Str) (v : V) : ∀ fs : List (Str × V), f ∈ (putF f v fs).map (·.1) ∧ ∀ g, g ∈ fs.map (·.1) → g ∈ (putF f v fs).map (·.1)
 | [] => ⟨by simp [putF], fun g h => by simp at h⟩
 | (k, x) :: r => by
   obtain ⟨i1, i2⟩ := keys_putF f v r
   rw [show putF f v ((k, x) :: r) = (if k = f then (k, v) :: r else (k, x) :: putF f v r) from rfl]
   by_cases hk : k = f
   · rw [if_pos hk]
     subst hk
     exact ⟨by simp, fun g h => by simpa using h⟩
   · rw [if_neg hk]
     refine ⟨?_, fun g h => ?_⟩
     · rw [List.map_cons]
       exact List.mem_cons_of_mem _ i1
     · rw [List.map_cons] at h ⊢
       rcases List.mem_cons.mp h with e | e
       · exact List.mem_cons.mpr (.inl e)
       · exact List.mem_cons_of_mem _ (i2 g e)
theorem length_putF (f : Str) (v : V) : ∀ fs : List (Str × V), (putF f v fs).length ≤ fs.length + 1
 | [] => by simp [putF]
 | (k, x) :: r => by
   have ih := length_putF f v r
   rw [show putF f v ((k, x) :: r) = (if k = f then (k, v) :: r else (k, x) :: putF f v r) from rfl]
   by_cases hk : k = f
   · rw [if_pos hk, List.length_cons, List.length_cons]; omega
   · rw [if_neg hk, List.length_cons, List.length_cons]; omega
theorem RelO.some_of {v : V} {o : Option Value} (r : RelO (some v) o) : ∃ u, o = some u ∧ RelV v u := by
 cases o with
 | none => exact (show False from r).elim
 | some u => exact ⟨u, rfl, r⟩
theorem RelO.none_of {o : Option Value} (r : RelO none o) : o = none := by
 cases o with
 | none => rfl
 | some u => exact (show False from r).elim
theorem handed_of {v : V} {u : Value} (r : RelV v u) : W.handedIn u = true := by
 cases v with
 | non => cases (show u = Value.none from r); rfl
 | bl b => cases (show u = Value.bool b from r); rfl
 | int i => obtain ⟨t, e⟩ := (show ∃ t, u = Value.int i t from r); cases e; rfl
 | str x => obtain ⟨t, e⟩ := (show ∃ t, u = Value.str x t from r); cases e; rfl
 | byt b => obtain ⟨t, e⟩ := (show ∃ t, u = Value.bytes b t from r); cases e; rfl
 | flt b => obtain ⟨t, e⟩ := (show ∃ t, u = Value.float b t from r); cases e; rfl
 | ref a => cases (show u = Value.ref a from r); rfl
 | ty n => cases (show u = Value.type n from r); rfl
section
variable {P : Program} {w : World} {H H' : Hp} {h h' : Heap} {a C dx : Addr} {fs fs' : List (Str × V)}
theorem ins_get (hok : HOk P w H h) (e : H a = some (.ins C dx fs)) : ∃ mA, ObjM h a dx C mA ∧ (∀ f, RelO (fs.lookup f) (mA f)) ∧ PySem.Within mA (fs.map (·.1)) ∧ fs.length ≤ 1000 ∧ H dx = some (.own a) := by
 obtain ⟨d, z, ne, ob, mA, n, r, q⟩ := (show ObjOk P w H h a (.ins C dx fs) from hok a _ e)
 exact ⟨mA, ⟨ob, n, ne⟩, r, q, z, d⟩
end
structure Cls (K : W.Frag) (C : Addr) : Prop where
 pg : W.plainGet K C Str.empty = true
 hd : W.hasDictIn K C = true
 po : W.plainOver K C = true
 sa : W.findIn K (.ref C) "__setattr__" = some (some (.builtin "object.__setattr__"))
theorem Cls.get {K : W.Frag} {C : Addr} (c : Cls K C) (f : Str) : W.plainGet K C f = true := c.pg
def NoAttr (K : W.Frag) (C : Addr) (f : Str) : Prop := W.findIn K (.ref C) f = some none
theorem NoAttr.taker {K : W.Frag} {C : Addr} {f : Str} (n : NoAttr K C f) : W.takerIn K C f = some none := by
 unfold W.takerIn
 rw [show W.findIn K (.ref C) f = some none from n]
 rfl
structure Meth (K : W.Frag) (C : Addr) (m : Str) (f : Addr) : Prop where
 at_ : W.findIn K (.ref C) m = some (some (.ref f))
 fn : W.isFn K (.ref f) = true
 kp : W.keepIn K (.ref f) = true
section
variable {X : Cx} {pins : List (Addr × Obj)} {σ : St} {H : Hp} {s : Shared} {a C dx : Addr} {fs : List (Str × V)} {f : Str} {v : V} {A : Around} {E : Value → Shared → Prop}
theorem getattr_ok {b : Bool} {Q : Value → Shared → Prop} (I : Inv X pins σ H s) (e : H a = some (.ins C dx fs)) (c : Cls X.K C) (n : NoAttr X.K C f) (l : fs.lookup f = some v)
   (h : ∀ u s', Inv X pins σ H s' → RelV v u → Q u s') : wpAny (model X.prog X.w) A (getAttr (.ref a) f b) Q E s := by
 obtain ⟨mA, O, r, _, _, _⟩ := ins_get I.hok e
 obtain ⟨u, hu, ru⟩ := RelO.some_of (v := v) (o := mA f) (by rw [← l]; exact r f)
 exact get_map I.kIn O (c.get f) c.hd n hu (handed_of ru) (h u _ (I.tok _) ru)
theorem getmeth_ok {m : Str} {g : Addr} {pl : Sem Bool} {Q : Value × List Value → Shared → Prop} (I : Inv X pins σ H s) (e : H a = some (.ins C dx fs)) (c : Cls X.K C) (k : Meth X.K C m g) (l : fs.lookup m = none)
   (h : Q (.ref g, [.ref a]) s) : wpAny (model X.prog X.w) A (getMethod (.ref a) m pl) Q E s := by
 obtain ⟨mA, O, r, _, _, _⟩ := ins_get I.hok e
 have hn : mA m = none := RelO.none_of (by rw [← l]; exact r m)
 exact get_meth I.kIn O (c.get m) k.at_ k.fn hn h
theorem setattr_ok {y : V} {u : Value} {Q : Unit → Shared → Prop} (I : Inv X pins σ H s) (e : H a = some (.ins C dx fs)) (c : Cls X.K C) (n : NoAttr X.K C f) (hl : fs.length < 1000) (ry : RelV y u)
   (h : ∀ s', Inv X pins σ (upd H a (.ins C dx (putF f y fs))) s' → Q () s') : wpAny (model X.prog X.w) A (setAttr (.ref a) f u) Q E s := by
 obtain ⟨mA, O, r, wi, _, ho⟩ := ins_get I.hok e
 have hz : (fs.map (·.1)).length ≤ sizeLine := by rw [List.length_map, sizeLine_eq]; omega
 refine set_map I.kIn O c.sa c.po n.taker c.hd wi hz fun h' O' sb => h _ ?_
 have hd : ∃ o, h'.get? dx = some o := let ⟨o, _, _, e', _⟩ := O'.ns; ⟨o, e'⟩
 refine I.write (x := a) (e := dx) (by rw [e]; exact True.intro) (.inr ho) (fun b q hb z => (sb.2 b hb).trans z) hd ?_
 refine ⟨by rw [qv O.ne]; exact ho, ?_, O.ne, O'.obj, _, O'.ns, fun g => ?_, fun g hg => ?_⟩
 · have := length_putF f y fs; omega
 · show RelO ((putF f y fs).lookup g) (if g = f then some u else mA g)
   rw [lookup_putF]
   by_cases q : g = f
   · rw [if_pos q, if_pos q]; exact ry
   · rw [if_neg q, if_neg q]; exact r g
 · by_cases q : g = f
   · rw [q]; exact (keys_putF f y fs).1
   · refine (keys_putF f y fs).2 g (wi g fun z => hg ?_)
     show (if g = f then some u else mA g) = none
     rw [if_neg q]; exact z
theorem Inv.made (I : Inv X pins σ H s) : Inv X pins σ (upd (upd H s.heap.objs.size (.own (s.heap.objs.size + 1))) (s.heap.objs.size + 1) (.ins C s.heap.objs.size []))
   { s with heap := (s.heap.push W.emptyDict).push (W.instObj C s.heap.objs.size) } := by
 have e1 : (s.heap.push W.emptyDict).get? s.heap.objs.size = some W.emptyDict := Heap.get?_push_size s.heap rfl
 have e2 : ((s.heap.push W.emptyDict).push (W.instObj C s.heap.objs.size)).get? (s.heap.objs.size + 1) = some (W.instObj C s.heap.objs.size) := by
   have := Heap.get?_push_size (s.heap.push W.emptyDict) (o := W.instObj C s.heap.objs.size) rfl
   rwa [Heap.size_push] at this
 have e3 : (s.heap.push W.emptyDict).Ns s.heap.objs.size (fun _ => none) := ⟨W.emptyDict, #[], _, e1, rfl, (fun e he => absurd he (by simp)), fun _ => rfl⟩
 have I1 := I.laid (a := s.heap.objs.size) (o := .own (s.heap.objs.size + 1)) (h' := s.heap.push W.emptyDict) (t' := s.toks) (fun b u q => Heap.get?_push_of_some _ q) (Nat.le_refl _) ⟨_, e1⟩
 refine I1.laid (a := s.heap.objs.size + 1) (o := .ins C s.heap.objs.size []) (t' := s.toks) (fun b u q => Heap.get?_push_of_some _ q) (Nat.le_of_eq (Heap.size_push _ _)) ?_
 have ne : s.heap.objs.size ≠ s.heap.objs.size + 1 := Nat.ne_of_lt (Nat.lt_succ_self _)
 refine ⟨by rw [qv ne, qY], Nat.zero_le _, ne, e2, fun _ => none, (Heap.Ns1.of_empty e3).at fun o q => Heap.get?_push_of_some _ q, fun _ => True.intro, fun y hy => absurd rfl hy⟩
theorem attr_of {prog : Program} {w : World} {env : Env} {e : Expr} {f : Str} {pos : Pos} {s : Shared} {Q : Value → Shared → Prop} (hb : attributeBase e f env (eval e env) = eval e env)
   (h : wpAny (model prog w) A (eval e env) (fun o s₁ => wpAny (model prog w) A (getAttr o f true) Q E s₁) E s) : wpAny (model prog w) A (eval (.Attribute e f pos) env) Q E s :=
 Attribute_any_ h (by rw [arm_eval_Attribute, hb])
end
def tFld (K : W.Frag) (ta : TE) (f : Str) : TE := fun σ H Q => ta σ H fun x H1 => ∃ a C dx fs v, x = .ref a ∧ H1 a = some (.ins C dx fs) ∧ Cls K C ∧ NoAttr K C f ∧ fs.lookup f = some v ∧ Q v H1
def sFld (K : W.Frag) (ta tv : TE) (f : Str) : TS := fun D σ H => tv σ H fun y H1 => ta σ H1 fun x H2 => ∃ a C dx fs, x = .ref a ∧ H2 a = some (.ins C dx fs) ∧ Cls K C ∧ NoAttr K C f ∧ fs.length < 1000 ∧
 D.nx σ (upd H2 a (.ins C dx (putF f y fs)))
section
variable {X : Cx} {o e value : Expr} {f : Str} {pos pos' tpos : Pos} {ta tv : TE}
theorem pe_fld (he : PE X e ta) (hb : attributeBase e f X.env (eval e X.env) = eval e X.env) : PE X (.Attribute e f pos) (tFld X.K ta f) := by
 intro pins s σ H Q I h
 refine attr_of hb (thn (he pins s σ H _ I h) fun u s1 ⟨x, H1, I1, rx, a, C, dx, fs, v, ex, ea, c, n, l, q⟩ => ?_)
 subst ex
 obtain rfl : u = Value.ref a := rx
 exact getattr_ok I1 ea c n l fun u' s2 I2 ru => ⟨v, H1, I2, ru, q⟩
theorem ps_fld (ha : PE X o ta) (hv : PE X value tv) (hs : swapsWith value (some (.Attribute o f pos')) pos.line X.env = pure false) : PS X (.Assign [.Attribute o f pos'] value pos) (sFld X.K ta tv f) := by
 intro pins s σ H D I h
 refine plainObj_wpAny_Assign_Attribute (thn (hv pins s σ H _ I h) fun u s1 ⟨y, H1, I1, ry, q⟩ => thn (ha pins s1 σ H1 _ I1 q) fun ov s2 ⟨x, H2, I2, rx, a, C, dx, fs, ex, ea, c, n, l, q2⟩ => ?_) hs
 subst ex
 obtain rfl : ov = Value.ref a := rx
 exact setattr_ok I2 ea c n l ry fun s3 I3 => ⟨σ, _, I3, q2⟩
end
section
variable {X : Cx} {pins : List (Addr × Obj)} {σ : St} {H : Hp} {s : Shared} {A : Around} {E : Value → Shared → Prop} {Q : Value → Shared → Prop} {c : Value} {b : Bool}
inductive TyOf (K : W.Frag) (H : Hp) : V → Value → Prop where
 | non : TyOf K H .non (.type "NoneType")
 | bl (x : Bool) : TyOf K H (.bl x) (.type "bool")
 | int (i : Int) : TyOf K H (.int i) (.type "int")
 | str (x : Str) : TyOf K H (.str x) (.type "str")
 | flt (x : UInt64) : TyOf K H (.flt x) (.type "float")
 | lst {a : Addr} {xs : List V} (e : H a = some (.lst xs)) : TyOf K H (.ref a) (.type "list")
 | frz {a : Addr} {o : Obj} {xs : List V} (e : H a = some (.frz o (.lst xs))) : TyOf K H (.ref a) (.type "list")
 | tup {a : Addr} {xs : List V} (e : H a = some (.tup xs)) : TyOf K H (.ref a) (.type "tuple")
 | dK {a : Addr} {kvs : List (Key × V)} (e : H a = some (.dK kvs)) : TyOf K H (.ref a) (.type "dict")
 | dT {a : Addr} {kvs : List (List Key × V)} (e : H a = some (.dT kvs)) : TyOf K H (.ref a) (.type "dict")
 | ins {a C dx : Addr} {fs : List (Str × V)} (e : H a = some (.ins C dx fs)) (cl : Cls K C) (ha : W.findIn K (.ref C) "__class__" = some (some (.builtin "object.__class__")))
     (hn : W.specialIn K (.builtin "object.__class__") "__get__" = some (some (.builtin "getset_descriptor.__get__"))) (htk : W.takesIn K (.builtin "object.__class__") = some true)
     (hm : W.mroIn K C (.type "object") = some true) : TyOf K H (.ref a) (.ref C)
theorem isinst_ok {x : V} {u t : Value} (I : Inv X pins σ H s) (rx : RelV x u) (ty : TyOf X.K H x t) (e : W.kitOne X.K t c = some b) (h : ∀ tk, Q (.bool b) { s with toks := tk }) :
   wpAny (model X.prog X.w) A (call (.builtin "isinstance") [u, c]) Q E s := by
 cases ty with
 | non => cases (show u = Value.none from rx); exact W.kia_one W.kitx_none I.kIn True.intro e (fun z => nomatch z) h
 | bl y => cases (show u = Value.bool y from rx); exact W.kia_one W.kitx_bool I.kIn True.intro e (fun z => nomatch z) h
 | int i => obtain ⟨t, q⟩ := (show ∃ t, u = Value.int i t from rx); cases q; exact W.kia_one W.kitx_int I.kIn True.intro e (fun z => nomatch z) h
 | str y => obtain ⟨t, q⟩ := (show ∃ t, u = Value.str y t from rx); cases q; exact W.kia_one W.kitx_str I.kIn True.intro e (fun z => nomatch z) h
 | flt y => obtain ⟨t, q⟩ := (show ∃ t, u = Value.float y t from rx); cases q; exact W.kia_one W.kitx_float I.kIn True.intro e (fun z => nomatch z) h
 | @lst a xs ea =>
   cases (show u = Value.ref a from rx)
   obtain ⟨_, _, n, _, h1⟩ := (show ObjOk X.prog X.w H s.heap a (.lst xs) from I.hok a _ ea)
   exact W.kia_one W.kitx_list I.kIn ⟨_, h1, rfl⟩ e (fun z => nomatch z) h
 | @frz a ob xs ea =>
   cases (show u = Value.ref a from rx)
   obtain ⟨_, _, _, n, _, h1⟩ := (show ObjOk X.prog X.w H s.heap a (.frz ob (.lst xs)) from I.hok a _ ea)
   exact W.kia_one W.kitx_list I.kIn ⟨_, h1, rfl⟩ e (fun z => nomatch z) h
 | @tup a xs ea =>
   cases (show u = Value.ref a from rx)
   obtain ⟨_, _, _, p⟩ := (show ObjOk X.prog X.w H s.heap a (.tup xs) from I.hok a _ ea)
   obtain ⟨o, h1, h2, _⟩ := p
   exact W.kia_one W.kitx_tuple I.kIn ⟨o, h1, h2⟩ e (fun z => nomatch z) h
 | @dK a kvs ea =>
   cases (show u = Value.ref a from rx)
   obtain ⟨_, _, vs, _, p⟩ := (show ObjOk X.prog X.w H s.heap a (.dK kvs) from I.hok a _ ea)
   obtain ⟨o, es, ep, h1, h2, _⟩ := p
   exact W.kia_one W.kitx_dict I.kIn ⟨o, h1, h2.1⟩ e (fun z => nomatch z) h
 | @dT a kvs ea =>
   cases (show u = Value.ref a from rx)
   obtain ⟨_, _, xs, _, o, es, ep, h1, h2, _⟩ := (show ObjOk X.prog X.w H s.heap a (.dT kvs) from I.hok a _ ea)
   exact W.kia_one W.kitx_dict I.kIn ⟨o, h1, h2.1⟩ e (fun z => nomatch z) h
 | @ins a C dx fs ea cl ha hn htk hm =>
   cases (show u = Value.ref a from rx)
   obtain ⟨mA, O, _⟩ := ins_get I.hok ea
   obtain ⟨od, J, _⟩ := O.look
   exact W.kia_one (W.kitx_own (cl.get _) cl.hd ha hn htk hm) I.kIn J e (fun z => nomatch z) h
end
end L2
namespace L2
open PySem PySem.Spec PyProof.Rows
structure Room (k : Nat) (A : Around) : Prop where
 hd : A.handled = none
 dp : A.depth + 3 * k + 5 < recursionLimit
 un : A.units + 16 * k + 200 < cLine
theorem Room.mono {j k : Nat} {A : Around} (r : Room k A) (h : j ≤ k) : Room j A := ⟨r.hd, by have := r.dp; omega, by have := r.un; omega⟩
theorem Room.deeper {k : Nat} {A : Around} (r : Room (k + 1) A) (env : Env) : Room k (A.deeper env) :=
 ⟨r.hd, by have := r.dp; show A.depth + 1 + 3 * k + 5 < _; omega, by have := r.un; show A.units + 3 + 16 * k + 200 < _; omega⟩
theorem Room.in1 {k : Nat} {A : Around} (r : Room (k + 1) A) : Room k A.in1 :=
 ⟨r.hd, by have := r.dp; show A.depth + 3 * k + 5 < _; omega, by have := r.un; show A.units + 1 + 16 * k + 200 < _; omega⟩
theorem make_depth {A : Around} {C : Addr} {us : List Value} {kw : List (Str × Value)} : (A.under (.builtin "type.__call__" ⟨.ref C :: us, kw⟩)).depth = A.depth + 1 := by
 first | rfl | simp [Around.under, Code.weight, Code.isCreation, Code.isGuard, Code.isCaller, Code.frames, Code.isFrame, guardIds]
theorem make_units {A : Around} {C : Addr} {us : List Value} {kw : List (Str × Value)} : (A.under (.builtin "type.__call__" ⟨.ref C :: us, kw⟩)).units = A.units + 1 := by
 first | rfl | simp [Around.under, Code.cUnits, Code.frames, Code.isFrame]
theorem Room.make {k : Nat} {A : Around} (r : Room (k + 1) A) (C : Addr) (us : List Value) (kw : List (Str × Value)) : Room k (A.under (.builtin "type.__call__" ⟨.ref C :: us, kw⟩)) :=
 ⟨r.hd, by have := r.dp; rw [make_depth]; omega, by have := r.un; rw [make_units]; omega⟩
theorem Room.depth {k : Nat} {A : Around} (r : Room k A) : A.depth < recursionLimit := by have := r.dp; omega
theorem Room.units {k : Nat} {A : Around} (r : Room k A) : A.units + 64 < cLine := by have := r.un; omega
theorem Room.units0 {k : Nat} {A : Around} (r : Room k A) : A.units < cLine := by have := r.un; omega
def tNil : TA := fun _ H Q => Q [] H
def tCons (ta : TE) (tr : TA) : TA := fun σ H Q => ta σ H fun x H1 => tr σ H1 fun xs H2 => Q (x :: xs) H2
section
variable {X : Cx} {e : Expr} {es : List Expr} {te : TE} {t : TA} {pos : Pos}
theorem pa_nil : PA X [] tNil := fun _ _ _ _ H Q I h => Calls.spliced_nil ⟨[], H, I, .nil, h⟩
theorem yz (ha : PE X e te) (hr : PA X es t) (hs : starEach (e :: es) X.env = (false, eval e X.env) :: starEach es X.env := by rfl) : PA X (e :: es) (tCons te t) := by
 intro pos pins s σ H Q I h
 rw [hs]
 show wpAny _ _ (spliced ((false, eval e X.env) :: backTo pos (starEach es X.env))) _ _ s
 refine Calls.spliced_cons (thn (ha pins s σ H _ I h) fun u s1 ⟨x, H1, I1, r1, q1⟩ => ?_)
 exact thn (hr pos pins s1 σ H1 _ I1 q1) fun us s2 ⟨xs, H2, I2, r2, q2⟩ => ⟨x :: xs, H2, I2, .cons r1 r2, q2⟩
def tTup (t : TA) : TE := fun σ H Q => t σ H fun xs H1 => xs.length ≤ sizeLine ∧ ∀ p, H1 p = none → Q (.ref p) (upd H1 p (.tup xs))
def tLst (t : TA) : TE := fun σ H Q => t σ H fun xs H1 => xs.length ≤ sizeLine ∧ ∀ p, H1 p = none → Q (.ref p) (upd H1 p (.lst xs))
theorem pe_tup {x1} (h : PA X es t) : PE X (.Tuple es x1 pos) (tTup t) := by
 intro pins s σ H Q I hq
 refine wpAny_Tuple_spliced (thn (h pos pins s σ H _ I hq) fun us s1 ⟨xs, H1, I1, r, z, q⟩ => ⟨by rw [← r.length]; exact z, ?_⟩)
 have hf : H1 s1.heap.objs.size = none := I1.hok.fresh (Nat.le_refl _)
 refine ⟨.ref s1.heap.objs.size, upd H1 s1.heap.objs.size (.tup xs), I1.laid (t' := s1.toks) (fun b u e => Heap.get?_push_of_some _ e) (Nat.le_refl _) ?_, rfl, q _ hf⟩
 exact ⟨z, us, r, ⟨_, Heap.get?_push_size _ rfl, rfl, _, rfl⟩⟩
theorem pe_lst (h : PA X es t) : PE X (.List es pos) (tLst t) := by
 intro pins s σ H Q I hq
 refine wpAny_List_spliced (thn (h pos pins s σ H _ I hq) fun us s1 ⟨xs, H1, I1, r, z, q⟩ => ⟨by rw [← r.length]; exact z, ?_⟩)
 have hf : H1 s1.heap.objs.size = none := I1.hok.fresh (Nat.le_refl _)
 refine ⟨.ref s1.heap.objs.size, upd H1 s1.heap.objs.size (.lst xs), I1.laid (t' := s1.toks) (fun b u e => Heap.get?_push_of_some _ e) (Nat.le_refl _) ?_, rfl, q _ hf⟩
 exact ⟨z, us, 0, r, Heap.get?_push_size _ rfl⟩
end
abbrev Sp := List V → Hp → VK → XK → Prop
abbrev CXT := List Env → Hp → Shared → XK → Value → Shared → Prop
structure Env0 (P : Program) (w : World) (K : W.Frag) (mg : Str → Option Value) (base : Heap) (A : Around) (outer : List Env) (s : Shared) (H : Hp) : Prop where
 frames : A.frames = some outer
 mod : Mod K mg base
 bs : ∀ b o, base.get? b = some o → s.heap.get? b = some o ∧ H b = none
 bsz : base.objs.size ≤ s.heap.objs.size
 funs : s.heap.FunFrames base outer
 frf : ∀ b ∈ frs outer, H b = none
 hok : HOk P w H s.heap
 bare : AllBare s.gens
def CE (outer : List Env) (P : Program) (w : World) (H : Hp) (s : Shared) (Q : VK) (u : Value) (s' : Shared) : Prop :=
 ∃ v H', s'.os = s.os ∧ AllBare s'.gens ∧ Un (frs outer) [] H H' s.heap s'.heap ∧ HOk P w H' s'.heap ∧ RelV v u ∧ Q v H'
def CR (CX : CXT) (outer : List Env) (P : Program) (w : World) (H : Hp) (s : Shared) (Q : VK) (E : XK) (r : Result) (s' : Shared) : Prop :=
 match r with
 | .ok (.ret u) => CE outer P w H s Q u s'
 | .ok _ => False
 | .error e => CX outer H s E e s'
structure FnOk (P : Program) (w : World) (K : W.Frag) (mg : Str → Option Value) (base : Heap) (CX : CXT) (k : Nat) (f : Addr) (fd : FuncData) (ps : List Str) (sp : Sp) : Prop where
 len : ∀ vs H Q E, sp vs H Q E → vs.length = ps.length
 run : ∀ (A : Around) (outer : List Env) (s : Shared) (H : Hp) (args : Args) (us : List Value) (vs : List V) (Q : VK) (E : XK), Room k A → Env0 P w K mg base A outer s H → BindsTo s fd args (ps.zip us) → Vals vs us → sp vs H Q E →
   codeAny (model P w) A (.call (.ref f) args) (CR CX outer P w H s Q E) s
theorem Env0.make {P : Program} {w : World} {K : W.Frag} {mg : Str → Option Value} {base : Heap} {A : Around} {outer : List Env} {s : Shared} {H : Hp} (e : Env0 P w K mg base A outer s H) (C : Addr) (us : List Value) (kw : List (Str × Value)) :
   Env0 P w K mg base (A.under (.builtin "type.__call__" ⟨.ref C :: us, kw⟩)) outer s H := ⟨by first | exact e.frames | (simpa [Around.under, Code.envs, Code.isFrame, pushEnvs] using e.frames), e.mod, e.bs, e.bsz, e.funs, e.frf, e.hok, e.bare⟩
theorem Env0.in1 {P : Program} {w : World} {K : W.Frag} {mg : Str → Option Value} {base : Heap} {A : Around} {outer : List Env} {s : Shared} {H : Hp} (e : Env0 P w K mg base A outer s H) :
   Env0 P w K mg base A.in1 outer s H := ⟨e.frames, e.mod, e.bs, e.bsz, e.funs, e.frf, e.hok, e.bare⟩
section
variable {X : Cx} {pins : List (Addr × Obj)} {σ : St} {H : Hp} {s s' : Shared}
theorem Inv.env0 (I : Inv X pins σ H s) : Env0 X.prog X.w X.K X.mg X.base X.A X.stack s H :=
 ⟨I.ok.frames, I.ok.mod, I.bs, Nat.le_trans I.ok.bsz I.sz, I.stack, I.stkFree, I.hok, I.bare⟩
theorem Inv.after {Q : VK} {u : Value} (I : Inv X pins σ H s) (h : CE X.stack X.prog X.w H s Q u s') : EP X pins σ Q u s' := by
 obtain ⟨v, H', os, bare, un, hok, r, q⟩ := h
 obtain ⟨hh, g, d, t, os'⟩ := s'
 obtain rfl : os' = s.os := os
 exact ⟨v, H', I.call (h' := hh) (g' := g) (d' := d) (t' := t) (ch := []) un hok bare (fun b z => absurd z (by simp)), r, q⟩
end
def tCall (sp : Sp) (dvs : List V) (E : XK) (t : TA) : TE := fun σ H Q => t σ H fun vs H1 => sp (vs ++ dvs) H1 Q E
def tMeth (C : Addr) (m : Str) (sp : Sp) (dvs : List V) (E : XK) (ta : TE) (t : TA) : TE := fun σ H Q => ta σ H fun x H1 => ∃ a dx fs, x = .ref a ∧ H1 a = some (.ins C dx fs) ∧ fs.lookup m = none ∧
 t σ H1 fun vs H2 => sp (x :: (vs ++ dvs)) H2 Q E
def tMake (C : Addr) (sp : Sp) (dvs : List V) (E : XK) (t : TA) : TE := fun σ H Q => t σ H fun vs H1 => ∀ x dx, H1 x = none → H1 dx = none → dx ≠ x →
 sp (.ref x :: (vs ++ dvs)) (upd (upd H1 dx (.own x)) x (.ins C dx [])) (fun v H2 => v = .non ∧ Q (.ref x) H2) E
def Binds (K : W.Frag) (fd : FuncData) (ps : List Str) (ds : List Value) : Prop :=
 ∀ (s : Shared) (us : List Value), K.In s.heap → (us ++ ds).length = ps.length → BindsTo s fd ⟨us, []⟩ (ps.zip (us ++ ds))
theorem Binds.all {K : W.Frag} {fd : FuncData} {ps : List Str} (h : ∀ us : List Value, us.length = ps.length → bindArgs fd ⟨us, []⟩ = pure (ps.zip us)) : Binds K fd ps [] := fun s us _ hl => by
 rw [List.append_nil] at hl ⊢
 exact .of_eq (h us hl)
def Passes (CX : CXT) (X : Cx) (E : XK) : Prop := ∀ (pins : List (Addr × Obj)) (σ : St) (H : Hp) (s : Shared) (e : Value) (s' : Shared), Inv X pins σ H s → CX X.stack H s E e s' → X.xe e s'
section
variable {X : Cx} {CX : CXT} {k : Nat} {f C : Addr} {fd : FuncData} {ps : List Str} {sp : Sp} {dvs : List V} {ds : List Value} {E : XK} {x m : Str} {p pos apos : Pos} {e o : Expr} {es : List Expr} {ta : TE} {t : TA}
theorem run_fn {pins : List (Addr × Obj)} {σ : St} {H : Hp} {s : Shared} {Q : VK} {us : List Value} {vs : List V} (F : FnOk X.prog X.w X.K X.mg X.base CX k f fd ps sp) (hr : Room k X.A) (hb : Binds X.K fd ps ds) (hd : Vals dvs ds) (hx : Passes CX X E)
   (I : Inv X pins σ H s) (r : Vals vs us) (h : sp (vs ++ dvs) H Q E) : wpAny (model X.prog X.w) X.A (call (.ref f) us) (EP X pins σ Q) X.xe s := by
 have r2 : Vals (vs ++ dvs) (us ++ ds) := r.append hd
 have hl : (us ++ ds).length = ps.length := by rw [← r2.length]; exact F.len _ _ _ _ h
 refine wpAny_call (codeAny_mono (F.run X.A X.stack s H ⟨us, []⟩ (us ++ ds) (vs ++ dvs) Q E hr I.env0 (hb s us I.kIn hl) r2 h) fun r s' hq => ?_)
 cases r with
 | error e => exact hx pins σ H s e s' I hq
 | ok fl =>
   cases fl with
   | ret u => exact I.after hq
   | next => exact False.elim hq
   | brk => exact False.elim hq
   | cont => exact False.elim hq
theorem pe_call (F : FnOk X.prog X.w X.K X.mg X.base CX k f fd ps sp) (hr : Room k X.A) (hg : Gl X x) (hm : X.mg x = some (.ref f)) (hk : W.keepIn X.K (.ref f) = true) (hb : Binds X.K fd ps ds) (hd : Vals dvs ds) (hx : Passes CX X E)
   (ha : PA X (e :: es) t) (hdb : (x == ("__debug__" : Str)) = false := by decide) (he : starEach (e :: es) X.env = (false, eval e X.env) :: starEach es X.env := by rfl) (hpl : (backTo pos (starEach es X.env)).any (·.1) = false := by rfl) :
   PE X (.Call (.Name x p) (e :: es) [] pos) (tCall sp dvs E t) := by
 intro pins s σ H Q I h
 refine wpAny_Call_Name_kw (ld_glob I hg hm ?_ hdb)
 refine W.callWith_K (h₀ := X.base) I.ok.mod.kin hk (thn (ha pos pins s σ H _ I h) fun us s1 ⟨vs, H1, I1, r, q⟩ => ⟨I1.kIn, ?_⟩) he hpl
 exact run_fn F hr hb hd hx I1 r q
theorem pe_call0 (F : FnOk X.prog X.w X.K X.mg X.base CX k f fd ps sp) (hr : Room k X.A) (hg : Gl X x) (hm : X.mg x = some (.ref f)) (hk : W.keepIn X.K (.ref f) = true) (hb : Binds X.K fd ps ds) (hd : Vals dvs ds) (hx : Passes CX X E)
   (hdb : (x == ("__debug__" : Str)) = false := by decide) : PE X (.Call (.Name x p) [] [] pos) (tCall sp dvs E tNil) := by
 intro pins s σ H Q I h
 refine wpAny_Call_Name_kw (ld_glob I hg hm ?_ hdb)
 exact W.callWith_K0 I.kIn hk (run_fn (us := []) F hr hb hd hx I .nil h)
theorem pe_meth {pl : Sem Bool} (he : PE X o ta) (c : Cls X.K C) (hm : Meth X.K C m f) (F : FnOk X.prog X.w X.K X.mg X.base CX k f fd ps sp) (hr : Room k X.A) (hb : Binds X.K fd ps ds) (hd : Vals dvs ds) (hx : Passes CX X E) (ha : PA X (e :: es) t)
   (hst : starEach (e :: es) X.env = (false, eval e X.env) :: starEach es X.env := by rfl) (hpl : (backTo pos (starEach es X.env)).any (·.1) = false := by rfl)
   (ht : eval (.Call (.Attribute o m apos) (e :: es) [] pos) X.env = (do
     let ov ← eval o X.env
     standAt apos.atName
     let (f, first) ← holding [ov] (getMethod ov m pl)
     callWith pos f first (backTo pos (starEach (e :: es) X.env)) (backToKw pos (keywordEach [] X.env))) := by rfl) :
   PE X (.Call (.Attribute o m apos) (e :: es) [] pos) (tMeth C m sp dvs E ta t) := by
 intro pins s σ H Q I h
 refine W.methodCall_KW (pl := pl) (thn (he pins s σ H _ I h) fun u s1 ⟨x, H1, I1, rx, a, dx, fs, ex, ea, l, q⟩ => ?_) ht
 subst ex
 obtain rfl : u = Value.ref a := rx
 refine getmeth_ok I1 ea c hm l ?_
 refine W.callWith_K (first := [.ref a]) (h₀ := X.base) I.ok.mod.kin hm.kp (thn (ha pos pins s1 σ H1 _ I1 q) fun us s2 ⟨vs, H2, I2, r, q2⟩ => ⟨I2.kIn, ?_⟩) hst hpl
 exact run_fn (us := .ref a :: us) (vs := .ref a :: vs) F hr hb hd hx I2 (.cons rfl r) q2
theorem pe_meth0 {pl : Sem Bool} (he : PE X o ta) (c : Cls X.K C) (hm : Meth X.K C m f) (F : FnOk X.prog X.w X.K X.mg X.base CX k f fd ps sp) (hr : Room k X.A) (hb : Binds X.K fd ps ds) (hd : Vals dvs ds) (hx : Passes CX X E)
   (ht : eval (.Call (.Attribute o m apos) [] [] pos) X.env = (do
     let ov ← eval o X.env
     standAt apos.atName
     let (f, first) ← holding [ov] (getMethod ov m pl)
     callWith pos f first (backTo pos (starEach [] X.env)) (backToKw pos (keywordEach [] X.env))) := by rfl) :
   PE X (.Call (.Attribute o m apos) [] [] pos) (tMeth C m sp dvs E ta tNil) := by
 intro pins s σ H Q I h
 refine W.methodCall_KW (pl := pl) (thn (he pins s σ H _ I h) fun u s1 ⟨x, H1, I1, rx, a, dx, fs, ex, ea, l, q⟩ => ?_) ht
 subst ex
 obtain rfl : u = Value.ref a := rx
 refine getmeth_ok I1 ea c hm l ?_
 exact W.callWith_K0 (first := [.ref a]) I1.kIn hm.kp (run_fn (us := [.ref a]) (vs := [.ref a]) F hr hb hd hx I1 (.cons rfl .nil) q)
structure Mk (K : W.Frag) (C f : Addr) : Prop where
 makes : W.makesIn K C = true
 init : W.findIn K (.ref C) "__init__" = some (some (.ref f))
 fn : W.isFn K (.ref f) = true
 kp : W.keepIn K (.ref C) = true
theorem run_make {pins : List (Addr × Obj)} {σ : St} {H : Hp} {s : Shared} {Q : VK} {us : List Value} {vs : List V} (M : Mk X.K C f) (F : FnOk X.prog X.w X.K X.mg X.base CX k f fd ps sp) (hr : Room (k + 1) X.A) (hb : Binds X.K fd ps ds) (hd : Vals dvs ds)
   (hx : Passes CX X E) (I : Inv X pins σ H s) (r : Vals vs us)
   (h : ∀ x dx, H x = none → H dx = none → dx ≠ x → sp (.ref x :: (vs ++ dvs)) (upd (upd H dx (.own x)) x (.ins C dx [])) (fun v H2 => v = .non ∧ Q (.ref x) H2) E) :
   wpAny (model X.prog X.w) X.A (call (.ref C) us) (EP X pins σ Q) X.xe s := by
 have hq := h (s.heap.objs.size + 1) s.heap.objs.size (I.hok.fresh (Nat.le_succ _)) (I.hok.fresh (Nat.le_refl _)) (Nat.ne_of_lt (Nat.lt_succ_self _))
 have I2 := Inv.made (C := C) I
 have r2 : Vals (V.ref (s.heap.objs.size + 1) :: (vs ++ dvs)) (Value.ref (s.heap.objs.size + 1) :: (us ++ ds)) := .cons rfl (r.append hd)
 have hl : (Value.ref (s.heap.objs.size + 1) :: us ++ ds).length = ps.length := by
   have e := r2.length
   rw [F.len _ _ _ _ hq] at e
   exact e.symm
 refine wpAny_call (make_map (f := f) I.kIn M.makes M.init (beq_iff_eq.mp M.fn) (codeAny_mono (F.run _ X.stack _ _ ⟨Value.ref (s.heap.objs.size + 1) :: us, []⟩ (Value.ref (s.heap.objs.size + 1) :: (us ++ ds)) _ _ E (hr.make C us [])
   (I2.env0.make C us []) (hb _ (Value.ref (s.heap.objs.size + 1) :: us) I2.kIn hl) r2 hq) fun r s' hq' => ?_))
 cases r with
 | error e => exact hx pins σ _ _ e s' I2 hq'
 | ok fl =>
   cases fl with
   | ret u =>
     obtain ⟨v, H', I3, rv, ev, q3⟩ := I2.after hq'
     subst ev
     exact ⟨rv, ⟨V.ref (s.heap.objs.size + 1), H', I3, rfl, q3⟩⟩
   | next => exact False.elim hq'
   | brk => exact False.elim hq'
   | cont => exact False.elim hq'
theorem pe_make0 (M : Mk X.K C f) (F : FnOk X.prog X.w X.K X.mg X.base CX k f fd ps sp) (hr : Room (k + 1) X.A) (hg : Gl X x) (hm : X.mg x = some (.ref C)) (hb : Binds X.K fd ps ds) (hd : Vals dvs ds) (hx : Passes CX X E)
   (hdb : (x == ("__debug__" : Str)) = false := by decide) : PE X (.Call (.Name x p) [] [] pos) (tMake C sp dvs E tNil) := by
 intro pins s σ H Q I h
 refine wpAny_Call_Name_kw (ld_glob I hg hm ?_ hdb)
 exact W.callWith_K0 I.kIn M.kp (run_make (us := []) M F hr hb hd hx I .nil h)
end
def PK (X : Cx) (kws : List Keyword) (t : TA) : Prop :=
 ∀ (pos : Pos) (pins : List (Addr × Obj)) (s : Shared) (σ : St) (H : Hp) (Q : List V → Hp → Prop), Inv X pins σ H s → t σ H Q → wpAny (model X.prog X.w) X.A (evalAll ((backToKw pos (keywordEach kws X.env)).map (·.2))) (AP X pins σ Q) X.xe s
section
variable {X : Cx} {CX : CXT} {k : Nat} {f C : Addr} {fd : FuncData} {ps ks : List Str} {sp : Sp} {E : XK} {x m : Str} {p pos apos kpos : Pos} {e o : Expr} {es : List Expr} {kws : List Keyword} {te ta : TE} {t tk : TA} {nm : Option Str}
theorem pk_nil : PK X [] tNil := fun _ _ _ _ H Q I h => wpAny_evalAll_nil ⟨[], H, I, .nil, h⟩
theorem pk_cons (ha : PE X e te) (hr : PK X kws t) : PK X (⟨nm, e, kpos⟩ :: kws) (tCons te t) := by
 intro pos pins s σ H Q I h
 show wpAny _ _ (evalAll ((do let v ← eval e X.env; standAt pos; pure v) :: (backToKw pos (keywordEach kws X.env)).map (·.2))) _ _ s
 refine wpAny_evalAll_cons (wpAny_bind (thn (ha pins s σ H _ I h) fun u s1 ⟨x, H1, I1, r1, q1⟩ => wpAny_bind (wpAny_standAt (wpAny_pure ?_))))
 exact thn (hr pos pins s1 σ H1 _ I1 q1) fun us s2 ⟨xs, H2, I2, r2, q2⟩ => ⟨x :: xs, H2, I2, .cons r1 r2, q2⟩
variable {g : List Value → List Value → List Value} {gV : List V → List V → List V}
end
structure FnScope (N P : List Str) (sc : Scope) : Prop where
 kind : sc.kind = .function
 co : sc.isCoroutine = false
 gen : sc.isGenerator = false
 nd : N.Nodup
 pre : N.take P.length = P
 par : ∀ x ∈ P, sc.names.lookup x = some .local ∨ sc.names.lookup x = some .cell
 nofree : ∀ y ∈ sc.names, y.2 ≠ .free
theorem bindL_out {kindOf : Str → Option NameKind} {x : Str} : ∀ {binds : List (Str × Value)} {m : Str → Option Value}, (∀ v, (x, v) ∉ binds) → bindL kindOf binds m x = m x
 | [], _, _ => rfl
 | (n, v) :: r, m, h => by
   unfold bindL
   rw [bindL_out fun w hw => h w (List.mem_cons_of_mem _ hw)]
   split
   · have : x ≠ n := by rintro rfl; exact h v List.mem_cons_self
     simp [this]
   · rfl
theorem bindC_out {kindOf : Str → Option NameKind} {x : Str} : ∀ {binds : List (Str × Value)} {m : Str → Option Value}, (∀ v, (x, v) ∉ binds) → bindC kindOf binds m x = m x
 | [], _, _ => rfl
 | (n, v) :: r, m, h => by
   unfold bindC
   rw [bindC_out fun w hw => h w (List.mem_cons_of_mem _ hw)]
   split
   · rfl
   · have : x ≠ n := by rintro rfl; exact h v List.mem_cons_self
     simp [this]
theorem bindL_get {kindOf : Str → Option NameKind} {x : Str} {v : Value} : ∀ {P : List Str} {vs : List Value} {i : Nat} {m : Str → Option Value}, P.Nodup → P[i]? = some x → vs[i]? = some v → kindOf x = some .local →
   bindL kindOf (P.zip vs) m x = some v
 | [], _, _, _, _, h, _, _ => by simp at h
 | _ :: _, [], _, _, _, _, h, _ => by simp at h
 | p :: P, w :: vs, 0, m, nd, h1, h2, hk => by
   simp at h1 h2; subst h1; subst h2
   show bindL kindOf ((p, w) :: P.zip vs) m p = _
   unfold bindL
   rw [bindL_out fun v hv => (List.nodup_cons.mp nd).1 (List.of_mem_zip hv).1, if_pos hk]
   simp
 | p :: P, w :: vs, i + 1, m, nd, h1, h2, hk => by
   show bindL kindOf ((p, w) :: P.zip vs) m x = _
   unfold bindL
   exact bindL_get (i := i) (List.nodup_cons.mp nd).2 (by simpa using h1) (by simpa using h2) hk
theorem bindC_get {kindOf : Str → Option NameKind} {x : Str} {v : Value} : ∀ {P : List Str} {vs : List Value} {i : Nat} {m : Str → Option Value}, P.Nodup → P[i]? = some x → vs[i]? = some v → kindOf x ≠ some .local →
   bindC kindOf (P.zip vs) m x = some v
 | [], _, _, _, _, h, _, _ => by simp at h
 | _ :: _, [], _, _, _, _, h, _ => by simp at h
 | p :: P, w :: vs, 0, m, nd, h1, h2, hk => by
   simp at h1 h2; subst h1; subst h2
   show bindC kindOf ((p, w) :: P.zip vs) m p = _
   unfold bindC
   rw [bindC_out fun v hv => (List.nodup_cons.mp nd).1 (List.of_mem_zip hv).1, if_neg hk]
   simp
 | p :: P, w :: vs, i + 1, m, nd, h1, h2, hk => by
   show bindC kindOf ((p, w) :: P.zip vs) m x = _
   unfold bindC
   exact bindC_get (i := i) (List.nodup_cons.mp nd).2 (by simpa using h1) (by simpa using h2) hk
def start (N : List Str) (vs : List V) : St := vs.map some ++ List.replicate (N.length - vs.length) none
def cxOf (CX : CXT) (P : Program) (w : World) (K : W.Frag) (mg : Str → Option Value) (base : Heap) (N : List Str) (qual : Str) (scope : Scope) (f : Addr) (cd : Value) (A : Around) (outer : List Env) (s : Shared) (H : Hp) (E : XK) : Cx where
 prog := P
 w := w
 K := K
 mg := mg
 base := base
 A := A.deeper (envOfC qual scope s.heap.objs.size f cd)
 N := N
 s₀ := s
 H₀ := H
 env := envOfC qual scope s.heap.objs.size f cd
 outer := outer
 stack := envOfC qual scope s.heap.objs.size f cd :: outer
 ex := []
 calm := true
 fn := fun _ => true
 pn := []
 xe := fun e s' => wpAny (model P w) (A.deeper (envOfC qual scope s.heap.objs.size f cd)) (leaving (envOfC qual scope s.heap.objs.size f cd) e) (fun _ s'' => CX outer H s E e s'') (fun e' s'' => CX outer H s E e' s'') s'
theorem cell_has {sc : Scope} {n : Nat} {x : Str} (h : sc.names.lookup x = some .cell) : ∃ c, (cellsFrom n sc.names []).lookup x = some c := by
 have q := W.cellsFrom_some sc.names n [] (.inl h)
 exact Option.isSome_iff_exists.mp q
theorem inv_start {CX : CXT} {P : Program} {w : World} {K : W.Frag} {mg : Str → Option Value} {base : Heap} {N ps : List Str} {qual : Str} {scope : Scope} {f : Addr} {cd : Value} {A : Around} {outer : List Env} {s s1 : Shared} {H : Hp} {E : XK} {us : List Value} {vs : List V}
   (S : FnScope N ps scope) (hd : A.handled = none) (e0 : Env0 P w K mg base A outer s H) (hl : vs.length = ps.length) (r : Vals vs us)
   (x : InCallC s s.heap.objs.size (bindL (envOfC qual scope s.heap.objs.size f cd).kindOf (ps.zip us) fun _ => none) (cellsFrom (s.heap.objs.size + 1) scope.names []) (bindC (envOfC qual scope s.heap.objs.size f cd).kindOf (ps.zip us) fun _ => none) s1) :
   Inv (cxOf CX P w K mg base N qual scope f cd A outer s H E) [] (start N vs) H s1 := by
 have hpl : ps.length ≤ N.length := by have := congrArg List.length S.pre; rw [List.length_take] at this; omega
 obtain ⟨h1, tk, rfl, hk⟩ := x.done
 have noA : ∀ b : Addr, b ∉ (cxOf CX P w K mg base N qual scope f cd A outer s H E).ex := fun b z => absurd (show b ∈ ([] : List Addr) from z) (by simp)
 refine ⟨⟨e0.mod, S.kind, rfl, rfl, Nat.le_refl _, fun y z c h1 h2 => ?_, fun y hy => ?_, fun y c _ h => ?_, fun _ => hd, Around.frames_deeper e0.frames, .inr ⟨rfl, rfl⟩, fun b z => absurd z (noA b), e0.bs, e0.bsz, fun b _ _ => noA b, fun b z => absurd z (noA b), e0.funs, e0.frf⟩,
   rfl, e0.bare, Un.kept hk, ⟨_, x.toInCall.ns, fun i y v h1 h2 h3 => ?_⟩, fun y c h => ⟨_, x.cell y c h⟩, e0.hok.fresh (Nat.le_refl _), fun y c h => ?_, fun p hp => absurd (show p ∈ ([] : List (Addr × Obj)) from hp) (by simp), e0.hok.kept hk, ?_⟩
 · exact name_of_addr x.apart (PySem.mem_of_lookup h1) (PySem.mem_of_lookup h2)
 · have hy : scope.names.lookup y = some .cell ∨ scope.names.lookup y = some .free := hy
   rcases hy with hy | hy
   · exact cell_has hy
   · exact absurd rfl (S.nofree _ (PySem.mem_of_lookup hy))
 · exact Nat.le_of_lt (x.above y c (PySem.mem_of_lookup h))
 · have hi : i < vs.length := by
     unfold start at h2
     by_cases hi : i < vs.length
     · exact hi
     · rw [List.getElem?_append_right (by simpa using hi)] at h2
       rw [List.getElem?_replicate] at h2
       split at h2 <;> cases h2
   have ha : vs[i]? = some v := by
     unfold start at h2
     rw [List.getElem?_append_left (by simpa using hi), List.getElem?_map] at h2
     cases e : vs[i]? with
     | none => rw [e] at h2; cases h2
     | some a => rw [e] at h2; cases h2; rfl
   obtain ⟨u, hu, rv⟩ := r.get ha
   have hp : ps[i]? = some y := by
     rw [← S.pre, List.getElem?_take_of_lt (by omega)]; exact h1
   have ndP : ps.Nodup := by rw [← S.pre]; exact S.nd.sublist (List.take_sublist _ _)
   refine ⟨u, rv, ?_⟩
   rcases S.par y (List.mem_of_getElem? hp) with k | k
   · exact .inl ⟨k, bindL_get ndP hp hu k⟩
   · obtain ⟨c, e⟩ := cell_has (n := s.heap.objs.size + 1) k
     refine .inr ⟨.inl k, c, e, ?_⟩
     have q := x.cell y c e
     rw [bindC_get ndP hp hu (by show scope.names.lookup y ≠ _; rw [k]; decide)] at q
     exact q
 · exact e0.hok.fresh (Nat.le_of_lt (x.above y c (PySem.mem_of_lookup h)))
 · unfold start
   show _ = N.length
   rw [List.length_append, List.length_map, List.length_replicate]
   omega
theorem fn_of {CX : CXT} {P : Program} {w : World} {K : W.Frag} {mg : Str → Option Value} {base : Heap} {k : Nat} {f : Addr} {name qual : Str} {params : Arguments} {body : List Stmt} {scope : Scope} {dV kV doc pm cdv ct oc : Value} {an od : Option Addr}
   {osl : Array (Option Value)} {N ps : List Str} {sp : Sp} (lk : K.lookup f = some ⟨oc, od, .func (W.fnOf name qual params body scope dV kV doc pm an cdv ct), osl⟩) (hcd : W.codeIn K cdv qual = true) (S : FnScope N ps scope)
   (len : ∀ vs H Q E, sp vs H Q E → vs.length = ps.length)
   (hbody : ∀ (A : Around) (outer : List Env) (s : Shared) (H : Hp) (vs : List V) (Q : VK) (E : XK), Room k (A.deeper (envOfC qual scope s.heap.objs.size f cdv)) → sp vs H Q E →
     ∃ t, PSs (cxOf CX P w K mg base N qual scope f cdv A outer s H E) body t ∧ t { nx := fun _ H' => Q .non H', rt := Q } (start N vs) H) :
   FnOk P w K mg base CX (k + 1) f (W.fnOf name qual params body scope dV kV doc pm an cdv ct) ps sp := by
 refine ⟨len, fun A outer s H args us vs Q E hr e0 hb r hsp => ?_⟩
 have hl := len _ _ _ _ hsp
 have KX : K.In s.heap := e0.mod.kin.keeps fun b o e => (e0.bs b o e).1
 have lim : s.heap.NoLimit := e0.mod.nolimit.keeps fun b o e => (e0.bs b o e).1
 have hkind : ∀ y ∈ ps.zip us, scope.names.lookup y.1 = some .local ∨ (scope.names.lookup y.1 = some .cell ∧ ((cellsFrom (s.heap.objs.size + 1) scope.names []).lookup y.1).isSome = true) := fun ⟨n, v⟩ hy => by
   rcases S.par n (List.of_mem_zip hy).1 with q | q
   · exact .inl q
   · exact .inr ⟨q, W.cellsFrom_some _ _ _ (.inl q)⟩
 refine codeAny_call_function hr.depth (KX _ _ lk) rfl S.co S.gen rfl (W.codeRec_of KX hcd) (hb _ _ _ _ ?_)
 refine wpAny_newFunctionEnv_cells S.kind hkind fun env he s1 x => ?_
 subst he
 refine ⟨lim.keeps x.toInCall.keep, codeAny_func ?_⟩
 obtain ⟨t, ht, hq⟩ := hbody A outer s H vs Q E (hr.deeper _) hsp
 have I : Inv (cxOf CX P w K mg base N qual scope f cdv A outer s H E) [] (start N vs) H s1 := inv_start S hr.hd e0 hl r x
 refine wpAny_mono (ht [] s1 (start N vs) H _ I hq) (fun fl s' hs => ?_) fun e s' hs => hs
 have fin : ∀ {σ' : St} {H' : Hp} {v : V} {u : Value}, Inv (cxOf CX P w K mg base N qual scope f cdv A outer s H E) [] σ' H' s' → RelV v u → Q v H' → CE outer P w H s Q u s' :=
   fun {σ' H' v u} J rv q => ⟨v, H', J.os, J.bare, J.base, J.hok, rv, q⟩
 cases fl with
 | ret u =>
   obtain ⟨v, σ', H', J, rv, q⟩ := hs
   exact fin J rv q
 | next =>
   obtain ⟨σ', H', J, q⟩ := hs
   exact fin (v := V.non) (u := Value.none) J rfl q
 | brk =>
   obtain ⟨_, _, _, q⟩ := hs
   exact False.elim q
 | cont =>
   obtain ⟨_, _, _, q⟩ := hs
   exact False.elim q
end L2
namespace L2
open PySem PySem.Spec PyProof.Rows
section
variable {X : Cx} {x : Str} {p pos : Pos} {e : Expr} {es : List Expr} {t : TA} {id T : String} {r : List V → Hp → VK → Prop}
def tCB (r : List V → Hp → VK → Prop) (t : TA) : TE := fun σ H Q => t σ H fun vs H1 => r vs H1 Q
theorem pe_callB (hc : CallR X (.builtin id) r) (hg : Gl X x) (hm : X.mg x = none) (hv : bootBuiltins x = some (.builtin id)) (ha : PA X (e :: es) t) (hn : x ≠ "__name__" := by decide) (hdb : (x == ("__debug__" : Str)) = false := by decide)
   (he : starEach (e :: es) X.env = (false, eval e X.env) :: starEach es X.env := by rfl) (hpl : (backTo pos (starEach es X.env)).any (·.1) = false := by rfl) : PE X (.Call (.Name x p) (e :: es) [] pos) (tCB r t) := by
 intro pins s σ H Q I h
 refine wpAny_Call_Name_kw (ld_blt I hg hm hv ?_ hn hdb)
 exact PyProof.Rows.callWith_builtin1 (thn (ha pos pins s σ H _ I h) fun us s1 ⟨vs, H1, I1, r1, q1⟩ => hc pins s1 σ H1 vs us Q I1 r1 q1) he hpl
theorem pe_callTy (hc : CallR X (.type T) r) (hg : Gl X x) (hm : X.mg x = none) (hv : bootBuiltins x = some (.type T)) (ha : PA X (e :: es) t) (hn : x ≠ "__name__" := by decide) (hdb : (x == ("__debug__" : Str)) = false := by decide)
   (he : starEach (e :: es) X.env = (false, eval e X.env) :: starEach es X.env := by rfl) (hpl : (backTo pos (starEach es X.env)).any (·.1) = false := by rfl) : PE X (.Call (.Name x p) (e :: es) [] pos) (tCB r t) := by
 intro pins s σ H Q I h
 refine wpAny_Call_Name_kw (ld_blt I hg hm hv ?_ hn hdb)
 exact PyProof.Rows.callWith_type1 (thn (ha pos pins s σ H _ I h) fun us s1 ⟨vs, H1, I1, r1, q1⟩ => hc pins s1 σ H1 vs us Q I1 r1 q1) he hpl
end
end L2
namespace HT
open PySem PyProof.Rows
section
variable {prog : Program} {w : World} {A : Around} {E : Value → Shared → Prop} {s : Shared}
def sIx (n d : Nat) : Option Int → Nat
 | none => d
 | some v => if v < 0 then (v + (n : Int)).toNat else min v.toNat n
theorem sIx_none (n d : Nat) : sIx n d none = d := rfl
theorem sIx_nat (n d k : Nat) : sIx n d (some (k : Int)) = min k n := by
 show (if (k : Int) < 0 then ((k : Int) + (n : Int)).toNat else min (k : Int).toNat n) = min k n
 rw [if_neg (by omega), Int.toNat_natCast]
end
end HT
namespace L2
open PySem PySem.Spec PyProof.Rows
abbrev TO := St → Hp → (Option Int → Hp → Prop) → Prop
def PO (X : Cx) (e : Option Expr) (t : TO) : Prop :=
 ∀ (pins : List (Addr × Obj)) (s : Shared) (σ : St) (H : Hp) (Q : Option Int → Hp → Prop), Inv X pins σ H s → t σ H Q →
   wpAny (model X.prog X.w) X.A (evalPart e X.env) (fun u s' => ∃ o H', Inv X pins σ H' s' ∧ IsPart u o ∧ Q o H') X.xe s
def tNoPart : TO := fun _ H Q => Q none H
def tPart (t : TE) : TO := fun σ H Q => t σ H fun x H1 => ∃ i, x = .int i ∧ Q (some i) H1
theorem intsAre_of {ns : List Int} : ∀ {us : List Value}, Vals (ns.map V.int) us → IntsAre us ns := by
 induction ns with
 | nil => intro us r; rw [List.map_nil] at r; cases r; exact .nil
 | cons n ns ih =>
   intro us r
   rw [List.map_cons] at r
   cases r with
   | cons r1 r2 =>
     obtain ⟨t, e⟩ := r1
     subst e
     exact .cons n t (ih r2)
section
variable {X : Cx} {e : Expr} {te : TE} {lo hi : Option Expr} {tl th : TO} {pos p2 : Pos}
theorem po_none : PO X none tNoPart := by
 intro pins s σ H Q I h
 rw [evalPart_none]
 exact wpAny_pure ⟨none, H, I, .none, h⟩
theorem po_some (h : PE X e te) : PO X (some e) (tPart te) := by
 intro pins s σ H Q I hw
 rw [evalPart_some]
 refine thn (h pins s σ H _ I hw) fun u s1 ⟨x, H1, I1, r1, q1⟩ => ?_
 obtain ⟨i, rfl, q⟩ := q1
 obtain ⟨t, rfl⟩ := r1
 exact ⟨some i, H1, I1, .int i t, q⟩
def SlR (X : Cx) (r : V → Option Int → Option Int → Hp → VK → Prop) : Prop :=
 ∀ (pins : List (Addr × Obj)) (s : Shared) (σ : St) (H : Hp) (x : V) (v vl vu : Value) (lo hi : Option Int) (sl : Addr) (Q : VK), Inv X pins σ H s → RelV x v → s.heap.IsSliceOf sl vl vu .none → IsPart vl lo → IsPart vu hi → r x lo hi H Q →
   ∃ T id, typeLookup (.type T) "__getitem__" = pure (some (.builtin id)) ∧ s.TypeIs v T ∧ wpAny (model X.prog X.w) X.A (getItem v (.ref sl)) (EP X pins σ Q) X.xe s
def tSl (r : V → Option Int → Option Int → Hp → VK → Prop) (te : TE) (tl th : TO) : TE := fun σ H Q => te σ H fun x H1 => tl σ H1 fun l H2 => th σ H2 fun u H3 => r x l u H3 Q
theorem pe_slice {r : V → Option Int → Option Int → Hp → VK → Prop} (hr : SlR X r) (he : PE X e te) (hl : PO X lo tl) (hu : PO X hi th) : PE X (.Subscript e (.Slice lo hi none p2) pos) (tSl r te tl th) := by
 intro pins s σ H Q I h
 refine Subscript_ (thn (he pins s σ H _ I h) fun v s1 ⟨x, H1, I1, r1, q1⟩ => ?_)
 refine wpAny_Slice (thn (hl pins s1 σ H1 _ I1 q1) fun vl s2 ⟨l, H2, I2, pl, q2⟩ => thn (hu pins s2 σ H2 _ I2 q2) fun vu s3 ⟨u, H3, I3, pu, q3⟩ => ?_)
 rw [evalPart_none]
 refine wpAny_pure ?_
 have I4 : Inv X pins σ H3 { s3 with heap := s3.heap.push { cls := .type "slice", data := .fields #[vl, vu, .none] } } := I3.kept (t' := s3.toks) fun b ob q => Heap.get?_push_of_some _ q
 obtain ⟨T, id, hT, ht, hg⟩ := hr pins { s3 with heap := s3.heap.push { cls := .type "slice", data := .fields #[vl, vu, .none] } } σ H3 x v vl vu l u s3.heap.objs.size Q I4 r1 (Heap.IsSliceOf.new ..) pl pu q3
 show wpAny (model X.prog X.w) X.A (subscriptTail e (.Slice lo hi none p2) v (.ref s3.heap.objs.size)) (EP X pins σ Q) X.xe { s3 with heap := s3.heap.push { cls := .type "slice", data := .fields #[vl, vu, .none] } }
 exact tail_any (ops := [.ref s3.heap.objs.size, v]) ht hT hg (by with_unfolding_all rfl)
def cutV (xs : List V) (lo hi : Option Int) : List V := (xs.drop (HT.sIx xs.length 0 lo)).take (HT.sIx xs.length xs.length hi - HT.sIx xs.length 0 lo)
theorem cutV_length (xs : List V) (lo hi : Option Int) : (cutV xs lo hi).length ≤ xs.length := by
 unfold cutV
 rw [List.length_take, List.length_drop]
 omega
end
end L2
namespace L2
open PySem PySem.Spec PyProof.Rows
def ixN (n : Nat) (i : Int) : Option Nat := if 0 ≤ i then (if i < n then some i.toNat else none) else if -(n : Int) ≤ i then some (i + n).toNat else none
def atI {α : Type} (xs : List α) (i : Int) : Option α := (ixN xs.length i).bind fun j => xs[j]?
theorem ixN_seq {n : Nat} {i : Int} {j : Nat} (h : ixN n i = some j) : seqIndex? i n = some j ∧ j < n ∧ -(n : Int) ≤ i ∧ i < n := by
 unfold ixN at h
 by_cases h0 : 0 ≤ i
 · rw [if_pos h0] at h
   by_cases h1 : i < n
   · rw [if_pos h1] at h
     have e : i.toNat = j := Option.some.inj h
     exact ⟨by rw [seqIndex_of h0 h1, e], by omega, by omega, h1⟩
   · rw [if_neg h1] at h; cases h
 · rw [if_neg h0] at h
   by_cases h1 : -(n : Int) ≤ i
   · rw [if_pos h1] at h
     have e : (i + n).toNat = j := Option.some.inj h
     exact ⟨by rw [seqIndex_neg (by omega) h1, e], by omega, h1, by omega⟩
   · rw [if_neg h1] at h; cases h
theorem atI_get {α : Type} {xs : List α} {i : Int} {v : α} (h : atI xs i = some v) : ∃ j, seqIndex? i xs.length = some j ∧ xs[j]? = some v ∧ j < xs.length ∧ -(xs.length : Int) ≤ i ∧ i < xs.length := by
 unfold atI at h
 cases e : ixN xs.length i with
 | none => rw [e] at h; cases h
 | some j =>
   rw [e] at h
   obtain ⟨h1, h2, h3, h4⟩ := ixN_seq e
   exact ⟨j, h1, h, h2, h3, h4⟩
theorem atI_nat {α : Type} {xs : List α} {j : Nat} {v : α} (h : xs[j]? = some v) : atI xs (j : Int) = some v := by
 have hj : j < xs.length := (List.getElem?_eq_some_iff.mp h).1
 have e : ixN xs.length (j : Int) = some j := by
   unfold ixN
   rw [if_pos (by omega), if_pos (by omega)]; simp
 unfold atI; rw [e]; exact h
theorem atI_last {α : Type} (xs : List α) (v : α) : atI (xs ++ [v]) (-1) = some v := by
 have hl : (xs ++ [v]).length = xs.length + 1 := by simp
 have e : ixN (xs ++ [v]).length (-1) = some xs.length := by
   unfold ixN
   rw [hl, if_neg (by decide), if_pos (by omega)]
   congr 1
   omega
 unfold atI
 rw [e]
 show (xs ++ [v])[xs.length]? = some v
 simp
def PlainIx (b : Expr) : Prop := ∀ o i, subscripted b false o i = operate [o, i] (getItem o i)
def IxR (X : Cx) (r : R2) : Prop :=
 ∀ (value slice : Expr) (pins : List (Addr × Obj)) (s : Shared) (σ : St) (H : Hp) (x y : V) (v u : Value) (Q : VK), Inv X pins σ H s → RelV x v → RelV y u → r x y H Q →
   subscripted slice false v u = operate [v, u] (getItem v u) → wpAny (model X.prog X.w) X.A (subscriptTail value slice v u) (EP X pins σ Q) X.xe s
def MtR (X : Cx) (id : String) (r : V → List V → Hp → VK → Prop) : Prop :=
 ∀ (pins : List (Addr × Obj)) (s : Shared) (σ : St) (H : Hp) (x : V) (xs : List V) (v : Value) (us : List Value) (Q : VK), Inv X pins σ H s → RelV x v → Vals xs us → r x xs H Q →
   wpAny (model X.prog X.w) X.A (call (.builtin id) (v :: us)) (EP X pins σ Q) X.xe s
section
variable {X : Cx} {a b : Expr} {ta tb : TE} {pos : Pos}
theorem pe_ix {r : R2} (hr : IxR X r) (ha : PE X a ta) (hb : PE X b tb) (hs : PlainIx b) : PE X (.Subscript a b pos) (tOp r ta tb) := by
 intro pins s σ H Q I h
 exact Subscript_ (binT ha hb I h fun v u s2 x y H2 I2 rx ry q => hr a b pins s2 σ H2 x y v u Q I2 rx ry q (hs _ _))
def rIxL (K : W.Frag) : R2 := fun x y H Q => ∃ p xs i v, x = .ref p ∧ y = .int i ∧ SqL K H p xs ∧ atI xs i = some v ∧ Q v H
def rIxT (K : W.Frag) : R2 := fun x y H Q => ∃ p xs i v, x = .ref p ∧ y = .int i ∧ SqT K H p xs ∧ atI xs i = some v ∧ Q v H
def rIxS : R2 := fun x y H Q => ∃ z i c, x = .str z ∧ y = .int i ∧ z.length ≤ sizeLine ∧ atI z.cps.toList i = some c ∧ Q (.str ⟨#[c]⟩) H
theorem ix_list : IxR X (rIxL X.K) := by
 intro value slice pins s σ H x y v u Q I rx ry h hs
 obtain ⟨p, xs, i, z, rfl, rfl, hq, he, q⟩ := h
 cases rx
 obtain ⟨t, rfl⟩ := ry
 obtain ⟨its, r, pl, hz⟩ := I.list hq
 obtain ⟨j, h1, h2, h3, h4, h5⟩ := atI_get he
 obtain ⟨w, ew, rw'⟩ := r.get h2
 have hl := r.length
 have hn := line63
 have fin : EP X pins σ Q w s := ⟨z, H, I, rw', q⟩
 by_cases h0 : 0 ≤ i
 · have hj : i.toNat = j := by
     rw [seqIndex_of h0 h5] at h1
     exact Option.some.inj h1
   exact item_listR pl.isList h0 (by omega) (by rw [hj]; simpa using ew) fin hs
 · have hj : (i + (its.toArray.size : Int)).toNat = j := by
     rw [seqIndex_neg (by omega) h4] at h1
     rw [List.size_toArray, ← hl]
     exact Option.some.inj h1
   exact subscriptTail_builtinR (x := w) pl.isList.typeIs slot_list_getitem.lookup
     (wpAny_getItem_list_neg (Q := fun r s' => r = w ∧ EP X pins σ Q r s') pl.isList (by omega) (by rw [List.size_toArray] <;> omega) (by omega) (by rw [hj]; simpa using ew) ⟨rfl, fin⟩) hs
theorem ix_tup : IxR X (rIxT X.K) := by
 intro value slice pins s σ H x y v u Q I rx ry h hs
 obtain ⟨p, xs, i, z, rfl, rfl, hq, he, q⟩ := h
 cases rx
 obtain ⟨t, rfl⟩ := ry
 obtain ⟨its, r, pl, hz⟩ := I.tuple hq
 obtain ⟨j, h1, h2, h3, h4, h5⟩ := atI_get he
 obtain ⟨w, ew, rw'⟩ := r.get h2
 have hl := r.length
 have hn := line63
 have fin : EP X pins σ Q w s := ⟨z, H, I, rw', q⟩
 exact subscriptTail_builtinR (x := w) pl.typeIs slot_tuple_getitem.lookup
   (getItem_tuple (j := j) (Q := fun r s' => r = w ∧ EP X pins σ Q r s') pl (by omega) (by omega) (by rw [List.size_toArray, ← hl]; exact h1) (by simpa using ew) ⟨rfl, fin⟩) hs
theorem ix_str : IxR X rIxS := by
 intro value slice pins s σ H x y v u Q I rx ry h hs
 obtain ⟨z, i, c, rfl, rfl, hz, he, q⟩ := h
 obtain ⟨t, rfl⟩ := rx
 obtain ⟨t', rfl⟩ := ry
 obtain ⟨j, h1, h2, h3, h4, h5⟩ := atI_get he
 have hl : z.cps.toList.length = z.length := by simp [Str.length]
 rw [hl] at h1 h4 h5
 have hn := line63
 exact tail_any (typeIs_str s z t) slot_str_getitem.lookup (getItem_str (c := c) (by
   have e1 : decide (i < -(2 ^ 63 : Int)) = false := decide_eq_false (by omega)
   have e2 : decide (i ≥ 2 ^ 63) = false := decide_eq_false (by omega)
   rw [e1, e2, Bool.or_false]) (by rw [h1]; simpa using h2) ⟨.str ⟨#[c]⟩, H, I.tok _, ⟨_, rfl⟩, q⟩) hs
theorem Inv.lst {pins : List (Addr × Obj)} {σ : St} {H : Hp} {s : Shared} {p : Addr} {xs : List V} (I : Inv X pins σ H s) (h : H p = some (.lst xs)) :
   ∃ (its : List Value) (n : Nat), Vals xs its ∧ s.heap.get? p = some { cls := .type "list", data := .seq its.toArray n } ∧ xs.length ≤ sizeLine := by
 obtain ⟨z, its, n, r, e⟩ := I.hok p _ h
 exact ⟨its, n, r, e, z⟩
theorem slice_bounds (lo hi : Option Int) (n : Nat) : (sliceBounds lo hi none n).1 = ((HT.sIx n 0 lo : Nat) : Int) ∧ (sliceBounds lo hi none n).2.1 = ((HT.sIx n n hi : Nat) : Int) ∧ (sliceBounds lo hi none n).2.2 = 1 := by
 refine ⟨?_, ?_, rfl⟩
 · cases lo with
   | none => simp [sliceBounds, HT.sIx]
   | some i =>
     simp only [sliceBounds, HT.sIx, Option.getD_none, show (1 : Int) > 0 by decide, if_true]
     by_cases h : i < 0
     · simp only [h, if_true] <;> omega
     · simp only [h, if_false] <;> omega
 · cases hi with
   | none => simp [sliceBounds, HT.sIx]
   | some i =>
     simp only [sliceBounds, HT.sIx, Option.getD_none, show (1 : Int) > 0 by decide, if_true]
     by_cases h : i < 0
     · simp only [h, if_true] <;> omega
     · simp only [h, if_false] <;> omega
theorem slicePick_cut (its : List Value) (lo hi : Option Int) : slicePick its.toArray lo hi none = ((its.drop (HT.sIx its.length 0 lo)).take (HT.sIx its.length its.length hi - HT.sIx its.length 0 lo)).toArray := by
 obtain ⟨h1, h2, h3⟩ := slice_bounds lo hi its.toArray.size
 unfold slicePick
 rw [h1, h2, h3]
 simp only [sliceRange_one, pick_run, List.size_toArray] <;> rfl
def rSlL (K : W.Frag) : V → Option Int → Option Int → Hp → VK → Prop := fun x lo hi H Q => ∃ a xs, x = .ref a ∧ SqL K H a xs ∧ ∀ p, H p = none → Q (.ref p) (upd H p (.lst (cutV xs lo hi)))
theorem sl_list : SlR X (rSlL X.K) := by
 intro pins s σ H x v vl vu lo hi sl Q I rx hs pl pu h
 obtain ⟨a, xs, rfl, hx, q⟩ := h
 cases rx
 obtain ⟨its, r, ht, hz⟩ := I.list hx
 have hlen := r.length
 refine ⟨"list", _, slot_list_getitem.lookup, ht.isList.typeIs, ?_⟩
 refine wpAny_getItem_list_slice ht.isList hs pl pu .none (by simp) ?_ (by rw [List.size_toArray] <;> omega)
 rw [slicePick_cut, ← hlen]
 refine ⟨.ref s.heap.objs.size, _, I.laid (t' := s.toks) (o := .lst (cutV xs lo hi)) (fun b ob q => Heap.get?_push_of_some _ q) (Nat.le_refl _) ?_, rfl, q _ (I.hok.fresh (Nat.le_refl _))⟩
 exact ⟨Nat.le_trans (cutV_length xs lo hi) hz, _, 0, (r.drop (HT.sIx xs.length 0 lo)).take (HT.sIx xs.length xs.length hi - HT.sIx xs.length 0 lo), Heap.get?_push_size _ rfl⟩
def flatV : V → Bool
 | .non => true
 | .bl _ => true
 | .int _ => true
 | .str _ => true
 | _ => false
def eqV : V → V → Bool
 | .non, .non => true
 | .bl a, .bl b => a == b
 | .bl a, .int b => (if a then 1 else 0) == b
 | .int a, .bl b => a == (if b then 1 else 0)
 | .int a, .int b => a == b
 | .str a, .str b => a == b
 | _, _ => false
theorem eqAt_V {A : Around} {s : Shared} {y x : V} {u v : Value} (ry : RelV y u) (rx : RelV x v) (fy : flatV y = true) (fx : flatV x = true) : SeqAt.EqAt A s u v (eqV y x) := by
 cases y with
 | non =>
   cases ry
   cases x with
   | non => cases rx; exact SeqAt.EqAt.same _
   | bl b => cases rx; exact SeqAt.EqAt.none_bool b
   | int b => obtain ⟨t, rfl⟩ := rx; exact SeqAt.EqAt.none_int b t
   | str b => obtain ⟨t, rfl⟩ := rx; exact SeqAt.EqAt.none_str b t
   | _ => exact absurd (show false = true from fx) Bool.false_ne_true
 | bl a =>
   cases ry
   cases x with
   | non => cases rx; exact SeqAt.EqAt.bool_none a
   | bl b => cases rx; exact SeqAt.EqAt.bool_bool a b
   | int b => obtain ⟨t, rfl⟩ := rx; exact SeqAt.EqAt.bool_int a b t
   | str b => obtain ⟨t, rfl⟩ := rx; exact SeqAt.EqAt.bool_str a b t
   | _ => exact absurd (show false = true from fx) Bool.false_ne_true
 | int a =>
   obtain ⟨t', rfl⟩ := ry
   cases x with
   | non => cases rx; exact SeqAt.EqAt.int_none a t'
   | bl b => cases rx; exact SeqAt.EqAt.int_bool a t' b
   | int b => obtain ⟨t, rfl⟩ := rx; exact SeqAt.EqAt.int_int a t' b t
   | str b => obtain ⟨t, rfl⟩ := rx; exact SeqAt.EqAt.int_str a t' b t
   | _ => exact absurd (show false = true from fx) Bool.false_ne_true
 | str a =>
   obtain ⟨t', rfl⟩ := ry
   cases x with
   | non => cases rx; exact SeqAt.EqAt.str_none a t'
   | bl b => cases rx; exact SeqAt.EqAt.str_bool a t' b
   | int b => obtain ⟨t, rfl⟩ := rx; exact SeqAt.EqAt.str_int a t' b t
   | str b => obtain ⟨t, rfl⟩ := rx; exact SeqAt.EqAt.str_str a t' b t
   | _ => exact absurd (show false = true from fx) Bool.false_ne_true
 | _ => exact absurd (show false = true from fy) Bool.false_ne_true
def eqU (x : V) (u : Value) : Bool := match u with
 | .none => eqV .non x
 | .bool b => eqV (.bl b) x
 | .int i _ => eqV (.int i) x
 | .str z _ => eqV (.str z) x
 | _ => false
theorem eqU_of {x y : V} {u : Value} (r : RelV y u) (f : flatV y = true) : eqU x u = eqV y x := by
 cases y with
 | non => cases r; rfl
 | bl b => cases r; rfl
 | int i => obtain ⟨t, rfl⟩ := r; rfl
 | str z => obtain ⟨t, rfl⟩ := r; rfl
 | _ => exact absurd (show false = true from f) Bool.false_ne_true
theorem mem_eqAt {A : Around} {s : Shared} {x : V} {v : Value} (rx : RelV x v) (fx : flatV x = true) : ∀ {xs : List V} {us : List Value}, Vals xs us → xs.all flatV = true → ∀ u ∈ us, SeqAt.EqAt A s u v (eqU x u)
 | _, _, .nil, _ => fun u hu => by cases hu
 | y :: xs, u :: us, .cons r t, f => fun u' hu => by
   rw [List.all_cons, Bool.and_eq_true] at f
   rcases List.mem_cons.mp hu with rfl | hu
   · rw [eqU_of r f.1]; exact eqAt_V r rx f.1 fx
   · exact mem_eqAt rx fx t f.2 u' hu
theorem call_len_seq : CallR X (.builtin "len") (fun xs H Q => ∃ p ys, xs = [.ref p] ∧ (SqL X.K H p ys ∨ SqT X.K H p ys) ∧ Q (.int ys.length) H) := by
 intro pins s σ H xs us Q I r h
 obtain ⟨p, ys, rfl, hq, q⟩ := h
 obtain ⟨u, rfl, rx⟩ := vals1 r
 cases rx
 have hn := line63
 rcases hq with hq | hq
 · obtain ⟨its, r', pl, hz⟩ := I.list hq
   have hlen := r'.length
   exact Calls.call_len_list pl.isList (by simp only [List.size_toArray] <;> omega) ⟨.int ys.length, H, I.tok _, ⟨s.toks + 1, by rw [List.size_toArray, hlen]⟩, q⟩
 · obtain ⟨its, r', pl, hz⟩ := I.tuple hq
   have hlen := r'.length
   exact len_tuple pl (by simp only [List.size_toArray] <;> omega) ⟨.int ys.length, H, I.tok _, ⟨s.toks + 1, by rw [List.size_toArray, hlen]⟩, q⟩
theorem call_len_str : CallR X (.builtin "len") (fun xs H Q => ∃ z, xs = [.str z] ∧ z.length ≤ sizeLine ∧ Q (.int z.length) H) := by
 intro pins s σ H xs us Q I r h
 obtain ⟨z, rfl, hz, q⟩ := h
 obtain ⟨u, rfl, t, rfl⟩ := vals1 r
 have hn := line63
 exact len_str (by omega) ⟨.int z.length, H, I.tok _, ⟨_, rfl⟩, q⟩
theorem call_list_of : CallR X (.type "list") (fun xs H Q => ∃ p ys, xs = [.ref p] ∧ (SqL X.K H p ys ∨ SqT X.K H p ys) ∧ ∀ l, H l = none → Q (.ref l) (upd H l (.lst ys))) := by
 intro pins s σ H xs us Q I r h
 obtain ⟨p, ys, rfl, hq, q⟩ := h
 obtain ⟨u, rfl, rx⟩ := vals1 r
 cases rx
 have fin : ∀ (its : List Value), Vals ys its → ys.length ≤ sizeLine → ∀ (h' : Heap) (c' : Nat), (∀ b o', s.heap.get? b = some o' → h'.get? b = some o') →
     h'.get? s.heap.objs.size = some { cls := .type "list", dict := none, data := .seq its.toArray c', slots := #[] } → EP X pins σ Q (.ref s.heap.objs.size) { s with heap := h' } := fun its r' hz h' c' kp e =>
   ⟨.ref s.heap.objs.size, _, I.laid (t' := s.toks) kp (Nat.le_refl _) (show ObjOk X.prog X.w _ h' _ (.lst ys) from ⟨hz, its, c', r', e⟩), rfl, q _ (I.hok.fresh (Nat.le_refl _))⟩
 rcases hq with hq | hq
 · obtain ⟨its, r', pl, hz⟩ := I.list hq
   have hlen := r'.length
   obtain ⟨o, ho, hc, n, hd⟩ := pl.isList
   exact call_list_seq p (.inl rfl) ho hc hd (fun h' c' kp e => fin its r' hz h' c' kp e) (by simp only [List.size_toArray] <;> omega)
 · obtain ⟨its, r', pl, hz⟩ := I.tuple hq
   have hlen := r'.length
   obtain ⟨o, ho, hc, n, hd⟩ := pl
   exact call_list_seq p (.inr rfl) ho hc hd (fun h' c' kp e => fin its r' hz h' c' kp e) (by simp only [List.size_toArray] <;> omega)
def tyV (K : W.Frag) (T : String) (x : V) (H : Hp) : Prop := match x with
 | .str _ => T = "str"
 | .int _ => T = "int"
 | .ref p => (T = "list" ∧ ∃ xs, SqL K H p xs) ∨ (T = "tuple" ∧ ∃ o, K.lookup p = some o ∧ o.cls = .type "tuple" ∧ o.dict = none) ∨
     (T = "dict" ∧ ((∃ kvs, H p = some (.dK kvs)) ∨ ∃ kvs, H p = some (.dT kvs))) ∨ (T = "set" ∧ ∃ S n, H p = some (.set S n))
 | _ => False
theorem tyV_is {pins : List (Addr × Obj)} {σ : St} {H : Hp} {s : Shared} {T : String} {x : V} {v : Value} (I : Inv X pins σ H s) (r : RelV x v) (ty : tyV X.K T x H) :
   s.TypeIs v T ∧ ∀ a, v = .ref a → ∃ ob, s.heap.get? a = some ob ∧ ob.dict = none := by
 cases x with
 | str z =>
   obtain ⟨t, rfl⟩ := r
   cases (show T = "str" from ty)
   exact ⟨typeIs_str s z t, fun _ e => nomatch e⟩
 | int i =>
   obtain ⟨t, rfl⟩ := r
   cases (show T = "int" from ty)
   exact ⟨typeIs_int s i t, fun _ e => nomatch e⟩
 | ref p =>
   cases r
   rcases ty with ⟨rfl, xs, hq⟩ | ⟨rfl, o, hk, hc, hd⟩ | ⟨rfl, hk⟩ | ⟨rfl, S, n, hk⟩
   · obtain ⟨its, _, pl, _⟩ := I.list hq
     refine ⟨pl.isList.typeIs, fun a e => ?_⟩
     cases e
     obtain ⟨o, n, e, c, hd, _⟩ := pl
     exact ⟨o, e, hd⟩
   · refine ⟨⟨o, I.kIn p o hk, hc⟩, fun a e => ?_⟩
     cases e
     exact ⟨o, I.kIn _ o hk, hd⟩
   · have z : ∃ o, s.heap.get? p = some o ∧ o.ExactDict := by
       rcases hk with ⟨kvs, hk⟩ | ⟨kvs, hk⟩
       · obtain ⟨_, _, _, _, o, _, _, e, ex, _⟩ := I.hok p _ hk
         exact ⟨o, e, ex⟩
       · obtain ⟨_, _, _, _, o, _, _, e, ex, _⟩ := I.hok p _ hk
         exact ⟨o, e, ex⟩
     obtain ⟨o, e, ex⟩ := z
     refine ⟨⟨o, e, ex.1⟩, fun a e2 => ?_⟩
     cases e2
     exact ⟨o, e, ex.2.1⟩
   · obtain ⟨o, _, _, _, e, ex, _⟩ := I.hok p _ hk
     refine ⟨⟨o, e, ex.1⟩, fun a e2 => ?_⟩
     cases e2
     exact ⟨o, e, ex.2.1⟩
 | _ => exact False.elim ty
def tBM0 (K : W.Frag) (T : String) (r : V → List V → Hp → VK → Prop) (to : TE) : TE := fun σ H Q => to σ H fun x H1 => tyV K T x H1 ∧ r x [] H1 Q
def tBM (K : W.Frag) (T : String) (r : V → List V → Hp → VK → Prop) (to : TE) (t : TA) : TE := fun σ H Q => to σ H fun x H1 => tyV K T x H1 ∧ t σ H1 fun xs H2 => r x xs H2 Q
variable {o e : Expr} {es : List Expr} {to : TE} {t : TA} {name : Str} {apos cpos : Pos} {T id : String} {r : V → List V → Hp → VK → Prop}
theorem pe_bm0 (pa : PlainAttrs T) (slot : Slot T name id) (hty : typeOf (.builtin id) = pure (.type "method_descriptor")) (hm : MtR X id r) (ho : PE X o to)
   (hbase : attributeBase o name X.env (eval o X.env) = eval o X.env := by rfl) (hline : (apos.endLine == cpos.line) = true := by rfl) : PE X (.Call (.Attribute o name apos) [] [] cpos) (tBM0 X.K T r to) := by
 intro pins s σ H Q I h
 refine wpAny_Call_method0_late hbase hline (thn (ho pins s σ H _ I h) fun v s1 ⟨x, H1, I1, r1, ty, q1⟩ => ?_)
 obtain ⟨h1, h2⟩ := tyV_is I1 r1 ty
 exact ⟨T, id, pa, slot, hty, h1, h2, Calls.callWith_builtin rfl (PySem.evalArgs_none (hm pins s1 σ H1 x [] v [] Q I1 r1 .nil q1))⟩
theorem pe_bm (pa : PlainAttrs T) (slot : Slot T name id) (hty : typeOf (.builtin id) = pure (.type "method_descriptor")) (hm : MtR X id r) (ho : PE X o to) (ha : PA X (e :: es) t)
   (hbase : attributeBase o name X.env (eval o X.env) = eval o X.env := by rfl)
   (hfew : ((backTo cpos (starEach (e :: es) X.env)).all (fun x => !x.1) && (backToKw cpos (keywordEach [] X.env)).all (fun x => x.1.isSome)
     && decide ((e :: es).length + ([] : List Keyword).length + (if ([] : List Keyword).isEmpty then 0 else 1) < 30)) = true := by rfl)
   (hline : (apos.endLine == cpos.line) = true := by rfl) (hs : starEach (e :: es) X.env = (false, eval e X.env) :: starEach es X.env := by rfl) (hplain : (backTo cpos (starEach es X.env)).any (·.1) = false := by rfl) :
   PE X (.Call (.Attribute o name apos) (e :: es) [] cpos) (tBM X.K T r to t) := by
 intro pins s σ H Q I h
 refine wpAny_Call_method_late hbase hfew hline rfl (thn (ho pins s σ H _ I h) fun v s1 ⟨x, H1, I1, r1, ty, q1⟩ => ?_)
 obtain ⟨h1, h2⟩ := tyV_is I1 r1 ty
 refine ⟨T, id, pa, slot, hty, h1, h2, ?_⟩
 have hA := ha cpos pins s1 σ H1 _ I1 q1
 rw [hs] at hA ⊢
 refine Calls.callWith_builtin (by show (false || (backTo cpos (starEach es X.env)).any (·.1)) = false; rw [hplain] <;> rfl) (Calls.evalArgs_plain ?_)
 exact thn hA fun us s2 ⟨vs, H2, I2, r2, q2⟩ => hm pins s2 σ H2 x vs v us Q I2 r1 r2 q2
end
end L2
namespace L2
open PySem PySem.Spec PyProof.Rows
def MtM (X : Cx) (id : String) (r : V → List V → Hp → VK → Prop) : Prop :=
 ∀ (pins : List (Addr × Obj)) (s : Shared) (σ : St) (H : Hp) (x : V) (xs : List V) (v : Value) (us : List Value) (Q : VK), Inv X pins σ H s → RelV x v → Vals xs us → r x xs H Q →
   wpAny (model X.prog X.w) X.A (call (.builtin id) (v :: us)) (EP X pins σ Q) X.xe s
theorem Vals.one : ∀ {x : V} {us : List Value}, Vals [x] us → ∃ u, us = [u] ∧ RelV x u
 | _, _, .cons r .nil => ⟨_, rfl, r⟩
theorem Vals.two : ∀ {x y : V} {us : List Value}, Vals [x, y] us → ∃ u v, us = [u, v] ∧ RelV x u ∧ RelV y v
 | _, _, _, .cons r (.cons q .nil) => ⟨_, _, rfl, r, q⟩
theorem Vals.zero : ∀ {us : List Value}, Vals [] us → us = []
 | _, .nil => rfl
section
variable {X : Cx} {pins : List (Addr × Obj)} {σ : St} {H : Hp} {s : Shared} {l b : Addr} {xs ys zs : List V}
theorem Inv.lset {its its' : List Value} {n : Nat} {f : Array Value → Array Value} {t' : Nat} (I : Inv X pins σ H s) (hH : H l = some (.lst xs))
   (e : s.heap.get? l = some { cls := .type "list", data := .seq its.toArray n }) (hf : f its.toArray = its'.toArray) (hv : Vals ys its') (hz : ys.length ≤ sizeLine) :
   Inv X pins σ (upd H l (.lst ys)) { s with heap := s.heap.update l (Obj.mapSeq f), toks := t' } := by
 have q := PySem.IsL.update e f
 rw [hf] at q
 refine I.write (x := l) (e := l) (by rw [hH]; exact trivial) (.inl rfl) (fun b' u hb hu => (Heap.get?_update_other s.heap (Obj.mapSeq f) (Ne.symm hb)).trans hu) ⟨_, q⟩ ?_
 exact ⟨hz, its', _, hv, q⟩
theorem Inv.lnew {its : List Value} {t' : Nat} (I : Inv X pins σ H s) (hv : Vals ys its) (hz : ys.length ≤ sizeLine) :
   Inv X pins σ (upd H s.heap.objs.size (.lst ys)) { s with heap := s.heap.push { cls := .type "list", data := .seq its.toArray }, toks := t' } :=
 I.laid (fun _ _ q => Heap.get?_push_of_some _ q) (Nat.le_refl _) ⟨hz, its, 0, hv, Heap.get?_push_size _ rfl⟩
theorem Inv.fresh (I : Inv X pins σ H s) : H s.heap.objs.size = none := I.hok.fresh (Nat.le_refl _)
theorem Inv.lstM (I : Inv X pins σ H s) (hH : H l = some (.lst xs)) : xs.length ≤ sizeLine ∧ ∃ (its : List Value) (n : Nat), Vals xs its ∧ xs.length = its.length ∧ s.heap.get? l = some { cls := .type "list", data := .seq its.toArray n } := by
 obtain ⟨z, its, n, r, e⟩ := I.hok l _ hH
 exact ⟨z, its, n, r, r.length, e⟩
theorem notLongL {n : Nat} (h : n ≤ sizeLine) : Builtin.List.listTooLong n = false := by
 unfold Builtin.List.listTooLong
 exact decide_eq_false (by omega)
end
section
variable {X : Cx}
def rAppend : V → List V → Hp → VK → Prop := fun x vs H Q => ∃ l xs y, x = .ref l ∧ vs = [y] ∧ H l = some (.lst xs) ∧ xs.length < sizeLine ∧ Q .non (upd H l (.lst (xs ++ [y])))
theorem mt_append : MtM X "list.append" rAppend := by
 intro pins s σ H x vs v us Q I rx rv h
 obtain ⟨l, xs, y, rfl, rfl, hH, hz, q⟩ := h
 cases rx
 obtain ⟨u, rfl, ru⟩ := rv.one
 obtain ⟨z, its, n, r, hl, e⟩ := I.lstM hH
 refine call_meets F.slot_list_append ⟨_, e, rfl⟩ F.entry_list_append (F.args_list_append_2 _ _) (PySem.list_append l its.toArray n u (by rw [List.size_toArray]; omega)) ⟨e, ?_⟩
 refine ⟨.non, _, I.lset (its' := its ++ [u]) hH e (by simp) (r.append (.cons ru .nil)) ?_, rfl, q⟩
 rw [List.length_append, List.length_singleton]
 omega
def rExtend : V → List V → Hp → VK → Prop := fun x vs H Q => ∃ l b xs zs, x = .ref l ∧ vs = [.ref b] ∧ H l = some (.lst xs) ∧ H b = some (.lst zs) ∧ xs.length + zs.length ≤ sizeLine ∧ Q .non (upd H l (.lst (xs ++ zs)))
theorem mt_extend : MtM X "list.extend" rExtend := by
 intro pins s σ H x vs v us Q I rx rv h
 obtain ⟨l, b, xs, zs, rfl, rfl, hH, hB, hz, q⟩ := h
 cases rx
 obtain ⟨u, rfl, ru⟩ := rv.one
 cases ru
 obtain ⟨z, its, n, r, hl, e⟩ := I.lstM hH
 obtain ⟨z2, its2, n2, r2, hl2, e2⟩ := I.lstM hB
 have hsz : its.toArray.size + its2.toArray.size ≤ sizeLine := by rw [List.size_toArray, List.size_toArray]; omega
 have hlong : ¬ (!its.toArray.isEmpty && Builtin.List.listTooLong (its.toArray.size + its2.toArray.size)) = true := by
   rw [notLongL hsz, Bool.and_false]
   exact Bool.false_ne_true
 refine call_meets F.slot_list_extend ⟨_, e, rfl⟩ F.entry_list_extend (F.args_list_extend_2 _ _)
   (AutoSeq1.list_extend_list_list_0 l its.toArray n b its2.toArray n2 hlong (by rw [List.size_toArray]; omega) (by omega)) ⟨e, e2, ?_⟩
 refine ⟨.non, _, I.lset (its' := its ++ its2) hH e (by simp) (r.append r2) ?_, rfl, q⟩
 rw [List.length_append]
 omega
def rCat : R2 := fun x y H Q => ∃ l b xs zs, x = .ref l ∧ y = .ref b ∧ H l = some (.lst xs) ∧ H b = some (.lst zs) ∧ xs.length + zs.length ≤ sizeLine ∧ ∀ p, H p = none → Q (.ref p) (upd H p (.lst (xs ++ zs)))
theorem op_cat : OpR X (binaryOp .Add) rCat := by
 intro pins s σ H x y v u Q I rx ry h
 obtain ⟨l, b, xs, zs, rfl, rfl, hH, hB, hz, q⟩ := h
 cases rx
 cases ry
 obtain ⟨z, its, n, r, hl, e⟩ := I.lstM hH
 obtain ⟨z2, its2, n2, r2, hl2, e2⟩ := I.lstM hB
 refine PySem.P.add_list e e2 ?_ (by rw [List.size_toArray, List.size_toArray]; omega)
 have ea : its.toArray ++ its2.toArray = (its ++ its2).toArray := by simp
 rw [ea]
 exact ⟨.ref _, _, I.lnew (t' := s.toks) (r.append r2) (by rw [List.length_append]; omega), rfl, q _ I.fresh⟩
end
end L2
namespace L2
open PySem PySem.Spec PyProof.Rows
section
variable {κ : Type} [DecidableEq κ]
def valV (kvs : List (κ × V)) (k : κ) : Option V := (kvs.find? fun kv => decide (kv.1 = k)).map (·.2)
def putK (kvs : List (κ × V)) (k : κ) (v : V) : List (κ × V) :=
 if (kvs.any fun kv => decide (kv.1 = k)) = true then kvs.map (fun kv => if kv.1 = k then (kv.1, v) else kv) else kvs ++ [(k, v)]
theorem valV_pos {p : κ × V} {r : List (κ × V)} {k : κ} (e : p.1 = k) : valV (p :: r) k = some p.2 := by simp [valV, List.find?_cons, e]
theorem valV_neg {p : κ × V} {r : List (κ × V)} {k : κ} (e : ¬ p.1 = k) : valV (p :: r) k = valV r k := by simp [valV, List.find?_cons, e]
theorem valV_any (k : κ) : ∀ kvs : List (κ × V), (kvs.any fun kv => decide (kv.1 = k)) = (valV kvs k).isSome
 | [] => rfl
 | p :: r => by
   rw [List.any_cons]
   by_cases e : p.1 = k
   · simp only [valV_pos e, decide_eq_true e, Bool.true_or, Option.isSome_some]
   · rw [valV_neg e, decide_eq_false e, Bool.false_or]; exact valV_any k r
theorem length_putK (kvs : List (κ × V)) (k : κ) (v : V) : (putK kvs k v).length ≤ kvs.length + 1 := by
 unfold putK
 split
 · rw [List.length_map]; omega
 · rw [List.length_append, List.length_cons, List.length_nil]; omega
theorem RelO.isSome_eq {o : Option V} {u : Option Value} (r : RelO o u) : o.isSome = u.isSome := by
 cases o with
 | none => cases u with
   | none => rfl
   | some _ => exact (show False from r).elim
 | some _ => cases u with
   | none => exact (show False from r).elim
   | some _ => rfl
theorem KV.any {kvs : List (κ × V)} {vs : List (κ × Value)} (r : KV kvs vs) (k : κ) : (kvs.any fun kv => decide (kv.1 = k)) = vs.any fun kv => decide (kv.1 = k) := by
 unfold KV at r
 induction r with
 | nil => rfl
 | cons h t ih => rw [List.any_cons, List.any_cons, ih, h.1]
theorem KV.repl {kvs : List (κ × V)} {vs : List (κ × Value)} (r : KV kvs vs) (k : κ) {y : V} {u : Value} (ry : RelV y u) :
   KV (kvs.map fun kv => if kv.1 = k then (kv.1, y) else kv) (vs.map fun kv => if kv.1 = k then (kv.1, u) else kv) := by
 unfold KV at r ⊢
 induction r with
 | nil => exact .nil
 | @cons p q ps qs h t ih =>
   rw [List.map_cons, List.map_cons]
   refine .cons ?_ ih
   obtain ⟨h1, h2⟩ := h
   by_cases e : p.1 = k
   · rw [if_pos e, if_pos (h1.symm.trans e)]; exact ⟨h1, ry⟩
   · rw [if_neg e, if_neg (fun z => e (h1.trans z))]; exact ⟨h1, h2⟩
theorem KV.put {kvs : List (κ × V)} {vs : List (κ × Value)} (r : KV kvs vs) (k : κ) {y : V} {u : Value} (ry : RelV y u) : KV (putK kvs k y) (stored vs k u) := by
 unfold putK stored
 rw [r.any k]
 by_cases e : (vs.any fun kv => decide (kv.1 = k)) = true
 · rw [if_pos e, if_pos e]; exact r.repl k ry
 · rw [if_neg e, if_neg e]; exact Paired.snoc r ⟨rfl, ry⟩
theorem KV.length {kvs : List (κ × V)} {vs : List (κ × Value)} (r : KV kvs vs) : kvs.length = vs.length := Paired.length r
end
theorem kV_is {P : Program} {w : World} {k : Key} {u : Value} (r : RelV (kV k) u) : (yw P w).is k u = true := by
 cases k with
 | inl i => obtain ⟨t, e⟩ := (show ∃ t, u = Value.int i t from r); subst e; exact mixKind_int P w i t
 | inr x => obtain ⟨t, e⟩ := (show ∃ t, u = Value.str x t from r); subst e; exact mixKind_str P w x t
theorem items_are {P : Program} {w : World} : ∀ {ks : List Key} {us : List Value}, Vals (ks.map kV) us → ItemsAre (yw P w) ks us
 | [], _, r => by rw [List.map_nil] at r; cases r; exact .nil
 | k :: ks, _, r => by
   rw [List.map_cons] at r
   cases r with
   | cons h t => exact .cons (kV_is h) (items_are t)
abbrev KT (H : Hp) : List (List Key × V) → List (List Key × Addr × Value) → Prop := Paired fun p q => p.1 = q.1 ∧ H q.2.1 = some (.tup (p.1.map kV)) ∧ RelV p.2 q.2.2
theorem KT.val {H : Hp} {kvs : List (List Key × V)} {xs : List (List Key × Addr × Value)} (r : KT H kvs xs) (k : List Key) : RelO (valV kvs k) ((atKey xs k).map (·.2)) := by
 induction r with
 | nil => exact True.intro
 | @cons p q ps qs h t ih =>
   obtain ⟨h1, _, h2⟩ := h
   by_cases e : p.1 = k
   · have e' : q.1 = k := h1.symm.trans e
     have b : atKey (q :: qs) k = some q.2 := by simp [atKey, List.find?_cons, e']
     rw [valV_pos e, b]; exact h2
   · have e' : ¬ q.1 = k := fun z => e (h1.trans z)
     have b : atKey (q :: qs) k = atKey qs k := by simp [atKey, List.find?_cons, e']
     rw [valV_neg e, b]; exact ih
theorem KT.repl {H : Hp} {kvs : List (List Key × V)} {xs : List (List Key × Addr × Value)} (r : KT H kvs xs) (k : List Key) {y : V} {u : Value} (ry : RelV y u) :
   KT H (kvs.map fun kv => if kv.1 = k then (kv.1, y) else kv) (xs.map (putAt k u)) := by
 induction r with
 | nil => exact .nil
 | @cons p q ps qs h t ih =>
   rw [List.map_cons, List.map_cons]
   refine .cons ?_ ih
   obtain ⟨h1, h2, h3⟩ := h
   unfold putAt
   by_cases e : p.1 = k
   · rw [if_pos e, if_pos (h1.symm.trans e)]; exact ⟨h1, h2, ry⟩
   · rw [if_neg e, if_neg (fun z => e (h1.trans z))]; exact ⟨h1, h2, h3⟩
theorem KT.put {H : Hp} {kvs : List (List Key × V)} {xs : List (List Key × Addr × Value)} (r : KT H kvs xs) (k : List Key) {b : Addr} {y : V} {u : Value} (hb : H b = some (.tup (k.map kV))) (ry : RelV y u) :
   KT H (putK kvs k y) (storedH xs k b u) := by
 have e : (kvs.any fun kv => decide (kv.1 = k)) = (atKey xs k).isSome := by
   rw [valV_any, (r.val k).isSome_eq, Option.isSome_map]
 unfold putK storedH
 rw [e]
 by_cases q : (atKey xs k).isSome = true
 · rw [if_pos q, if_pos q]; exact r.repl k ry
 · rw [if_neg q, if_neg q]; exact Paired.snoc r ⟨rfl, hb, ry⟩
theorem KT.keeps {H H' : Hp} {kvs : List (List Key × V)} {xs : List (List Key × Addr × Value)} (r : KT H kvs xs) (ht : ∀ b ys, H b = some (.tup ys) → H' b = some (.tup ys)) : KT H' kvs xs :=
 Paired.mapP r fun _ _ z => ⟨z.1, ht _ _ z.2.1, z.2.2⟩
section
variable {P : Program} {w : World} {H : Hp} {h : Heap} {a : Addr}
theorem rd_of {u : HO} (ok : HOk P w H h) (e : Rd H a u) : ObjOk P w H h a u := e.ok ok
theorem dk_rd {kvs : List (Key × V)} (ok : HOk P w H h) (e : Rd H a (.dK kvs)) : kvs.length ≤ sizeLine ∧ (a == sysModules) = false ∧ ∃ vs, KV kvs vs ∧ h.DictOf (yw P w) a vs :=
 show ObjOk P w H h a (.dK kvs) from rd_of ok e
theorem dk_of {kvs : List (Key × V)} (ok : HOk P w H h) (e : H a = some (.dK kvs)) : kvs.length ≤ sizeLine ∧ (a == sysModules) = false ∧ ∃ vs, KV kvs vs ∧ h.DictOf (yw P w) a vs := dk_rd ok (.inl e)
theorem key_of {ks : List Key} (ok : HOk P w H h) (e : H a = some (.tup (ks.map kV))) : (tupleKind (yw P w)).is h ks a := by
 obtain ⟨_, its, r, o, h1, h2, n, h3⟩ := (show ObjOk P w H h a (.tup (ks.map kV)) from ok a _ e)
 exact ⟨o, its.toArray, n, h1, h2, h3, by simpa using items_are r⟩
theorem dt_rd {kvs : List (List Key × V)} (ok : HOk P w H h) (e : Rd H a (.dT kvs)) : kvs.length ≤ sizeLine ∧ (a == sysModules) = false ∧
   ∃ xs, KT H kvs xs ∧ h.DictOfH (tupleKind (yw P w)) a xs := by
 obtain ⟨z, y, xs, r, o, es, ep, h1, h2, h3, h4, h5⟩ := (show ObjOk P w H h a (.dT kvs) from rd_of ok e)
 refine ⟨z, y, xs, r, o, es, ep, h1, h2, h3, h4, fun x hx => ?_, h5⟩
 have all : ∀ {l : List (List Key × V)} {m : List (List Key × Addr × Value)}, KT H l m → ∀ x ∈ m, (tupleKind (yw P w)).is h x.1 x.2.1 := by
   intro l m q
   induction q with
   | nil => intro x hx; exact nomatch hx
   | @cons p q ps qs hq t ih =>
     intro x hx
     rcases List.mem_cons.mp hx with e | hx
     · subst e
       exact key_of ok (by rw [← hq.1]; exact hq.2.1)
     · exact ih x hx
 exact all r x hx
theorem dt_of {kvs : List (List Key × V)} (ok : HOk P w H h) (e : H a = some (.dT kvs)) : kvs.length ≤ sizeLine ∧ (a == sysModules) = false ∧
   ∃ xs, KT H kvs xs ∧ h.DictOfH (tupleKind (yw P w)) a xs := dt_rd ok (.inl e)
end
def DPut (H : Hp) (a : Addr) (y v : V) (H' : Hp) : Prop :=
 (∃ kvs k, H a = some (.dK kvs) ∧ y = kV k ∧ kvs.length < sizeLine ∧ H' = upd H a (.dK (putK kvs k v))) ∨
 ∃ kvs k b, H a = some (.dT kvs) ∧ y = .ref b ∧ H b = some (.tup (k.map kV)) ∧ kvs.length < sizeLine ∧ H' = upd H a (.dT (putK kvs k v))
theorem DPut.k {H : Hp} {a : Addr} {kvs : List (Key × V)} {k : Key} {v : V} (e : H a = some (.dK kvs)) (hl : kvs.length < sizeLine) : DPut H a (kV k) v (upd H a (.dK (putK kvs k v))) := .inl ⟨kvs, k, e, rfl, hl, rfl⟩
section
variable {X : Cx} {pins : List (Addr × Obj)} {σ : St} {H : Hp} {s : Shared} {a : Addr} {y v : V} {u r : Value} {o : Option V} {A : Around} {E : Value → Shared → Prop}
theorem Inv.big (I : Inv X pins σ H s) : sysModules < s.heap.objs.size := by
 have h : mainGlobals < s.heap.objs.size := (I.mod.glob.keeps I.bk).lt
 exact Nat.lt_trans (by decide) h
theorem d_write {h' : Heap} {t' : Nat} {ob : HO} (I : Inv X pins σ H s) (mu : Mut (H a)) (hs : Heap.SameBut a s.heap h') (he : ∃ q, h'.get? a = some q) (new : ObjOk X.prog X.w (upd H a ob) h' a ob) :
   Inv X pins σ (upd H a ob) { s with heap := h', toks := t' } :=
 I.write (x := a) (e := a) mu (.inl rfl) (fun b q hb z => (hs.2 b hb).trans z) he new
theorem dk_new {P : Program} {w : World} {H' : Hp} {h' : Heap} {kvs : List (Key × V)} {vs : List (Key × Value)} (z : kvs.length ≤ sizeLine) (hd : (a == sysModules) = false) (rel : KV kvs vs) (dd : h'.DictOf (yw P w) a vs) :
   ObjOk P w H' h' a (.dK kvs) := ⟨z, hd, vs, rel, dd⟩
theorem d_setItem {H' : Hp} {Q : Unit → Shared → Prop} (hu : A.units + 1 < cLine) (I : Inv X pins σ H s) (g : DPut H a y v H') (ry : RelV y u) (rv : RelV v r) (h : ∀ s', Inv X pins σ H' s' → Q () s') :
   wpAny (model X.prog X.w) A (setItem (.ref a) u r) Q E s := by
 rcases g with ⟨kvs, k, e, ey, l, eH⟩ | ⟨kvs, k, b, e, ey, eb, l, eH⟩
 · subst ey eH
   obtain ⟨z, hd, vs, rel, dd⟩ := dk_of I.hok e
   have hz : vs.length ≤ sizeLine := by rw [← rel.length]; exact z
   have hl : (putK kvs k v).length ≤ sizeLine := by have := length_putK kvs k v; omega
   refine wpAny_setItem_pairs (hsz := hz) (kV_is ry) dd fun h' dd' hs => h _ ?_
   have he : ∃ q, h'.get? a = some q := let ⟨q, _, _, hq, _⟩ := dd'; ⟨q, hq⟩
   exact d_write I (by rw [e]; exact True.intro) hs he (dk_new hl hd (rel.put k rv) dd')
 · subst ey eH
   cases (show u = Value.ref b from ry)
   obtain ⟨z, hd, xs, rel, dd⟩ := dt_of I.hok e
   have hz : xs.length ≤ sizeLine := by rw [← Paired.length rel]; exact z
   have hl : (putK kvs k v).length ≤ sizeLine := by have := length_putK kvs k v; omega
   refine wpAny_setItem_heap (hsz := hz) (tupleKind_room_in1 hu) (key_of I.hok eb) dd fun h' dd' hs => h _ ?_
   obtain ⟨q, es, ep, hq, h2, h3, h4, _, h5⟩ := dd'
   refine d_write I (by rw [e]; exact True.intro) hs ⟨q, hq⟩ ⟨hl, hd, _, (rel.put k eb rv).keeps fun c ys ec => ?_, q, es, ep, hq, h2, h3, h4, h5⟩
   rw [qv (ne_of ec e (fun z => nomatch z))]
   exact ec
end
def sDPut (td ty tv : TE) : TS := fun D σ H => tv σ H fun v H1 => td σ H1 fun x H2 => ty σ H2 fun y H3 => ∃ a H4, x = .ref a ∧ DPut H3 a y v H4 ∧ D.nx σ H4
section
variable {X : Cx} {o i e value : Expr} {pos pos' tpos : Pos} {td ty tv : TE}
theorem ps_dput (hu : X.A.units + 1 < cLine) (ho : PE X o td) (hi : PE X i ty) (hv : PE X value tv) (hs : swapsWith value (some (.Subscript o i pos')) pos.line X.env = pure false) :
   PS X (.Assign [.Subscript o i pos'] value pos) (sDPut td ty tv) := by
 intro pins s σ H D I h
 refine wpAny_Assign_Subscript (thn (hv pins s σ H _ I h) fun r s1 ⟨v, H1, I1, rv, q1⟩ => thn (ho pins s1 σ H1 _ I1 q1) fun u s2 ⟨x, H2, I2, rx, q2⟩ => thn (hi pins s2 σ H2 _ I2 q2) fun iv s3 ⟨y, H3, I3, ry, a, H4, ex, g, q3⟩ => ?_) hs
 subst ex
 obtain rfl : u = Value.ref a := rx
 exact d_setItem hu I3 g ry rv fun s4 I4 => ⟨σ, H4, I4, q3⟩
end
theorem dk_empty {P : Program} {w : World} {H : Hp} (h : Heap) (hb : sysModules < h.objs.size) : ObjOk P w H (h.push { cls := .type "dict", data := .dict #[] }) h.objs.size (.dK []) :=
 ⟨Nat.zero_le _, beq_eq_false_iff_ne.mpr (Ne.symm (Nat.ne_of_lt hb)), [], .nil, Heap.DictOf.new h⟩
def tDNewK : TE := fun _ H Q => ∀ p, H p = none → Q (.ref p) (upd H p (.dK []))
section
variable {X : Cx} {pos : Pos}
theorem pe_dnewK : PE X (.Dict [] [] pos) tDNewK := fun pins s σ H Q I h =>
 wpAny_Dict_empty ⟨.ref s.heap.objs.size, _, I.laid (a := s.heap.objs.size) (o := .dK []) (t' := s.toks) (fun _ _ q => Heap.get?_push_of_some _ q) (Nat.le_refl _) (dk_empty s.heap I.big), rfl, h _ (I.hok.fresh (Nat.le_refl _))⟩
end
end L2
namespace Att
open PySem PySem.W PySem.Calls PyProof.Rows
theorem ints_of_wellAll {P : Params} {h : Heap} : ∀ (ns : List Int) (vs : List Value), WellAll P h vs (ns.map WData.int) → IntsAre vs ns := by
 intro ns
 induction ns with
 | nil =>
   intro vs w
   rw [List.map_nil] at w
   cases w
   exact .nil
 | cons n ns ih =>
   intro vs w
   rw [List.map_cons] at w
   cases w with
   | cons a b =>
     cases a
     exact .cons _ _ (ih _ b)
theorem script_of {l : OpenLaw} {n : Nat} (hn : l.most = some n) {P : Params} {h : Heap} {args : List WData} {vals : List Value}
   (hpre : l.row.toRowW.claim.pre args = true) (hwl : WellAll P h vals args) :
   ∃ a vs ns, vals = [Value.ref a] ∧ args = [WData.list (ns.map WData.int)] ∧ h.get? a = some { cls := .type "list", data := .seq vs.toArray } ∧ IntsAre vs ns ∧ ns.length ≤ n := by
 have hsh : WShape.hasAll [] args [.list .int] = true := (pre_splitW hpre).1
 have hc : l.pre.holds [] { args := args } = true := (pre_splitW hpre).2
 obtain ⟨d, r, rfl, h1, h2⟩ := hasAllW_cons hsh
 obtain rfl := hasAllW_nil h2
 obtain ⟨xs, rfl, h3⟩ := hasW_list h1
 obtain ⟨ns, rfl⟩ := items_int h3
 have hlen : ns.length ≤ n := by
   unfold OpenLaw.pre at hc
   have h4 : (WTm.not (.lt (.lit (.int (n : Int))) (.len (.arg 0)))).holds [] { args := [.list (ns.map .int)] } = true := by
     have h4 := (holds_andW hc).1
     rw [hn] at h4
     exact h4
   have h5 := condW_of h4 (w_not (w_lt w_lit (w_len_list (w_arg rfl))))
   rw [List.length_map] at h5
   refine Nat.le_of_not_lt fun q => ?_
   have q' : (n : Int) < ((ns.length : Nat) : Int) := by omega
   first
     | (rw [decide_eq_true q'] at h5; exact absurd h5 (by decide))
     | (simp at h5; omega)
 cases hwl with
 | cons w1 w2 =>
   cases w2
   cases w1 with
   | list ho hall => exact ⟨_, _, ns, rfl, rfl, ho, ints_of_wellAll ns _ hall, hlen⟩
theorem post_true (l : OpenLaw) (args : List WData) : l.row.toRowW.claim.post args (.bool true) args = true :=
 postW_of (r := l.row.toRowW) (X := (true == true))
   (show WShape.has [] (.bool true) .bool = true by first | rfl | decide | simp [WShape.has, WShape.arms, WShape.armsAll])
   (show (WTm.eq .res (.lit (.bool true))).value [] { args := args, res := some (.bool true), after := args } = some (.bool (true == true)) from w_eq_bool (w_res rfl) w_lit) rfl
theorem attach_call {l : OpenLaw} {n : Nat} {q : Program} {loose : List Str} {XP : (Str → Option Value) → Heap → Prop} {YP : World → Heap → Prop} {d : DefRec}
   (hn : l.most = some n) (hdf : d.params.defaults = [])
   (call : ∀ (w : World) (s₀ s₁ : Shared) (mg mb : Str → Option Value) (fa : Addr) (o : Obj) (pm cd doc : Value) (a : Addr) (vs : List Value) (ns : List Int),
     Ground q loose [] XP w s₀ mg mb s₁.heap → YP w s₁.heap →
     s₁.heap.get? fa = some o → o.data = .func (docDef d.name d.params d.body d.scope pm cd doc) → s₁.heap.CodeRec cd d.name → mg d.name = some (.ref fa) →
     s₁.heap.get? a = some { cls := .type "list", data := .seq vs.toArray } → IntsAre vs ns → ns.length ≤ n → s₁.gens = #[] →
     codeAny (model l.prog w) callerA (.call (.ref fa) ⟨[.ref a], []⟩) (fun r s' => r = .ok (.ret (.bool true)) ∧ OldK s₁.heap s'.heap ∧ s'.os = s₁.os ∧ AllBare s'.gens) s₁) :
   WalkO q loose XP YP l.row.toRowW d [] (fun f vs => PySem.call f vs) := by
 intro w s₀ s₁ mg mb G Y fa o pm cd doc dV kV ho hd hcd hD hmg hg args vals as hpre hlay hrd hwl hlo
 obtain rfl : dV = .none := Dflts.none hD hdf
 obtain rfl : kV = .none := Dflts.noKw hD
 obtain ⟨a, vs, ns, rfl, rfl, hobj, hints, hlen⟩ := script_of hn hpre hwl
 refine enter_call (codeAny_mono (call w s₀ s₁ mg mb fa o pm cd doc a vs ns G Y ho (fd_plain hd) hcd hmg hobj hints hlen hg) fun r s' hq => ?_)
 obtain ⟨rfl, h2, h3, h4⟩ := hq
 exact ⟨.inl ⟨.bool true, .bool true, [], rfl, fun _ => rfl, .bool true, post_true l _, fun _ => ⟨List.Pairwise.nil, fun _ hm => (nomatch hm)⟩⟩, h2, h3, h4⟩
end Att
namespace L2
open PySem PySem.Spec PyProof.Rows
theorem vals_ints : ∀ {vs : List Value} {ns : List Int}, IntsAre vs ns → Vals (ns.map V.int) vs
 | _, _, .nil => .nil
 | _, _, .cons n t h => .cons ⟨t, rfl⟩ (vals_ints h)
def Only (H : Hp) : Prop := ∀ b, H b = none ∨ ∃ o xs, H b = some (.frz o (.lst xs))
theorem law_call {P : Program} {w : World} {K : W.Frag} {mg mb : Str → Option Value} {CX : CXT} {k : Nat} {fa a : Addr} {fd : FuncData} {x : Str} {sp : Sp} {s₁ : Shared} {vs : List Value} {ns : List Int}
   (KX : K.In s₁.heap) (hns : s₁.heap.Ns mainGlobals mg) (hb : s₁.heap.Ns builtinsNs mb) (hbb : ∀ x : Str, x ≠ "__name__" → mb x = bootBuiltins x) (hlim : s₁.heap.NoLimit) (hg : s₁.gens = #[])
   (ha : s₁.heap.get? a = some { cls := .type "list", data := .seq vs.toArray }) (hi : IntsAre vs ns) (hl : ns.length ≤ sizeLine) (hr : Room k callerA)
   (F : ∀ base : Heap, K.In base → base.Ns mainGlobals mg → FnOk P w K mg base CX k fa fd [x] sp) (hbind : ∀ (s : Shared) (u : Value), BindsTo s fd ⟨[u], []⟩ [(x, u)])
   (hsp : ∀ H : Hp, Only H → SqL K H a (ns.map V.int) → sp [.ref a] H (fun v _ => v = .bl true) fun _ _ _ => False)
   (hCX : ∀ H e s', CX [] H s₁ (fun _ _ _ => False) e s' → False) :
   codeAny (model P w) callerA (.call (.ref fa) ⟨[.ref a], []⟩) (fun r s' => r = .ok (.ret (.bool true)) ∧ OldK s₁.heap s'.heap ∧ s'.os = s₁.os ∧ AllBare s'.gens) s₁ := by
 have rv := vals_ints hi
 have lenV := hi.length
 have core : ∀ H : Hp, Only H → SqL K H a (ns.map V.int) → HOk P w H s₁.heap → (∀ b, H b ≠ none → b = a) → (H a ≠ none → K.lookup a = none) →
     codeAny (model P w) callerA (.call (.ref fa) ⟨[.ref a], []⟩) (fun r s' => r = .ok (.ret (.bool true)) ∧ OldK s₁.heap s'.heap ∧ s'.os = s₁.os ∧ AllBare s'.gens) s₁ := by
   intro H hO hS hok hA hK
   have base_of : ∀ {b : Addr} {o : Obj}, s₁.heap.get? b = some o → H b = none → (hidT s₁.heap H).get? b = some o := fun e n => hidT_get e n
   have noA : ∀ {b : Addr} {o : Obj} {es : Array DictEntry} {ep : Nat}, s₁.heap.get? b = some o → o.data = .dict es ep → H b = none := fun {b o es ep} e d => by
     cases q : H b with
     | none => rfl
     | some u =>
       have e' : b = a := hA b (by rw [q]; simp)
       subst e'
       rw [ha] at e; cases e
       have d' : Data.seq vs.toArray _ = Data.dict es ep := d
       cases d'
   have nsK : ∀ {b : Addr} {m : Str → Option Value}, s₁.heap.Ns b m → (hidT s₁.heap H).Ns b m := fun {b m} ⟨o, es, ep, e, d, r⟩ => ⟨o, es, ep, base_of e (noA e d), d, r⟩
   have hKb : K.In (hidT s₁.heap H) := fun b o e => base_of (KX b o e) (by
     cases q : H b with
     | none => rfl
     | some u =>
       have e' : b = a := hA b (by rw [q]; simp)
       subst e'
       rw [hK (by rw [q]; simp)] at e; cases e)
   have hM : Mod K mg (hidT s₁.heap H) := ⟨hKb, nsK hns, ⟨mb, nsK hb, hbb⟩, let ⟨mc, h1, h2⟩ := hlim; ⟨mc, nsK h1, h2⟩⟩
   have e0 : Env0 P w K mg (hidT s₁.heap H) callerA [] s₁ H := ⟨rfl, hM, fun b o e => of_hidT e, Nat.le_of_eq (hidT_size _ _), trivial, fun b hb => absurd (show b ∈ ([] : List Addr) from hb) (by simp), hok, .of_eq hg⟩
   refine codeAny_mono ((F _ hKb (nsK hns)).run callerA [] s₁ H ⟨[.ref a], []⟩ [.ref a] [.ref a] _ _ hr e0 (hbind s₁ (.ref a)) (.cons rfl .nil) (hsp H hO hS)) fun r s' h => ?_
   cases r with
   | error e => exact (hCX H e s' h).elim
   | ok fl =>
     cases fl with
     | next => exact False.elim h
     | brk => exact False.elim h
     | cont => exact False.elim h
     | ret u =>
       obtain ⟨v, H', os, bare, un, hok', r', q⟩ := h
       have q' : v = .bl true := q
       subst q'
       obtain rfl : u = Value.bool true := r'
       refine ⟨rfl, OldK.of_keep fun b o e => ?_, os, bare⟩
       cases q : H b with
       | none => exact un.keep b o e q (by intro z; exact absurd (show b ∈ ([] : List Addr) from z) (by simp)) (by simp)
       | some u =>
         rcases hO b with z | ⟨ob, xs, z⟩
         · rw [q] at z; cases z
         · have z2 := un.frzs b ob _ z
           obtain ⟨e1, _⟩ := hok b _ z
           obtain ⟨e2, _⟩ := hok' b _ z2
           rw [e] at e1; cases e1
           exact e2
 cases hk : K.lookup a with
 | some o =>
   have e := KX a o hk
   rw [ha] at e
   cases e
   refine core (fun _ => none) (fun _ => .inl rfl) (.inr ⟨_, vs.toArray, _, hk, rfl, rfl, rfl, by rw [List.size_toArray, lenV]; exact hl, by simpa using rv⟩) (fun b u z => by have z' : (none : Option HO) = some u := z; cases z') (fun b z => absurd rfl z) fun z => absurd rfl z
 | none =>
   refine core (fun b => if b = a then some (.frz { cls := .type "list", data := .seq vs.toArray } (.lst (ns.map V.int))) else none) (fun b => ?_) (.inl (.inr ⟨{ cls := .type "list", data := .seq vs.toArray }, if_pos rfl⟩)) (fun b u z => ?_) (fun b z => ?_) fun _ => hk
   · by_cases hb : b = a
     · exact .inr ⟨_, _, if_pos hb⟩
     · exact .inl (if_neg hb)
   · by_cases hb : b = a
     · have z' := (if_pos hb).symm.trans z
       cases z'
       subst hb
       exact ⟨ha, by rw [List.length_map]; exact hl, vs, _, rv, ha⟩
     · have z' := (if_neg hb).symm.trans z
       cases z'
   · by_cases hb : b = a
     · exact hb
     · exact absurd (if_neg hb) z
end L2
namespace L2
open PySem PySem.Spec PyProof.Rows
theorem walk_of {l : W.OpenLaw} {n k : Nat} {q : Program} {loose : List Str} {XP : (Str → Option Value) → Heap → Prop} {YP : World → Heap → Prop} {d : DefRec} {K : Params → W.Frag} {CX : World → CXT} {sp : World → Sp} {x : Str}
   (hn : l.most = some n) (hn2 : n ≤ sizeLine) (hdf : d.params.defaults = []) (hr : Room k callerA)
   (hY : ∀ (w : World) (h : Heap), YP w h → (K w.params).In h)
   (F : ∀ (w : World) (mg : Str → Option Value) (fa : Addr) (h : Heap), (K w.params).In h → h.Ns mainGlobals mg → mg d.name = some (.ref fa) →
     ∃ fd : FuncData, (∀ (s : Shared) (u : Value), BindsTo s fd ⟨[u], []⟩ [(x, u)]) ∧
       ∀ base : Heap, (K w.params).In base → base.Ns mainGlobals mg → FnOk l.prog w (K w.params) mg base (CX w) k fa fd [x] (sp w))
   (hsp : ∀ (w : World) (H : Hp) (a : Addr) (ns : List Int), ns.length ≤ n → Only H → SqL (K w.params) H a (ns.map V.int) → sp w [.ref a] H (fun v _ => v = .bl true) fun _ _ _ => False)
   (hCX : ∀ (w : World) (H : Hp) (s : Shared) (e : Value) (s' : Shared), CX w [] H s (fun _ _ _ => False) e s' → False) :
   W.WalkO q loose XP YP l.row.toRowW d [] (fun f vs => PySem.call f vs) := by
 refine Att.attach_call hn hdf fun w s₀ s₁ mg mb fa o pm cd doc a vs ns G Y ho hd hcd hmg hobj hints hlen hg => ?_
 have KX := hY w _ Y
 obtain ⟨fd, hb, hF⟩ := F w mg fa _ KX G.T.g hmg
 exact law_call KX G.T.g G.T.b G.T.builtins G.T.nolimit hg hobj hints (Nat.le_trans hlen hn2) hr hF hb (fun H hO hS => hsp w H a ns hlen hO hS) fun H e s' => hCX w H s₁ e s'
end L2
namespace L2
open PySem PySem.Spec PyProof.Rows
def inClass (s : Stmt) (j : Nat) : Stmt := match s with
 | .ClassDef _ _ _ body _ _ _ _ _ _ _ => body.getD j (.Pass ⟨0, 0, 0, 0⟩)
 | _ => .Pass ⟨0, 0, 0, 0⟩
def yQ (s : Stmt) : Arguments := match s with
 | .FunctionDef _ a _ _ _ _ _ _ _ _ => a
 | _ => { posonlyargs := [], args := [], vararg := none, kwonlyargs := [], kw_defaults := [], kwarg := none, defaults := [] }
def qw (s : Stmt) : List Stmt := match s with
 | .FunctionDef _ _ b _ _ _ _ _ _ _ => b
 | _ => []
def qQ (s : Stmt) : Scope := match s with
 | .FunctionDef _ _ _ _ _ _ sc _ _ _ => sc
 | _ => { kind := .function, names := [], isGenerator := false, isCoroutine := false }
abbrev CX0 : CXT := fun _ _ _ _ _ _ => False
abbrev E0 : XK := fun _ _ _ => False
theorem pass0 {X : Cx} : Passes CX0 X E0 := fun _ _ _ _ _ _ _ h => h.elim
structure Fun (K : W.Frag) (x qual : Str) (st : Stmt) (f : Addr) (fd : FuncData) : Prop where
 ex : ∃ (oc : Value) (od : Option Addr) (kV doc pm : Value) (an : Option Addr) (cdv ct : Value) (osl : Array (Option Value)),
   fd = W.fnOf x qual (yQ st) (qw st) (qQ st) .none kV doc pm an cdv ct ∧ K.lookup f = some ⟨oc, od, .func fd, osl⟩ ∧ W.codeIn K cdv qual = true
 kp : W.keepIn K (.ref f) = true
section
variable {P : Program} {w : World} {K : W.Frag} {mg : Str → Option Value} {base : Heap}
theorem Fun.ok {x qual : Str} {st : Stmt} {f : Addr} {fd : FuncData} {N ps : List Str} {k : Nat} {sp : Sp} (F : Fun K x qual st f fd) (S : FnScope N ps (qQ st)) (len : ∀ vs H Q E, sp vs H Q E → vs.length = ps.length)
   (hbody : ∀ (cdv : Value) (A : Around) (outer : List Env) (s : Shared) (H : Hp) (vs : List V) (Q : VK) (E : XK), Room k (A.deeper (envOfC qual (qQ st) s.heap.objs.size f cdv)) → sp vs H Q E →
     ∃ t, PSs (cxOf CX0 P w K mg base N qual (qQ st) f cdv A outer s H E).nox (qw st) t ∧ t { nx := fun _ H' => Q .non H', rt := Q } (start N vs) H) : FnOk P w K mg base CX0 (k + 1) f fd ps sp := by
 obtain ⟨oc, od, kV, doc, pm, an, cdv, ct, osl, rfl, lk, hcd⟩ := F.ex
 refine fn_of lk hcd S len fun A outer s H vs Q E hr hsp => ?_
 obtain ⟨t, h, q⟩ := hbody cdv A outer s H vs Q E hr hsp
 exact ⟨t, h.nox, q⟩
theorem Fun.binds {x qual : Str} {st : Stmt} {f : Addr} {fd : FuncData} {ps : List Str} (F : Fun K x qual st f fd)
   (h : ∀ (kV doc pm : Value) (an : Option Addr) (cdv ct : Value) (us : List Value), us.length = ps.length → bindArgs (W.fnOf x qual (yQ st) (qw st) (qQ st) .none kV doc pm an cdv ct) ⟨us, []⟩ = pure (ps.zip us)) : Binds K fd ps [] := by
 obtain ⟨oc, od, kV, doc, pm, an, cdv, ct, osl, rfl, lk, hcd⟩ := F.ex
 exact .all (h kV doc pm an cdv ct)
theorem yU {x qual : Str} {st : Stmt} {f : Addr} {oc : Value} {od an : Option Addr} {osl : Array (Option Value)} {kV doc pm cdv ct : Value} (l : K.lookup f = some ⟨oc, od, .func (W.fnOf x qual (yQ st) (qw st) (qQ st) .none kV doc pm an cdv ct), osl⟩)
   (c : W.codeIn K cdv qual = true) (k : W.keepIn K (.ref f) = true) : Fun K x qual st f (W.fnOf x qual (yQ st) (qw st) (qQ st) .none kV doc pm an cdv ct) := ⟨⟨oc, od, kV, doc, pm, an, cdv, ct, osl, rfl, l, c⟩, k⟩
end
theorem hu_of {A : Around} {k : Nat} (hr : Room k A) : A.units + 1 < cLine := Nat.lt_of_le_of_lt (Nat.add_le_add_left (by decide : 1 ≤ 64) _) hr.units
section
variable {X : Cx}
theorem pv (i : Nat) {x : Str} {pos : Pos} (hN : X.N[i]? = some x := by rfl) (hv : Vis X.env.scope x := by first | exact Or.inl rfl | exact Or.inr (Or.inl rfl) | exact Or.inr (Or.inr rfl)) (hd : (x == ("__debug__" : Str)) = false := by decide)
   (hcd : (x == ("__classdict__" : Str)) = false := by decide) : PE X (.Name x pos) (tVar i) := pe_var hN hv hd hcd
end
theorem iteF {A B : Prop} (h : B) : if false = true then A else B := by
 rw [if_neg Bool.false_ne_true]
 exact h
theorem iteT {A B : Prop} (h : A) : if true = true then A else B := by
 rw [if_pos rfl]
 exact h
theorem ite2 {c A B : Prop} [Decidable c] (h1 : c → A) (h2 : ¬ c → B) : if c then A else B := by
 by_cases h : c
 · rw [if_pos h]
   exact h1 h
 · rw [if_neg h]
   exact h2 h
def Same (H H' : Hp) : Prop := ∀ b o, H b = some o → H' b = some o
theorem Same.refl (H : Hp) : Same H H := fun _ _ h => h
theorem Same.trans {H H1 H2 : Hp} (a : Same H H1) (b : Same H1 H2) : Same H H2 := fun c o h => b c o (a c o h)
theorem Same.free {H H' : Hp} (e : Same H H') {l : Addr} (h : H' l = Option.none) : H l = Option.none := by
 cases q : H l with
 | none => rfl
 | some o =>
   rw [e l o q] at h
   cases h
theorem Same.seq {K : W.Frag} {H H' : Hp} {a : Addr} {xs : List V} (e : Same H H') (h : SqL K H a xs) : SqL K H' a xs := by
 rcases h with (h | ⟨o, h⟩) | h
 · exact .inl (.inl (e _ _ h))
 · exact .inl (.inr ⟨o, e _ _ h⟩)
 · exact .inr h
end L2
set_option maxHeartbeats 4000000
namespace L2
open PySem PySem.Spec PyProof.Rows
def clOf (cells : List (Str × Addr)) : List (Str × NameKind) → List (Str × Addr) → List (Str × Addr)
 | [], acc => acc
 | (n, k) :: r, acc => if k == .free then clOf cells r ((n, (cells.lookup n).getD 0) :: acc) else clOf cells r acc
theorem closure_of {env : Env} {names : List (Str × NameKind)} (h : ∀ n, (n, NameKind.free) ∈ names → ∃ c, env.cells.lookup n = some c) :
   ∀ acc, (forIn names acc fun (x : Str × NameKind) (cs : List (Str × Addr)) => (match x with
     | (name, kind) => if (kind == NameKind.free) = true then do let c ← cellOf env name; pure (ForInStep.yield ((name, c) :: cs)) else pure (ForInStep.yield cs) : Sem (ForInStep (List (Str × Addr))))) = pure (clOf env.cells names acc) := by
 induction names with
 | nil => intro acc; rfl
 | cons x r ih =>
   intro acc
   obtain ⟨n, k⟩ := x
   have ih' := ih fun m hm => h m (List.mem_cons_of_mem _ hm)
   rw [List.forIn_cons]
   by_cases hk : k = .free
   · subst hk
     obtain ⟨c, hc⟩ := h n List.mem_cons_self
     have e : cellOf env n = pure c := by unfold cellOf; rw [hc]
     simp only [beq_self_eq_true, if_true, e, pure_bind]
     rw [ih']
     show _ = pure (clOf env.cells r ((n, (env.cells.lookup n).getD 0) :: acc))
     rw [hc]; rfl
   · have hb : (k == NameKind.free) = false := by simpa using hk
     simp only [hb, Bool.false_eq_true, if_false, pure_bind]
     rw [ih']
     show _ = pure (if (k == NameKind.free) = true then _ else clOf env.cells r acc)
     rw [hb]; rfl
theorem closureFor_of {scope : Scope} {env : Env} (h : ∀ n, (n, NameKind.free) ∈ scope.names → ∃ c, env.cells.lookup n = some c) : closureFor scope env = pure (clOf env.cells scope.names []) := by
 have e := closure_of h []
 unfold closureFor
 simp only [bind_pure_comp] at *
 first
   | exact e
   | (rw [show (forIn scope.names ([] : List (Str × Addr)) _) = _ from e]; rfl)
theorem cl_sub {cells : List (Str × Addr)} : ∀ {names : List (Str × NameKind)} {acc : List (Str × Addr)}, (∀ n, (n, NameKind.free) ∈ names → ∃ c, cells.lookup n = some c) → (∀ x c, acc.lookup x = some c → cells.lookup x = some c) →
   ∀ x c, (clOf cells names acc).lookup x = some c → cells.lookup x = some c
 | [], _, _, ha, x, c, e => ha x c e
 | (n, k) :: r, acc, h, ha, x, c, e => by
   by_cases hk : k = .free
   · subst hk
     obtain ⟨d, hd⟩ := h n List.mem_cons_self
     refine cl_sub (names := r) (acc := (n, (cells.lookup n).getD 0) :: acc) (fun m hm => h m (List.mem_cons_of_mem _ hm)) (fun y z q => ?_) x c e
     rw [List.lookup_cons] at q
     by_cases hy : y = n
     · subst hy
       simp only [beq_self_eq_true, hd, Option.getD_some] at q
       rw [hd]; exact q
     · have hb : (y == n) = false := beq_eq_false_iff_ne.mpr hy
       simp only [hb] at q
       exact ha y z q
   · have hb : (k == NameKind.free) = false := by simpa using hk
     have e' : (clOf cells r acc).lookup x = some c := by
       have : clOf cells ((n, k) :: r) acc = clOf cells r acc := by show (if (k == NameKind.free) = true then _ else _) = _; rw [hb]; rfl
       rw [← this]; exact e
     exact cl_sub (names := r) (fun m hm => h m (List.mem_cons_of_mem _ hm)) ha x c e'
theorem cl_has {cells : List (Str × Addr)} : ∀ {names : List (Str × NameKind)} {acc : List (Str × Addr)} {x : Str}, ((x, NameKind.free) ∈ names ∨ ∃ c, acc.lookup x = some c) → ∃ c, (clOf cells names acc).lookup x = some c
 | [], _, _, h => by
   rcases h with h | h
   · simp at h
   · exact h
 | (n, k) :: r, acc, x, h => by
   by_cases hk : k = .free
   · subst hk
     show ∃ c, (clOf cells r ((n, (cells.lookup n).getD 0) :: acc)).lookup x = some c
     refine cl_has (names := r) ?_
     by_cases hx : x = n
     · subst hx
       exact .inr ⟨_, by rw [List.lookup_cons]; simp only [beq_self_eq_true]; rfl⟩
     · have hb : (x == n) = false := beq_eq_false_iff_ne.mpr hx
       rcases h with h | ⟨c, h⟩
       · rcases List.mem_cons.mp h with q | q
         · exact absurd (Prod.mk.inj q).1 hx
         · exact .inl q
       · exact .inr ⟨c, by rw [List.lookup_cons]; simp only [hb]; exact h⟩
   · have hb : (k == NameKind.free) = false := by simpa using hk
     have : clOf cells ((n, k) :: r) acc = clOf cells r acc := by show (if (k == NameKind.free) = true then _ else _) = _; rw [hb]; rfl
     rw [this]
     refine cl_has (names := r) ?_
     rcases h with h | h
     · rcases List.mem_cons.mp h with q | q
       · exact absurd (Prod.mk.inj q).2.symm hk
       · exact .inl q
     · exact .inr h
def relK (env : Env) (x : Str) (k : NameKind) : NameKind := if (k == NameKind.free && env.scope.kind == .function && env.kindOf x == some .cell) = true then .cell else k
theorem relabel_lookup {env : Env} {x : Str} : ∀ {names : List (Str × NameKind)},
   (names.map fun (n, k) => if (k == NameKind.free && env.scope.kind == .function && env.kindOf n == some .cell) then (n, NameKind.cell) else (n, k)).lookup x = (names.lookup x).map (relK env x)
 | [] => rfl
 | (n, k) :: r => by
   have ih := @relabel_lookup env x r
   show List.lookup x ((if (k == NameKind.free && env.scope.kind == .function && env.kindOf n == some .cell) = true then (n, NameKind.cell) else (n, k)) :: _) = _
   by_cases hx : x = n
   · subst hx
     rw [List.lookup_cons]
     unfold relK
     by_cases hc : (k == NameKind.free && env.scope.kind == .function && env.kindOf x == some .cell) = true
     · rw [if_pos hc, List.lookup_cons]; simp only [beq_self_eq_true, Option.map_some]; rw [if_pos hc]
     · rw [if_neg hc, List.lookup_cons]; simp only [beq_self_eq_true, Option.map_some]; rw [if_neg hc]
   · have hb : (x == n) = false := beq_eq_false_iff_ne.mpr hx
     rw [List.lookup_cons (k := n)]
     by_cases hc : (k == NameKind.free && env.scope.kind == .function && env.kindOf n == some .cell) = true
     · rw [if_pos hc, List.lookup_cons]; simp only [hb]; exact ih
     · rw [if_neg hc, List.lookup_cons]; simp only [hb]; exact ih
theorem mem_of_lookup {κ β : Type} [BEq κ] [LawfulBEq κ] {x : κ} {b : β} : ∀ {l : List (κ × β)}, l.lookup x = some b → (x, b) ∈ l
 | [], h => by simp at h
 | (n, k) :: r, h => by
   rw [List.lookup_cons] at h
   cases hb : x == n with
   | true =>
     rw [hb] at h
     have e1 := LawfulBEq.eq_of_beq hb
     have e2 : k = b := by simpa using h
     subst e1 e2
     exact List.mem_cons_self
   | false =>
     rw [hb] at h
     exact List.mem_cons_of_mem _ (mem_of_lookup h)
def Cx.blk (X : Cx) (scope : Scope) (N' : List Str) (C : Addr) (s₂ : Shared) (H₂ : Hp) (ex : List Addr) : Cx :=
 { X with N := N', s₀ := s₂, H₀ := H₂, env := compEnvC scope (clOf X.env.cells scope.names []) C X.env, outer := X.stack, stack := X.stack, ex := ex, fn := fun _ => false, pn := [], xe := fun _ _ => False }
structure CompScope (X : Cx) (scope : Scope) (N' : List Str) (ix : List (Option Nat)) : Prop where
 kind : scope.kind = .function
 cell : ∀ y ∈ scope.names, y.2 ≠ .cell
 own : ∀ y ∈ scope.names, y.2 = .local → scope.names.lookup y.1 = some .local
 free : ∀ y ∈ scope.names, y.2 = .free → (X.env.kindOf y.1 = some .cell ∨ X.env.kindOf y.1 = some .free)
 once : ∀ x, (x, NameKind.local) ∈ scope.names → (x, NameKind.free) ∈ scope.names → False
 len : ix.length = N'.length
 out : ∀ (i j : Nat), ix[i]? = some (some j) → X.N[j]? = N'[i]? ∧ ∀ x, N'[i]? = some x → (x, NameKind.free) ∈ scope.names ∧ Vis X.env.scope x
def takes (ix : List (Option Nat)) (σ : St) : St := ix.map fun o => o.bind fun j => (σ[j]?).join
section
variable {X : Cx} {pins : List (Addr × Obj)} {σ : St} {H : Hp} {s : Shared} {scope : Scope} {N' : List Str} {ix : List (Option Nat)} {fp : List Addr}
theorem blk_free (I : Inv X pins σ H s) (S : CompScope X scope N' ix) : ∀ n, (n, NameKind.free) ∈ scope.names → ∃ c, X.env.cells.lookup n = some c := fun n hn => I.ok.has n (S.free _ hn rfl)
theorem blk_sub (I : Inv X pins σ H s) (S : CompScope X scope N' ix) : ∀ x c, (clOf X.env.cells scope.names []).lookup x = some c → X.env.cells.lookup x = some c :=
 cl_sub (blk_free I S) fun x c e => by simp at e
theorem blk_has (I : Inv X pins σ H s) (S : CompScope X scope N' ix) {x : Str} (h : (x, NameKind.free) ∈ scope.names) : ∃ c, (clOf X.env.cells scope.names []).lookup x = some c ∧ X.env.cells.lookup x = some c := by
 obtain ⟨c, e⟩ := cl_has (cells := X.env.cells) (acc := []) (.inl h)
 exact ⟨c, e, blk_sub I S x c e⟩
theorem blk_kind {C : Addr} (x : Str) : (compEnvC scope (clOf X.env.cells scope.names []) C X.env).kindOf x = (scope.names.lookup x).map (relK X.env x) := relabel_lookup
theorem blk_ok {C : Addr} (I : Inv X pins σ H s) (S : CompScope X scope N' ix) (hC : s.heap.objs.size ≤ C) (hf : ∀ b ∈ fp, FpOk X pins H b) (hfo : ∀ b ∈ fp, b < C) : (X.blk scope N' C s H fp).Ok where
 mod := I.ok.mod
 kind := S.kind
 glob := I.ok.glob
 blt := I.ok.blt
 above := hC
 inj := fun x y c h1 h2 => I.ok.inj x y c (blk_sub I S x c h1) (blk_sub I S y c h2)
 has := fun x hx => by
   have hx' : (scope.names.lookup x).map (relK X.env x) = some .cell ∨ (scope.names.lookup x).map (relK X.env x) = some .free := by
     rw [← blk_kind (C := C)]; exact hx
   cases e : scope.names.lookup x with
   | none => rw [e] at hx'; rcases hx' with z | z <;> cases z
   | some k =>
     have hm := mem_of_lookup e
     have hk : k = .free := by
       rw [e] at hx'
       have h1 := S.cell _ hm
       unfold relK at hx'
       by_cases hc : (k == NameKind.free && X.env.scope.kind == .function && X.env.kindOf x == some .cell) = true
       · simp only [Bool.and_eq_true, beq_iff_eq] at hc
         exact hc.1.1
       · simp only [Option.map_some, hc, if_false, Bool.false_eq_true] at hx'
         rcases hx' with z | z
         · exact absurd (Option.some.inj z) h1
         · exact Option.some.inj z
     subst hk
     obtain ⟨c, h1, _⟩ := blk_has I S hm
     exact ⟨c, h1⟩
 cab := fun x c h => by cases h
 hd := I.ok.hd
 frames := I.ok.frames
 stk := .inl rfl
 exf := fun b hb => ⟨Nat.ne_of_lt (hfo b hb), fun x c e => (hf b hb).2.2.2.2.1 x c (blk_sub I S x c e)⟩
 bs := I.bs
 bsz := Nat.le_trans I.ok.bsz I.sz
 noex := fun b o e hb => by
   rcases (hf b hb).2.2.2.1 with z | z
   · exact I.ok.noex b o e z
   · exact absurd (Nat.lt_of_lt_of_le (Heap.lt_size e) (Nat.le_trans I.ok.bsz z)) (Nat.lt_irrefl _)
 exfs := fun b hb z => by
   rcases List.mem_cons.mp (I.stkSub b z) with q | q
   · exact (hf b hb).2.1 q
   · exact (hf b hb).2.2.1 q
 funs := I.stack
 frf := I.stkFree
theorem blk_inv {C : Addr} {h' : Heap} {t' : Nat} {m : Str → Option Value} (I : Inv X pins σ H s) (S : CompScope X scope N' ix) (hC : s.heap.objs.size ≤ C) (hf : ∀ b ∈ fp, FpOk X pins H b) (hfo : ∀ b ∈ fp, b < C)
   (k : ∀ b o, s.heap.get? b = some o → h'.get? b = some o) (hn : h'.Ns C m) : Inv (X.blk scope N' C s H fp) [] (takes ix σ) H { s with heap := h', toks := t' } where
 ok := blk_ok I S hC hf hfo
 os := rfl
 bare := I.bare
 base := Un.kept k
 loc := ⟨m, hn, fun i x v e1 e2 e3 => by
   have e2' : (ix[i]?).map (fun o => o.bind fun j => (σ[j]?).join) = some (some v) := by rw [← List.getElem?_map]; exact e2
   cases q : ix[i]? with
   | none => rw [q] at e2'; cases e2'
   | some o =>
     rw [q] at e2'
     cases o with
     | none => cases e2'
     | some j =>
       have e2'' : (σ[j]?).join = some v := by simpa using e2'
       have e4 : σ[j]? = some (some v) := by
         cases z : σ[j]? with
         | none => rw [z] at e2''; cases e2''
         | some y => rw [z] at e2''; exact congrArg some e2''
       obtain ⟨o1, o2⟩ := S.out i j q
       have e1' : N'[i]? = some x := e1
       obtain ⟨o3, o4⟩ := o2 x e1'
       obtain ⟨m0, hn0, hl⟩ := I.loc
       obtain ⟨u, r, l⟩ := hl j x v (o1.trans e1') e4 o4
       refine ⟨u, r, .inr ?_⟩
       obtain ⟨c, c1, c2⟩ := blk_has I S o3
       have fk := S.free _ o3 rfl
       have hcell : h'.IsCell c (some u) := by
         rcases l with ⟨lk, _⟩ | ⟨_, c', lc, lz⟩
         · rcases fk with z | z <;> (rw [lk] at z; cases z)
         · rw [c2] at lc; cases lc
           exact lz.keeps k
       refine ⟨?_, c, c1, hcell⟩
       have hkd : (scope.names.lookup x).map (relK X.env x) = some (relK X.env x ((scope.names.lookup x).getD .free)) := by
         cases z : scope.names.lookup x with
         | none =>
           exfalso
           have : ∀ {l : List (Str × NameKind)}, (x, NameKind.free) ∈ l → l.lookup x ≠ none := by
             intro l
             induction l with
             | nil => intro h; simp at h
             | cons y r ih =>
               intro h
               rw [List.lookup_cons]
               rcases List.mem_cons.mp h with q | q
               · rw [← q]; simp
               · cases hb : x == y.1 with
                 | true => simp
                 | false => exact ih q
           exact this o3 z
         | some k => rfl
       have hvis : Vis (compEnvC scope (clOf X.env.cells scope.names []) C X.env).scope x := e3
       have hkx : (compEnvC scope (clOf X.env.cells scope.names []) C X.env).kindOf x = some .local ∨ (compEnvC scope (clOf X.env.cells scope.names []) C X.env).kindOf x = some .cell ∨ (compEnvC scope (clOf X.env.cells scope.names []) C X.env).kindOf x = some .free := hvis
       rcases hkx with z | z
       · exfalso
         rw [blk_kind] at z
         cases w : scope.names.lookup x with
         | none => rw [w] at z; cases z
         | some k =>
           rw [w] at z
           have z' : relK X.env x k = .local := Option.some.inj z
           unfold relK at z'
           split at z'
           · cases z'
           · subst z'
             have := S.once x (mem_of_lookup w) o3
             exact this
       · exact z⟩
 cell := fun x c e => by
   obtain ⟨v, z⟩ := I.cell x c (blk_sub I S x c e)
   exact ⟨v, z.keeps k⟩
 free := I.hok.fresh hC
 freeC := fun x c e => I.freeC x c (blk_sub I S x c e)
 pin := fun p hp => nomatch hp
 hok := I.hok.kept k
 len := by
   show (takes ix σ).length = N'.length
   unfold takes
   rw [List.length_map]; exact S.len
theorem blk_back {C D : Addr} {h' : Heap} {s' : Shared} {H' : Hp} {σ' : St} {pins' : List (Addr × Obj)} {ys : List V} {its : List Value} {n : Nat} (I : Inv X pins σ H s) (hD : s.heap.objs.size ≤ D) (hDC : D < C) (hf : ∀ b ∈ fp, FpOk X pins H b)
   (I' : Inv (X.blk scope N' C s H (D :: fp)) pins' σ' H' s') (hs : Heap.SameBut C s'.heap h') (hDn : H' D = none) (hl : ys.length ≤ sizeLine) (rv : Vals ys its) (ho : s'.heap.get? D = some { cls := .type "list", data := .seq its.toArray n }) :
   Inv X pins σ (upd H' D (.lst ys)) { s' with heap := h' } := by
 have nD : ∀ b o, s.heap.get? b = some o → b ≠ D := fun b o e => Nat.ne_of_lt (Nat.lt_of_lt_of_le (Heap.lt_size e) hD)
 have nC : ∀ b o, s.heap.get? b = some o → b ≠ C := fun b o e => Nat.ne_of_lt (Nat.lt_trans (Nat.lt_of_lt_of_le (Heap.lt_size e) hD) hDC)
 have nt : ∀ b o, H b = some o → b ≠ D := fun b o e => Nat.ne_of_lt (Nat.lt_of_lt_of_le (I.hok.lt e) hD)
 have nx : ∀ b o, s.heap.get? b = some o → b ∉ fp → b ∉ D :: fp := fun b o e hb z => by
   rcases List.mem_cons.mp z with q | q
   · exact nD b o e q
   · exact hb q
 have ho' : h'.get? D = some { cls := .type "list", data := .seq its.toArray n } := (hs.2 D (Nat.ne_of_lt hDC)).trans ho
 have hbase : Un (frs X.stack) (D :: fp) H H' s.heap s'.heap := I'.base
 have hfreeC : H' C = none := I'.free
 refine I.call' (ch := fp) (s' := { s' with heap := h' }) I'.os ⟨fun b o e n hb hx => ?_, fun b o e n hb hx => ?_, fun b o e n hx => ?_, fun b o e hx => ?_, fun b xs e => ?_, fun b o u e => ?_, fun b ps e => ?_⟩ (fun b u e => ?_) I'.bare (fun b hb => ?_)
 · exact (hs.2 b (nC b o e)).trans (hbase.keep b o e n hb (nx b o e hx))
 · obtain ⟨sl, q⟩ := hbase.slot b o e n hb (nx b o e hx)
   exact ⟨sl, (hs.2 b (nC b o e)).trans q⟩
 · rw [qv (nD b o e)]; exact hbase.free b o e n (nx b o e hx)
 · obtain ⟨o', q⟩ := hbase.there b o e (nx b o e hx)
   exact ⟨o', (hs.2 b (nC b o e)).trans q⟩
 · rw [qv (nt b _ e)]; exact hbase.tups b xs e
 · rw [qv (nt b _ e)]; exact hbase.frzs b o u e
 · rw [qv (nt b _ e)]; exact hbase.tbls b ps e
 · by_cases hb : b = D
   · subst hb
     rw [qY] at e; cases e
     exact ⟨hl, its, n, rv, ho'⟩
   · rw [qv hb] at e
     refine (I'.hok b u e).stay (fun c v hc q => (hs.2 c ?_).trans q) (fun c q => ?_) fun c xs q => ?_
     · rintro rfl
       rcases hc with z | z
       · subst z; rw [hfreeC] at e; cases e
       · rw [hfreeC] at z; cases z
     · rw [qv (qy q hDn)]; exact q
     · rw [qv (qy q hDn)]; exact q
 · exact ⟨(hf b hb).2.2.2.1, (hf b hb).2.1, (hf b hb).2.2.2.2.1, (hf b hb).2.2.2.2.2⟩
end
def PIfs (X : Cx) (ifs : List Expr) (tc : TT) : Prop :=
 ∀ (pins : List (Addr × Obj)) (s : Shared) (σ : St) (H : Hp) (Q : Bool → Hp → Prop), Inv X pins σ H s → tc σ H Q →
   wpAny (model X.prog X.w) X.A (forIn ifs true fun c r => if r = true then do let ok ← isTrue c X.env (eval c X.env); pure (ForInStep.yield ok) else pure (ForInStep.yield r)) (TP X pins σ Q) X.xe s
def tYes : TT := fun _ H Q => Q true H
theorem pifs_nil {X : Cx} : PIfs X [] tYes := fun _ _ _ H _ I h => wpAny_tests_nil ⟨H, I, h⟩
theorem pifs_one {X : Cx} {c : Expr} {tc : TT} (hc : PT X c tc) : PIfs X [c] tc := fun pins s σ H Q I h => wpAny_tests_one (hc pins s σ H Q I h)
def TgOwn (g : TG) (own : List Nat) : Prop := ∀ v σ H (Q : St → Hp → Prop), g v σ H Q → g v σ H fun σ' H' => Q σ' H' ∧ σ'.length = σ.length ∧ ∀ k, k ∉ own → σ'[k]? = σ[k]?
theorem own_name {i : Nat} : TgOwn (gName i) [i] := fun v σ H Q h => ⟨h, List.length_set, fun k hk => List.getElem?_set_ne (fun e => hk (by simp [e]))⟩
def tComp (wi : TI) (ix : List (Option Nat)) (g : TG) (tc : TT) (te : TE) : TE := fun σ H Q => wi σ H fun J H1 => ∃ (n : Nat) (Pv : Nat → List V → Hp → Prop), n ≤ sizeLine ∧ Pv 0 [] H1 ∧
 (∀ i ys H2, i < n → Pv i ys H2 → J.go i H2 ∧ ∀ x H3, J.yld i H2 x H3 → g x (takes ix σ) H3 fun σ4 H4 => tc σ4 H4 fun b H5 => if b = true then te σ4 H5 fun y H6 => Pv (i + 1) (ys ++ [y]) H6 else Pv (i + 1) ys H5) ∧
 ∀ ys H2, Pv n ys H2 → J.stop n H2 ∧ ∀ D, H2 D = none → Q (.ref D) (upd H2 D (.lst ys))
section
variable {X : Cx} {elt iter tg : Expr} {ifs : List Expr} {scope : Scope} {pos : Pos} {N' : List Str} {ix : List (Option Nat)} {own : List Nat} {wi : TI} {g : TG} {tc : TT} {te : TE}
theorem comp_core {use : Option (Value → Sem Unit)} {QQ : Value → Shared → Prop} (hcalm : X.calm = true) (S : CompScope X scope N' ix) (hown : ∀ k ∈ own, ix[k]? = some none) (hi : PI X tg iter wi)
   (hg : ∀ C s₂ H₂ ex, PG (X.blk scope N' C s₂ H₂ ex) tg g) (hgo : TgOwn g own) (hc : ∀ C s₂ H₂ ex, PIfs (X.blk scope N' C s₂ H₂ ex) ifs tc) (he : ∀ C s₂ H₂ ex, PE (X.blk scope N' C s₂ H₂ ex) elt te)
   (hs : ∀ x, foldedSetIterable iter X.env x = pure x) {pins : List (Addr × Obj)} {s : Shared} {σ : St} {H : Hp} {Q : VK} (I : Inv X pins σ H s) (h : tComp wi ix g tc te σ H Q)
   (hend : ∀ (s2 : Shared) (H2 : Hp) (fp : List Addr) (C D : Addr) (s4 : Shared) (H' : Hp) (ys : List V) (its : List Value) (k : Nat) (pins' : List (Addr × Obj)) (σ' : St), Inv X pins σ H2 s2 → s2.heap.objs.size ≤ D → D < C → (∀ b ∈ fp, FpOk X pins H2 b) →
     Inv (X.blk scope N' C s2 H2 (D :: fp)) pins' σ' H' s4 → H' D = none → ys.length ≤ sizeLine → Vals ys its → s4.heap.get? D = some { cls := .type "list", data := .seq its.toArray k } → Q (.ref D) (upd H' D (.lst ys)) →
     compPost (model X.prog X.w) X.A X.xe use QQ (.ref D) C (.ok .next) s4) (p' : Pos) :
   wpAny (model X.prog X.w) X.A (comprehension (.ListComp elt [⟨tg, iter, ifs, 0⟩] scope pos) scope X.env p' (newList []) false (eval iter X.env) use) QQ X.xe s := by
 refine wpAny_comprehension_free (use := use) (cl := clOf X.env.cells scope.names []) rfl hs (closureFor_of (blk_free I S)) S.kind S.own ?_
 refine thn (hi pins s σ H _ I h) fun v s1 h1 => thn h1 fun itv s2 h2 => ?_
 obtain ⟨it, fp, tn, J, H2, e, I2, T, st2, f2, n, Pv, hn, p0, turn, fin⟩ := h2
 subst e
 refine wpAny_newObj_type (wpAny_newFunctionEnv S.cell (by intro y hy; simp at hy) (fun h₁ hns₁ hsb₁ => ?_) S.kind)
 dsimp only at hns₁ hsb₁ ⊢
 generalize hH2 : s2.heap.push { cls := .type "list", dict := none, data := .seq ([] : List Value).toArray } = G2 at hns₁ hsb₁ ⊢
 have hC : G2.objs.size = s2.heap.objs.size + 1 := by rw [← hH2, Heap.size_push]
 have hDC : s2.heap.objs.size < G2.objs.size := by rw [hC]; exact Nat.lt_succ_self _
 have hCle : s2.heap.objs.size ≤ G2.objs.size := Nat.le_of_lt hDC
 have old : ∀ b o, s2.heap.get? b = some o → h₁.get? b = some o := fun b o e => hsb₁.extBut b o (Nat.ne_of_lt (Nat.lt_trans (Heap.lt_size e) hDC)) (Heap.get?_push_of_some _ (hH2 ▸ Heap.get?_push_of_some _ e))
 have hacc : h₁.get? s2.heap.objs.size = some { cls := .type "list", data := .seq #[] } := hsb₁.extBut _ _ (Nat.ne_of_lt hDC) (Heap.get?_push_of_some _ (hH2 ▸ Heap.get?_push_size _ rfl))
 have hDn : H2 s2.heap.objs.size = none := I2.hok.fresh (Nat.le_refl _)
 have fD : ∀ b ∈ s2.heap.objs.size :: fp, FpOk X pins H2 b := fun b hb => by
   rcases List.mem_cons.mp hb with q | q
   · rw [q]; exact I2.fpOk (Nat.le_refl _) hDn
   · exact f2 b q
 have lfp : ∀ b ∈ fp, b < s2.heap.objs.size := fun b hb => by
   obtain ⟨o, ho, _⟩ := T.obj 0 _ st2 b hb
   exact Heap.lt_size ho
 have lD : ∀ b ∈ s2.heap.objs.size :: fp, b < G2.objs.size := fun b hb => by
   rcases List.mem_cons.mp hb with q | q
   · rw [q]; exact hDC
   · exact Nat.lt_trans (lfp b q) hDC
 have I3 : Inv (X.blk scope N' G2.objs.size s2 H2 (s2.heap.objs.size :: fp)) [] (takes ix σ) H2 { s2 with heap := h₁, toks := s2.toks + ([] : List (Str × Value)).length } := blk_inv I2 S hCle fD lD old hns₁
 have st3 : tn 0 h₁ := T.keep 0 _ _ st2 fun b hb o e => old b o e
 have noxE : ∀ {α : Type} {t : Sem α} {Q' : α → Shared → Prop} {E' : Value → Shared → Prop} {s' : Shared}, wpAny (model X.prog X.w) X.A t Q' (fun _ _ => False) s' → wpAny (model X.prog X.w) X.A t Q' E' s' := fun w => wpAny_mono w (fun _ _ q => q) fun _ _ z => False.elim z
 have fpB : ∀ {H' : Hp} {pins' : List (Addr × Obj)}, (∀ b ∈ s2.heap.objs.size :: fp, H' b = none) → pins' = [] → ∀ b ∈ s2.heap.objs.size :: fp, FpOk (X.blk scope N' G2.objs.size s2 H2 (s2.heap.objs.size :: fp)) pins' H' b := by
   intro H' pins' hn' hp b hb
   subst hp
   have ok := I3.ok
   exact ⟨hn' b hb, (ok.exf b hb).1, ok.exfs b hb, .inl hb, (ok.exf b hb).2, fun p hp => nomatch hp⟩
 have loop : ∀ s3 : Shared, s3 = { s2 with heap := h₁, toks := s2.toks + ([] : List (Str × Value)).length } →
     codeAny (model X.prog X.w) X.A (.compLoop (.ListComp elt [⟨tg, iter, ifs, 0⟩] scope pos) 0 (.ref it) (.ref s2.heap.objs.size) (compEnvC scope (clOf X.env.cells scope.names []) G2.objs.size X.env))
       (compPost (model X.prog X.w) X.A X.xe use QQ (.ref s2.heap.objs.size) G2.objs.size) s3 := by
   rintro s3 rfl
   refine codeAny_loop rfl (fun mm s' => ∃ i ys its k H', mm = n - i ∧ i ≤ n ∧ ys.length ≤ i ∧ Inv (X.blk scope N' G2.objs.size s2 H2 (s2.heap.objs.size :: fp)) [] (takes ix σ) H' s' ∧ tn i s'.heap ∧
       (∀ b ∈ s2.heap.objs.size :: fp, H' b = none) ∧ Vals ys its ∧ s'.heap.get? s2.heap.objs.size = some { cls := .type "list", data := .seq its.toArray k } ∧ Pv i ys H') ?_ n
     ⟨0, [], [], _, H2, rfl, Nat.zero_le _, Nat.le_refl _, I3, st3, fun b hb => (fD b hb).1, .nil, hacc, p0⟩
   rintro mm s' ⟨i, ys, its, k, H', rfl, hin, hyl, I', st', fr', rv, hob, pv⟩
   show wpAny _ X.A ((compTurn (.ListComp elt [⟨tg, iter, ifs, 0⟩] scope pos) 0 (.ref it) (.ref s2.heap.objs.size) (compEnvC scope (clOf X.env.cells scope.names []) G2.objs.size X.env)).onRaise (fun x => do noteFrame x (compEnvC scope (clOf X.env.cells scope.names []) G2.objs.size X.env); theTreesLotGoes x)) _ _ s'
   refine wpAny_noted ?_
   rw [compTurn_list]
   refine wpAny_bind (wpAny_standAt (wpAny_bind ?_))
   have fpT : ∀ b ∈ fp, FpOk (X.blk scope N' G2.objs.size s2 H2 (s2.heap.objs.size :: fp)) [] H' b := fun b hb => fpB fr' rfl b (List.mem_cons_of_mem _ hb)
   by_cases hlt : i < n
   · obtain ⟨go, step⟩ := turn i ys H' hlt pv
     refine noxE (thn (T.item (X.blk scope N' G2.objs.size s2 H2 (s2.heap.objs.size :: fp)) rfl rfl rfl hcalm i [(s2.heap.objs.size, ({ cls := .type "list", data := .seq its.toArray k } : Obj))] s' _ H' (fun _ _ => False) (I'.pins_of fun p hp => ?_) (fun b hb => ?_) st' go) fun r s4 ⟨u, hr, h4⟩ => ?_)
     · obtain rfl := List.mem_singleton.mp hp
       refine ⟨hob, fr' _ List.mem_cons_self, Nat.ne_of_lt hDC, ?_, fun v z => ?_⟩
       · exact I3.ok.exfs _ List.mem_cons_self
       · have z' : Data.seq _ _ = Data.cell v := z
         cases z'
     · obtain ⟨f0, f1, f2', f3, f4, f5⟩ := fpT b hb
       refine ⟨f0, f1, f2', f3, f4, fun p hp => ?_⟩
       obtain rfl := List.mem_singleton.mp hp
       exact Nat.ne_of_gt (lfp b hb)
     · subst hr
       refine wpAny_bind (noxE (thn h4 fun _ s5 ⟨x, H5, I5, r5, y5, st5, fr5⟩ => ?_))
       have D5 := I5.pin (s2.heap.objs.size, ({ cls := .type "list", data := .seq its.toArray k } : Obj)) (by simp [Cx.blk])
       have fr5' : ∀ b ∈ s2.heap.objs.size :: fp, H5 b = none := fun b hb => by
         rcases List.mem_cons.mp hb with q | q
         · rw [q]; exact D5.2.1
         · exact fr5 b q
       have I5' : Inv (X.blk scope N' G2.objs.size s2 H2 (s2.heap.objs.size :: fp)) ([] ++ pinsAt (s2.heap.objs.size :: fp) s5.heap) (takes ix σ) H5 s5 :=
         (I5.pins_of (pins' := []) fun p hp => nomatch hp).pinned (fpB fr5' rfl) fun b hb => by
           rcases List.mem_cons.mp hb with q | q
           · subst q
             exact ⟨_, D5.1, D5.2.2.2.2⟩
           · exact T.obj _ _ st5 b q
       refine wpAny_bind (noxE (thn (hg _ _ _ _ _ s5 _ H5 x u _ I5' r5 (hgo _ _ _ _ (step x H5 y5))) fun _ s6 ⟨σ6, H6, I6, q6, l6, k6⟩ => ?_))
       refine wpAny_bind (noxE (thn (hc _ _ _ _ _ s6 σ6 H6 _ I6 q6) fun ok s7 ⟨H7, I7, q7⟩ => ?_))
       have back : ∀ {H8 : Hp} {s8 : Shared}, Inv (X.blk scope N' G2.objs.size s2 H2 (s2.heap.objs.size :: fp)) ([] ++ pinsAt (s2.heap.objs.size :: fp) s5.heap) σ6 H8 s8 →
           Inv (X.blk scope N' G2.objs.size s2 H2 (s2.heap.objs.size :: fp)) [] (takes ix σ) H8 s8 ∧ tn (i + 1) s8.heap ∧ (∀ b ∈ s2.heap.objs.size :: fp, H8 b = none) ∧ s8.heap.get? s2.heap.objs.size = some { cls := .type "list", data := .seq its.toArray k } := by
         intro H8 s8 I8
         have hp : ∀ b ∈ s2.heap.objs.size :: fp, ∀ o, s5.heap.get? b = some o → s8.heap.get? b = some o ∧ H8 b = none := fun b hb o e =>
           let z := I8.pin (b, o) (List.mem_append_right _ (List.mem_append_right _ (mem_pinsAt hb e)))
           ⟨z.1, z.2.1⟩
         refine ⟨(I8.pins_of (pins' := []) fun p hp => nomatch hp).weak (by rw [l6]) (fun j v ej => ?_), T.keep _ _ _ st5 (fun b hb o e => (hp b (List.mem_cons_of_mem _ hb) o e).1), fun b hb => ?_, (hp _ List.mem_cons_self _ D5.1).1⟩
         · by_cases hj : j ∈ own
           · exfalso
             have e1 : (ix[j]?).map (fun o => o.bind fun j => (σ[j]?).join) = some (some v) := by rw [← List.getElem?_map]; exact ej
             rw [hown j hj] at e1
             cases e1
           · rw [k6 j hj]; exact ej
         · rcases List.mem_cons.mp hb with q | q
           · rw [q]; exact (hp _ List.mem_cons_self _ D5.1).2
           · obtain ⟨o, ho, _⟩ := T.obj _ _ st5 b q
             exact (hp b hb o ho).2
       cases ok with
       | false =>
         have q7' : Pv (i + 1) ys H7 := by simpa using q7
         obtain ⟨b1, b2, b3, b4⟩ := back I7
         exact wpAny_pure ⟨rfl, n - (i + 1), by omega, i + 1, ys, its, k, H7, rfl, hlt, Nat.le_succ_of_le hyl, b1, b2, b3, rv, b4, q7'⟩
       | true =>
         have q7' : te σ6 H7 fun y H6 => Pv (i + 1) (ys ++ [y]) H6 := by simpa using q7
         refine wpAny_bind (wpAny_bind (noxE (thn (he _ _ _ _ _ s7 σ6 H7 _ I7 q7') fun z s8 ⟨y, H8, I8, r8, q8⟩ => ?_)))
         obtain ⟨b1, b2, b3, b4⟩ := back I8
         have hsz : its.toArray.size ≤ sizeLine := by rw [List.size_toArray, ← rv.length]; omega
         refine wpAny_bind (append_at (hsz := hsz) b4 fun h9 hs9 hD9 => ?_)
         · refine wpAny_pure (wpAny_pure ⟨rfl, n - (i + 1), by omega, i + 1, ys ++ [y], its ++ [z], k + 1, H8, rfl, hlt, ?_, ?_, ?_, b3, ?_, ?_, q8⟩)
           · rw [List.length_append, List.length_singleton]; exact Nat.succ_le_succ hyl
           · have fd := fpB b3 rfl _ List.mem_cons_self
             exact b1.turned (t' := s8.toks) (fun b o hb e => hs9.extBut b o hb e) fd.1 fd.2.1 fd.2.2.2.1 fd.2.2.2.2.1 fd.2.2.2.2.2
           · exact T.keep _ _ _ b2 fun b hb o e => hs9.extBut b o (Nat.ne_of_lt (lfp b hb)) e
           · exact rv.append (.cons r8 .nil)
           · rw [hD9]; simp
   · have hieq : i = n := by omega
     subst hieq
     obtain ⟨stop, qf⟩ := fin ys H' pv
     refine noxE (thn (T.done (X.blk scope N' G2.objs.size s2 H2 (s2.heap.objs.size :: fp)) rfl rfl rfl hcalm i [(s2.heap.objs.size, ({ cls := .type "list", data := .seq its.toArray k } : Obj))] s' _ H' (fun _ _ => False) (I'.pins_of fun p hp => ?_) (fun b hb => ?_) st' stop) fun r s4 ⟨hr, I4⟩ => ?_)
     · obtain rfl := List.mem_singleton.mp hp
       refine ⟨hob, fr' _ List.mem_cons_self, Nat.ne_of_lt hDC, ?_, fun v z => ?_⟩
       · exact I3.ok.exfs _ List.mem_cons_self
       · have z' : Data.seq _ _ = Data.cell v := z
         cases z'
     · obtain ⟨f0, f1, f2', f3, f4, f5⟩ := fpT b hb
       refine ⟨f0, f1, f2', f3, f4, fun p hp => ?_⟩
       obtain rfl := List.mem_singleton.mp hp
       exact Nat.ne_of_gt (lfp b hb)
     · subst hr
       have D4 := I4.pin (s2.heap.objs.size, ({ cls := .type "list", data := .seq its.toArray k } : Obj)) (by simp [Cx.blk])
       refine wpAny_pure ?_
       exact hend s2 H2 fp _ _ s4 H' ys its k _ _ I2 (Nat.le_refl _) hDC f2 I4 D4.2.1 (Nat.le_trans hyl hn) rv D4.1 (qf _ D4.2.1)
 refine codeAny_compStart_list (loop _ rfl) (T.self X.A 0 _ _ _ st3 (loop _ rfl))
theorem pe_comp (hcalm : X.calm = true) (S : CompScope X scope N' ix) (hown : ∀ k ∈ own, ix[k]? = some none) (hi : PI X tg iter wi)
   (hg : ∀ C s₂ H₂ ex, PG (X.blk scope N' C s₂ H₂ ex) tg g) (hgo : TgOwn g own) (hc : ∀ C s₂ H₂ ex, PIfs (X.blk scope N' C s₂ H₂ ex) ifs tc) (he : ∀ C s₂ H₂ ex, PE (X.blk scope N' C s₂ H₂ ex) elt te)
   (hs : ∀ x, foldedSetIterable iter X.env x = pure x := by intro _; rfl) :
   PE X (.ListComp elt [⟨tg, iter, ifs, 0⟩] scope pos) (tComp wi ix g tc te) := by
 intro pins s σ H Q I h
 rw [eval_ListComp]
 refine comp_core (use := none) hcalm S hown hi hg hgo hc he hs I h (fun s2 H2 fp C D s4 H' ys its k pins' σ' I2 hD hDC f2 I4 hDn hl rv ho q => ?_) _
 obtain ⟨m4, hn4, _⟩ := id I4.loc
 exact ⟨m4, hn4, fun h' hs' => ⟨.ref D, upd H' D (.lst ys), blk_back I2 hD hDC f2 I4 hs' hDn hl rv ho, rfl, q⟩⟩
theorem ps_comp {i : Nat} {y : Str} {py spos : Pos} (hN : X.N.Nodup) (hyi : X.N[i]? = some y) (hyl : Loc X.env.scope y) (hcalm : X.calm = true) (S : CompScope X scope N' ix) (hown : ∀ k ∈ own, ix[k]? = some none) (hi : PI X tg iter wi)
   (hg : ∀ C s₂ H₂ ex, PG (X.blk scope N' C s₂ H₂ ex) tg g) (hgo : TgOwn g own) (hc : ∀ C s₂ H₂ ex, PIfs (X.blk scope N' C s₂ H₂ ex) ifs tc) (he : ∀ C s₂ H₂ ex, PE (X.blk scope N' C s₂ H₂ ex) elt te)
   (hsw : swapsWith (.ListComp elt [⟨tg, iter, ifs, 0⟩] scope pos) (some (.Name y py)) spos.line X.env = pure true := by rfl)
   (hs : ∀ x, foldedSetIterable iter X.env x = pure x := by intro _; rfl) (hf : X.fn y = true ∨ X.env.scope.names.lookup y = some .local := by first | exact .inl rfl | exact .inr rfl | assumption) :
   PS X (.Assign [.Name y py] (.ListComp elt [⟨tg, iter, ifs, 0⟩] scope pos) spos) (tAsg (tComp wi ix g tc te) (gName i)) := by
 intro pins s σ H D0 I h
 rw [exec_Assign_Name_used _ _ _ _ hsw]
 refine wpAny_bind (wpAny_standAt (wpAny_bind ?_))
 show wpAny _ X.A (do let _ ← comprehension (.ListComp elt [⟨tg, iter, ifs, 0⟩] scope pos) scope X.env _ (newList []) false (eval iter X.env) (some (assign (.Name y py) X.env))) _ _ s
 refine wpAny_bind (wpAny_mono (comp_core (use := some (assign (.Name y py) X.env)) (QQ := fun _ s' => SP X pins D0 .next s') hcalm S hown hi hg hgo hc he hs I h (fun s2 H2 fp C D s4 H' ys its k pins' σ' I2 hD hDC f2 I4 hDn hl rv ho q => ?_) _) (fun _ s' hq => wpAny_pure (wpAny_pure hq)) fun _ _ e => e)
 have J4 : Inv X pins σ (upd H' D (.lst ys)) s4 := blk_back I2 hD hDC f2 I4 (Heap.SameBut.refl C s4.heap) hDn hl rv ho
 obtain ⟨m4, hn4, _⟩ := id I4.loc
 have hCs : s2.heap.objs.size ≤ C := Nat.le_of_lt (Nat.lt_of_le_of_lt hD hDC)
 have cL : C ≠ X.env.locals := Nat.ne_of_gt (Nat.lt_of_lt_of_le I2.lt hCs)
 have cC : ∀ x c, X.env.cells.lookup x = some c → c ≠ C := fun x c e => by
   obtain ⟨v, q⟩ := I2.cell x c e
   exact Nat.ne_of_lt (Nat.lt_of_lt_of_le q.lt hCs)
 have cH : upd H' D (.lst ys) C = none := by rw [qv (Nat.ne_of_gt hDC)]; exact I4.free
 show wpAny _ X.A (assign (.Name y py) X.env (.ref D)) _ _ s4
 refine wpAny_assign_Name (store_ok2 (v := .ref D) J4 hN hyi hyl rfl (fun s5 I5 ⟨a, sb, ha⟩ => ?_) hf)
 have ca : C ≠ a := by
   rcases ha with z | z
   · rw [z]; exact cL
   · exact fun w => cC _ _ z w.symm
 refine ⟨m4, hn4.sameBut sb ca, fun h' hs' => ?_⟩
 refine ⟨σ.set i (some (.ref D)), upd H' D (.lst ys), ?_, q⟩
 exact I5.turned (t' := s5.toks) (fun b o hb e => hs'.extBut b o hb e) cH cL (.inr (Nat.le_trans I2.sz hCs)) cC (fun p hp z => by
   have := Heap.lt_size (I2.pin p hp).1
   rw [z] at this
   exact absurd (Nat.lt_of_lt_of_le this hCs) (Nat.lt_irrefl _))
end
end L2
namespace L2
open PySem PySem.Spec PyProof.Rows
section
variable {P : Program} {w : World} {K : W.Frag} {tg : Expr}
def Itv (n : Nat) (x : Nat → Option V) : It := ⟨fun i _ => i < n, fun i H v H' => H' = H ∧ x i = some v, fun i _ => n ≤ i⟩
theorem turn_walks {it : Addr} {n : Nat} {Pv : Nat → Value → Prop} {St : Nat → Heap → Prop} {x : Nat → Option V}
   (W : ∀ A : Around, A.handled = none → Walks P w A it [it] [it] n Pv St) (hx : ∀ i v, Pv i v → ∃ y, x i = some y ∧ RelV y v)
   (ho : ∀ i h, St i h → ∃ o vs nm, h.get? it = some o ∧ o.cls = .type nm ∧ o.data = .fields vs ∧ ["enumerate", "zip", "dict_itemiterator", "dict_reverseitemiterator", "odict_iterator", "itertools.zip_longest", "itertools.pairwise"].contains nm = false)
   (hs : ∀ (A : Around) (i : Nat) (s : Shared) (Q : Value → Shared → Prop) (E : Value → Shared → Prop), St i s.heap → Q (.ref it) s → wpAny (model P w) A (pyIter (.ref it)) Q E s) :
   Turn P w K tg (Itv n x) [it] it (fun i h => St i h ∧ i ≤ n) where
 mem := by simp
 obj := fun i h st b hb => by
   obtain rfl : b = it := by simpa using hb
   obtain ⟨o, vs, nm, e, _, d, _⟩ := ho i h st.1
   exact ⟨o, e, fun v z => by rw [d] at z; cases z⟩
 keep := fun i h h' st k => ⟨(W {} rfl).frame i h h' st.1 k, st.2⟩
 item := by
   intro X hP hw hK hc i pins s σ H E I hf st hg
   subst hP hw hK
   obtain ⟨f0, f1, f2, f3, f4, f5⟩ := hf it (by simp)
   refine (W X.A (I.ok.hd hc)).item i s _ _ hg st.1 fun v h' tk hv st' kk => ?_
   obtain ⟨y, e1, r1⟩ := hx i v hv
   have I1 : Inv X pins σ H { s with heap := h', toks := tk } := I.turned (fun b o hb e => kk b o (by simpa using hb) e) f0 f1 f3 f4 f5
   obtain ⟨o, vs, nm, e, c, d, hn⟩ := ho _ _ st'
   exact ⟨_, rfl, go_of (s := { s with heap := h', toks := tk }) e c d hn ⟨y, H, I1, r1, ⟨rfl, e1⟩, ⟨st', hg⟩, fun b hb => (hf b hb).1⟩⟩
 done := by
   intro X hP hw hK hc i pins s σ H E I hf st hg
   subst hP hw hK
   obtain ⟨f0, f1, f2, f3, f4, f5⟩ := hf it (by simp)
   have hi : i = n := Nat.le_antisymm st.2 hg
   subst hi
   exact (W X.A (I.ok.hd hc)).done s _ _ st.1 fun h' tk kk => ⟨rfl, I.turned (fun b o hb e => kk b o (by simpa using hb) e) f0 f1 f3 f4 f5⟩
 self := fun A i s Q E st h => hs A i s Q E st.1 h
end
def signV (z : Str) (i : Nat) : Option V := (z.cps.toList[i]?).map fun c => V.str ⟨#[c]⟩
section
variable {X : Cx} {tg : Expr}
def iStr (tl : TE) : TI := fun σ H R => tl σ H fun x H1 => ∃ z, x = .str z ∧ R (Itv z.cps.size (signV z)) H1
theorem pi_str {l : Expr} {tl : TE} (hl : PE X l tl) : PI X tg l (iStr tl) := by
 intro pins s σ H R I h
 refine thn (hl pins s σ H _ I h) fun v s1 ⟨x, H1, I1, r1, q1⟩ => ?_
 obtain ⟨z, e, q⟩ := q1
 subst e
 obtain ⟨t, rfl⟩ := r1
 have hsx : ∀ i v, SignAt z i v → ∃ y, signV z i = some y ∧ RelV y v := by
   rintro i v ⟨c, u, hc, rfl⟩
   exact ⟨.str ⟨#[c]⟩, by unfold signV; simp [hc], u, rfl⟩
 have hn1 : ["enumerate", "zip", "dict_itemiterator", "dict_reverseitemiterator", "odict_iterator", "itertools.zip_longest", "itertools.pairwise"].contains "str_iterator" = false := by decide
 have hn2 : ["enumerate", "zip", "dict_itemiterator", "dict_reverseitemiterator", "odict_iterator", "itertools.zip_longest", "itertools.pairwise"].contains "str_ascii_iterator" = false := by decide
 cases ha : z.cps.all (· < 128)
 · refine wpAny_pyIter_wide ha ?_
   refine ⟨s1.heap.objs.size, [s1.heap.objs.size], _, _, H1, rfl, I1.kept (t' := s1.toks) fun b o e => Heap.get?_push_of_some _ e, turn_walks (fun A hA => Walks.strWide hA _ z t) hsx (fun i h ⟨o, e, c, d⟩ => ⟨o, _, _, e, c, d, hn1⟩) (fun A i s Q E st hq => wpAny_pyIter_striter_wide st hq), ⟨⟨_, Heap.get?_push_size _ rfl, rfl, rfl⟩, Nat.zero_le _⟩, fun b hb => ?_, q⟩
   have e : b = s1.heap.objs.size := by simpa using hb
   subst e
   exact I1.fpOk (Nat.le_refl _) (I1.hok.fresh (Nat.le_refl _))
 · refine wpAny_pyIter_ascii ha ?_
   refine ⟨s1.heap.objs.size, [s1.heap.objs.size], _, _, H1, rfl, I1.kept (t' := s1.toks) fun b o e => Heap.get?_push_of_some _ e, turn_walks (fun A hA => Walks.strAscii hA _ z t) hsx (fun i h ⟨o, e, c, d⟩ => ⟨o, _, _, e, c, d, hn2⟩) (fun A i s Q E st hq => wpAny_pyIter_striter_ascii st hq), ⟨⟨_, Heap.get?_push_size _ rfl, rfl, rfl⟩, Nat.zero_le _⟩, fun b hb => ?_, q⟩
   have e : b = s1.heap.objs.size := by simpa using hb
   subst e
   exact I1.fpOk (Nat.le_refl _) (I1.hok.fresh (Nat.le_refl _))
theorem range_allO (bs : List Bool) : ((List.range bs.length).all fun i => (bs[i]?).getD true) = bs.all id := by
 rw [Bool.eq_iff_iff, List.all_eq_true, List.all_eq_true]
 constructor
 · intro h b hb
   obtain ⟨i, hi, rfl⟩ := List.getElem_of_mem hb
   have := h i (List.mem_range.mpr hi)
   simpa [List.getElem?_eq_getElem hi] using this
 · intro h i hi
   have hi' := List.mem_range.mp hi
   simp only [List.getElem?_eq_getElem hi', Option.getD_some]
   exact h _ (List.getElem_mem hi')
theorem call_all (hc : X.calm = true) : CallR X (.builtin "all") (fun xs H Q => ∃ (a : Addr) (bs : List Bool), xs = [.ref a] ∧ SqL X.K H a (bs.map V.bl) ∧ Q (.bl (bs.all id)) H) := by
 intro pins s σ H xs us Q I r h
 obtain ⟨a, bs, rfl, ha, q⟩ := h
 obtain ⟨u, rfl, ru⟩ := vals1 r
 cases ru
 obtain ⟨its, rv, pl, hz⟩ := I.list ha
 have hl := pl.isList
 have hlt : a < s.heap.objs.size := by obtain ⟨_, e, _⟩ := hl; exact Heap.lt_size e
 have hlen : its.length = bs.length := by rw [← rv.length, List.length_map]
 refine call_all_walk (wpAny_pyIter_list hl ?_)
 refine ⟨s.heap.objs.size, [s.heap.objs.size, a], [s.heap.objs.size], its.toArray.size, _, _, fun i => (bs[i]?).getD true, rfl, Walks.list (A := X.A.in1) (I.ok.hd hc) _ a (Nat.ne_of_lt hlt) its.toArray,
   ⟨⟨_, Heap.get?_push_size _ rfl, rfl, rfl⟩, hl.push _⟩, fun i v s' Q' E' hP hQ => ?_, fun h' tk hk => ?_⟩
 · have hP' : its[i]? = some v := by simpa using hP
   have hi : i < its.length := (List.getElem?_eq_some_iff.mp hP').1
   have hb : (bs.map V.bl)[i]? = some (V.bl bs[i]) := by simp
   obtain ⟨u, hu, ru⟩ := rv.get hb
   rw [hP'] at hu; cases hu
   obtain rfl : v = Value.bool bs[i] := ru
   have hi' : i < bs.length := by omega
   have hQ' : Q' ((bs[i]?).getD true) s' := hQ
   rw [List.getElem?_eq_getElem hi', Option.getD_some] at hQ'
   exact wpAny_truthy_bool hQ'
 · have e : ((List.range its.toArray.size).all fun i => (bs[i]?).getD true) = bs.all id := by
     rw [List.size_toArray, hlen]; exact range_allO bs
   rw [e]
   exact ⟨.bl (bs.all id), H, I.kept (fun b x e => hk b x (fun hm => by rw [List.mem_singleton.mp hm] at e; exact Nat.lt_irrefl _ (Heap.lt_size e)) (Heap.get?_push_of_some _ e)), rfl, q⟩
theorem strsAre_of : ∀ {ys : List Str} {us : List Value}, Vals (ys.map V.str) us → StrsAre us ys
 | [], us, r => by
   have e := Vals.zero r
   subst e
   exact .nil
 | y :: ys, us, r => by
   cases r with
   | cons r1 r2 =>
     obtain ⟨t, rfl⟩ := r1
     exact .cons y t (strsAre_of r2)
def rJoin (K : W.Frag) : V → List V → Hp → VK → Prop := fun x vs H Q => ∃ (z : Str) (a : Addr) (ys : List Str), x = .str z ∧ vs = [.ref a] ∧ SqL K H a (ys.map V.str) ∧ (ys.map (·.length)).sum + ys.length * z.length ≤ 16777216 ∧ Q (.str (Txt.join z ys)) H
theorem mt_join : MtM X "str.join" (rJoin X.K) := by
 intro pins s σ H x vs v us Q I rx rv h
 obtain ⟨z, a, ys, rfl, rfl, ha, hok, q⟩ := h
 obtain ⟨t, rfl⟩ := rx
 obtain ⟨u, rfl, ru⟩ := rv.one
 cases ru
 obtain ⟨its, r, pl, hz⟩ := I.list ha
 exact join_list pl.isList (strsAre_of r) hok fun t' k => ⟨.str _, H, I.tok _, ⟨t', rfl⟩, q⟩
def rIsi (K : W.Frag) (c : Value) (b : V → Hp → Bool → Prop) : List V → Hp → VK → Prop := fun xs H Q => ∃ x cv k, xs = [x, cv] ∧ RelV cv c ∧ b x H k ∧ Q (.bl k) H
def isiV (K : W.Frag) (c : Value) : V → Hp → Bool → Prop := fun x H k => ∃ t, TyOf K H x t ∧ W.kitOne K t c = some k
theorem call_isi {c : Value} (hu : ∀ cv u, RelV cv c → RelV cv u → u = c) : CallR X (.builtin "isinstance") (rIsi X.K c (isiV X.K c)) := by
 intro pins s σ H xs us Q I r h
 obtain ⟨x, cv, k, rfl, rc, ⟨t, ty, e⟩, q⟩ := h
 obtain ⟨u, u2, rfl, ru, rc2⟩ := r.two
 obtain rfl := hu cv u2 rc rc2
 exact isinst_ok I ru ty e fun tk => ⟨.bl k, H, I.tok _, rfl, q⟩
theorem ty_one {n : String} : ∀ cv u, RelV cv (.type n) → RelV cv u → u = .type n := by
 intro cv u h1 h2
 cases cv with
 | ty m =>
   have e1 : Value.type n = Value.type m := h1
   have e2 : u = Value.type m := h2
   rw [e2, e1]
 | non => cases (show Value.type n = Value.none from h1)
 | bl b => cases (show Value.type n = Value.bool b from h1)
 | int i => obtain ⟨t, e⟩ := (show ∃ t, Value.type n = Value.int i t from h1); cases e
 | str x => obtain ⟨t, e⟩ := (show ∃ t, Value.type n = Value.str x t from h1); cases e
 | byt b => obtain ⟨t, e⟩ := (show ∃ t, Value.type n = Value.bytes b t from h1); cases e
 | flt b => obtain ⟨t, e⟩ := (show ∃ t, Value.type n = Value.float b t from h1); cases e
 | ref a => cases (show Value.type n = Value.ref a from h1)
theorem kit_ty {K : W.Frag} {t c : String} {b : Bool} (h : (if (Value.type t == Value.type c) = true then some true else if W.kitMeta c = true then (PySem.fastBuiltinMro t).map (·.contains (Value.type c)) else none) = some b) : W.kitOne K (.type t) (.type c) = some b := h
theorem kit_int_int {K : W.Frag} : W.kitOne K (.type "int") (.type "int") = some true := kit_ty (by decide +kernel)
theorem kit_bool_int {K : W.Frag} : W.kitOne K (.type "bool") (.type "int") = some true := kit_ty (by decide +kernel)
theorem kit_none_int {K : W.Frag} : W.kitOne K (.type "NoneType") (.type "int") = some false := kit_ty (by decide +kernel)
theorem kit_str_int {K : W.Frag} : W.kitOne K (.type "str") (.type "int") = some false := kit_ty (by decide +kernel)
theorem kit_list_int {K : W.Frag} : W.kitOne K (.type "list") (.type "int") = some false := kit_ty (by decide +kernel)
theorem kit_tuple_int {K : W.Frag} : W.kitOne K (.type "tuple") (.type "int") = some false := kit_ty (by decide +kernel)
theorem kit_int_bool {K : W.Frag} : W.kitOne K (.type "int") (.type "bool") = some false := kit_ty (by decide +kernel)
theorem kit_bool_bool {K : W.Frag} : W.kitOne K (.type "bool") (.type "bool") = some true := kit_ty (by decide +kernel)
theorem kit_none_str {K : W.Frag} : W.kitOne K (.type "NoneType") (.type "str") = some false := kit_ty (by decide +kernel)
theorem kit_bool_str {K : W.Frag} : W.kitOne K (.type "bool") (.type "str") = some false := kit_ty (by decide +kernel)
theorem kit_int_str {K : W.Frag} : W.kitOne K (.type "int") (.type "str") = some false := kit_ty (by decide +kernel)
theorem kit_str_str {K : W.Frag} : W.kitOne K (.type "str") (.type "str") = some true := kit_ty (by decide +kernel)
theorem kit_list_str {K : W.Frag} : W.kitOne K (.type "list") (.type "str") = some false := kit_ty (by decide +kernel)
theorem kit_tuple_str {K : W.Frag} : W.kitOne K (.type "tuple") (.type "str") = some false := kit_ty (by decide +kernel)
theorem kit_none_tuple {K : W.Frag} : W.kitOne K (.type "NoneType") (.type "tuple") = some false := kit_ty (by decide +kernel)
theorem kit_bool_tuple {K : W.Frag} : W.kitOne K (.type "bool") (.type "tuple") = some false := kit_ty (by decide +kernel)
theorem kit_int_tuple {K : W.Frag} : W.kitOne K (.type "int") (.type "tuple") = some false := kit_ty (by decide +kernel)
theorem kit_str_tuple {K : W.Frag} : W.kitOne K (.type "str") (.type "tuple") = some false := kit_ty (by decide +kernel)
theorem kit_list_tuple {K : W.Frag} : W.kitOne K (.type "list") (.type "tuple") = some false := kit_ty (by decide +kernel)
theorem kit_tuple_tuple {K : W.Frag} : W.kitOne K (.type "tuple") (.type "tuple") = some true := kit_ty (by decide +kernel)
end
end L2
namespace L2
open PySem PySem.Spec PyProof.Rows
mutual
def Has (H : Hp) : V → PyData → Prop
 | v, .none => v = .non
 | v, .bool b => v = .bl b
 | v, .int i => v = .int i
 | v, .str x => v = .str x
 | v, .list ds => ∃ a xs, v = .ref a ∧ H a = some (.lst xs) ∧ HasL H xs ds
 | v, .tuple ds => ∃ a xs, v = .ref a ∧ H a = some (.tup xs) ∧ HasL H xs ds
 | _, .dict _ => False
def HasL (H : Hp) : List V → List PyData → Prop
 | xs, [] => xs = []
 | xs, d :: ds => ∃ x r, xs = x :: r ∧ Has H x d ∧ HasL H r ds
end
mutual
theorem Has.same {H H' : Hp} (e : Same H H') : ∀ {v : V} {d : PyData}, Has H v d → Has H' v d
 | v, .none, h => by unfold Has at h ⊢; exact h
 | v, .bool b, h => by unfold Has at h ⊢; exact h
 | v, .int i, h => by unfold Has at h ⊢; exact h
 | v, .str x, h => by unfold Has at h ⊢; exact h
 | v, .list ds, h => by
   unfold Has at h ⊢
   obtain ⟨a, xs, h1, h2, h3⟩ := h
   exact ⟨a, xs, h1, e _ _ h2, HasL.same e h3⟩
 | v, .tuple ds, h => by
   unfold Has at h ⊢
   obtain ⟨a, xs, h1, h2, h3⟩ := h
   exact ⟨a, xs, h1, e _ _ h2, HasL.same e h3⟩
 | v, .dict kvs, h => by unfold Has at h; exact h.elim
theorem HasL.same {H H' : Hp} (e : Same H H') : ∀ {xs : List V} {ds : List PyData}, HasL H xs ds → HasL H' xs ds
 | xs, [], h => by unfold HasL at h ⊢; exact h
 | xs, d :: ds, h => by
   unfold HasL at h ⊢
   obtain ⟨x, r, h1, h2, h3⟩ := h
   exact ⟨x, r, h1, Has.same e h2, HasL.same e h3⟩
end
theorem HasL.length {H : Hp} : ∀ {xs : List V} {ds : List PyData}, HasL H xs ds → xs.length = ds.length
 | xs, [], h => by unfold HasL at h; subst h; rfl
 | xs, d :: ds, h => by
   unfold HasL at h
   obtain ⟨x, r, rfl, h2, h3⟩ := h
   simp [HasL.length h3]
theorem HasL.get {H : Hp} : ∀ {xs : List V} {ds : List PyData} {i : Nat} {d : PyData}, HasL H xs ds → ds[i]? = some d → ∃ x, xs[i]? = some x ∧ Has H x d
 | xs, [], i, d, h, e => by simp at e
 | xs, d' :: ds, 0, d, h, e => by
   unfold HasL at h
   obtain ⟨x, r, rfl, h2, h3⟩ := h
   simp at e; subst e
   exact ⟨x, rfl, h2⟩
 | xs, d' :: ds, i + 1, d, h, e => by
   unfold HasL at h
   obtain ⟨x, r, rfl, h2, h3⟩ := h
   obtain ⟨y, h4, h5⟩ := HasL.get (i := i) h3 (by simpa using e)
   exact ⟨y, by simpa using h4, h5⟩
theorem HasL.append {H : Hp} : ∀ {xs ys : List V} {ds es : List PyData}, HasL H xs ds → HasL H ys es → HasL H (xs ++ ys) (ds ++ es)
 | xs, ys, [], es, h, h' => by unfold HasL at h; subst h; simpa using h'
 | xs, ys, d :: ds, es, h, h' => by
   unfold HasL at h
   obtain ⟨x, r, rfl, h2, h3⟩ := h
   show HasL H (x :: (r ++ ys)) (d :: (ds ++ es))
   unfold HasL
   exact ⟨x, r ++ ys, rfl, h2, HasL.append h3 h'⟩
theorem hasL_nil {H : Hp} : HasL H [] [] := by unfold HasL; rfl
theorem yZ {H : Hp} {x : V} {xs : List V} {d : PyData} {ds : List PyData} (h : Has H x d) (t : HasL H xs ds) : HasL H (x :: xs) (d :: ds) := by unfold HasL; exact ⟨x, xs, rfl, h, t⟩
theorem has_none {H : Hp} : Has H .non .none := by unfold Has; rfl
theorem has_int {H : Hp} (i : Int) : Has H (.int i) (.int i) := by unfold Has; rfl
theorem has_str {H : Hp} (x : Str) : Has H (.str x) (.str x) := by unfold Has; rfl
theorem has_lst {H : Hp} {a : Addr} {xs : List V} {ds : List PyData} (h : H a = some (.lst xs)) (t : HasL H xs ds) : Has H (.ref a) (.list ds) := by unfold Has; exact ⟨a, xs, rfl, h, t⟩
theorem has_tup {H : Hp} {a : Addr} {xs : List V} {ds : List PyData} (h : H a = some (.tup xs)) (t : HasL H xs ds) : Has H (.ref a) (.tuple ds) := by unfold Has; exact ⟨a, xs, rfl, h, t⟩
section
variable {X : Cx} {pins : List (Addr × Obj)} {σ : St} {H : Hp} {s : Shared}
mutual
theorem has_reads (I : Inv X pins σ H s) : ∀ {v : V} {d : PyData} {u : Value}, Has H v d → RelV v u → ∃ as, Reads s.heap u d as
 | v, .none, u, h, r => by unfold Has at h; subst h; cases (show u = Value.none from r); exact ⟨_, .none⟩
 | v, .bool b, u, h, r => by unfold Has at h; subst h; cases (show u = Value.bool b from r); exact ⟨_, .bool b⟩
 | v, .int i, u, h, r => by unfold Has at h; subst h; obtain ⟨t, rfl⟩ := r; exact ⟨_, .int i t⟩
 | v, .str x, u, h, r => by unfold Has at h; subst h; obtain ⟨t, rfl⟩ := r; exact ⟨_, .str x t⟩
 | v, .list ds, u, h, r => by
   unfold Has at h
   obtain ⟨a, xs, rfl, h2, h3⟩ := h
   cases (show u = Value.ref a from r)
   obtain ⟨z, its, n, rv, e⟩ := (show ObjOk X.prog X.w H s.heap a (.lst xs) from I.hok a _ h2)
   obtain ⟨as, ra⟩ := hasL_reads I h3 rv
   exact ⟨_, .list e rfl rfl (by simpa using ra)⟩
 | v, .tuple ds, u, h, r => by
   unfold Has at h
   obtain ⟨a, xs, rfl, h2, h3⟩ := h
   cases (show u = Value.ref a from r)
   obtain ⟨z, its, rv, p⟩ := (show ObjOk X.prog X.w H s.heap a (.tup xs) from I.hok a _ h2)
   obtain ⟨o, e, c, n, d⟩ := p
   obtain ⟨as, ra⟩ := hasL_reads I h3 rv
   exact ⟨_, .tuple e c d (by simpa using ra)⟩
 | v, .dict kvs, u, h, r => by unfold Has at h; exact h.elim
theorem hasL_reads (I : Inv X pins σ H s) : ∀ {xs : List V} {ds : List PyData} {us : List Value}, HasL H xs ds → Vals xs us → ∃ as, ReadsAll s.heap us ds as
 | xs, [], us, h, r => by
   unfold HasL at h
   subst h
   cases Vals.zero r
   exact ⟨_, .nil⟩
 | xs, d :: ds, us, h, r => by
   unfold HasL at h
   obtain ⟨x, rr, rfl, h2, h3⟩ := h
   cases r with
   | cons r1 r2 =>
     obtain ⟨as, a1⟩ := has_reads I h2 r1
     obtain ⟨bs, a2⟩ := hasL_reads I h3 r2
     exact ⟨_, .cons a1 a2⟩
end
def rNeD : R2 := fun x y H Q => ∃ d e, Has H x d ∧ Has H y e ∧ SeqAt.shaped d = true ∧ SeqAt.shaped e = true ∧ Q (.bl (!PyData.eqv d e)) H
theorem op_neD (hu : X.A.units + 64 < cLine) : OpR X (compareOp .NotEq) rNeD := by
 rintro pins s σ H x y v u Q I rx ry ⟨d, e, h1, h2, s1, s2, q⟩
 obtain ⟨as, r1⟩ := has_reads I h1 rx
 obtain ⟨bs, r2⟩ := has_reads I h2 ry
 exact ne_dataH r1 r2 s1 s2 hu ⟨.bl _, H, I, rfl, q⟩
end
structure Callee (P : Program) (w : World) (K : W.Frag) (mg : Str → Option Value) (base : Heap) (k : Nat) (x : Str) (ps : List Str) (sp : Sp) : Prop where
 ex : ∃ f fd, FnOk P w K mg base CX0 k f fd ps sp ∧ mg x = some (.ref f) ∧ W.keepIn K (.ref f) = true ∧ Binds K fd ps []
section
variable {X : Cx} {k : Nat} {x : Str} {ps : List Str} {sp : Sp} {e : Expr} {es : List Expr} {t : TA} {p pos : Pos}
theorem pe_fn (C : Callee X.prog X.w X.K X.mg X.base k x ps sp) (hr : Room k X.A) (ha : PA X (e :: es) t) (hg : Gl X x := by rfl) (hdb : (x == ("__debug__" : Str)) = false := by decide)
   (he : starEach (e :: es) X.env = (false, eval e X.env) :: starEach es X.env := by rfl) (hpl : (backTo pos (starEach es X.env)).any (·.1) = false := by rfl) :
   PE X (.Call (.Name x p) (e :: es) [] pos) (tCall sp [] E0 t) := by
 obtain ⟨f, fd, F, hm, hk, hb⟩ := C.ex
 exact pe_call F hr hg hm hk hb .nil pass0 ha hdb he hpl
theorem pe_fn0 (C : Callee X.prog X.w X.K X.mg X.base k x ps sp) (hr : Room k X.A) (hg : Gl X x := by rfl) (hdb : (x == ("__debug__" : Str)) = false := by decide) :
   PE X (.Call (.Name x p) [] [] pos) (tCall sp [] E0 tNil) := by
 obtain ⟨f, fd, F, hm, hk, hb⟩ := C.ex
 exact pe_call0 F hr hg hm hk hb .nil pass0 hdb
end
def visB (o : Option NameKind) : Bool := o == some .local || o == some .cell || o == some .free
def compOk (osc : Scope) (ON : List Str) (scope : Scope) (N' : List Str) (ix : List (Option Nat)) : Bool :=
 scope.kind == .function && scope.names.all (fun y => y.2 != .cell) && scope.names.all (fun y => y.2 != .local || scope.names.lookup y.1 == some .local) &&
 scope.names.all (fun y => y.2 != .free || (osc.names.lookup y.1 == some .cell || osc.names.lookup y.1 == some .free)) &&
 scope.names.all (fun y => y.2 != .local || !(scope.names.any fun z => z.1 == y.1 && z.2 == .free)) && ix.length == N'.length &&
 (List.range ix.length).all fun i => match ix[i]? with
   | some (some j) => ON[j]? == N'[i]? && (match N'[i]? with | some x => (scope.names.any fun z => z.1 == x && z.2 == .free) && visB (osc.names.lookup x) | none => true)
   | _ => true
theorem cs_of {X : Cx} {osc : Scope} {ON : List Str} {scope : Scope} {N' : List Str} {ix : List (Option Nat)} (h1 : X.env.scope = osc) (h2 : X.N = ON) (h : compOk osc ON scope N' ix = true) : CompScope X scope N' ix := by
 unfold compOk at h
 simp only [Bool.and_eq_true] at h
 obtain ⟨⟨⟨⟨⟨⟨a1, a2⟩, a3⟩, a4⟩, a5⟩, a6⟩, a7⟩ := h
 rw [List.all_eq_true] at a2 a3 a4 a5 a7
 refine ⟨eq_of_beq a1, fun y hy => by simpa using a2 y hy, fun y hy hl => ?_, fun y hy hl => ?_, fun x h3 h4 => ?_, eq_of_beq a6, fun i j hij => ?_⟩
 · have := a3 y hy
   rw [hl] at this
   simpa using this
 · have := a4 y hy
   rw [hl] at this
   have e : X.env.kindOf y.1 = osc.names.lookup y.1 := by rw [← h1]; rfl
   rw [e]
   simpa using this
 · have := a5 _ h3
   simp only [bne_self_eq_false, Bool.false_or, Bool.not_eq_true'] at this
   rw [List.any_eq_false] at this
   have z := this _ h4
   simp at z
 · have hi : i < ix.length := (List.getElem?_eq_some_iff.mp hij).1
   have := a7 i (List.mem_range.mpr hi)
   rw [hij] at this
   simp only [Bool.and_eq_true] at this
   obtain ⟨b1, b2⟩ := this
   refine ⟨by rw [h2]; exact eq_of_beq b1, fun x hx => ?_⟩
   rw [hx] at b2
   simp only [Bool.and_eq_true] at b2
   obtain ⟨c1, c2⟩ := b2
   obtain ⟨z, hz, hz2⟩ := List.any_eq_true.mp c1
   simp only [Bool.and_eq_true, beq_iff_eq] at hz2
   obtain ⟨z1, z2⟩ := z
   obtain ⟨rfl, rfl⟩ := hz2
   refine ⟨hz, ?_⟩
   unfold visB at c2
   simp only [Bool.or_eq_true, beq_iff_eq] at c2
   unfold Vis
   rw [h1]
   rcases c2 with (c2 | c2) | c2
   · exact .inl c2
   · exact .inr (.inl c2)
   · exact .inr (.inr c2)
theorem pe_gl {X : Cx} {x : Str} {v : V} {pos : Pos} (h : ∃ u, X.mg x = some u ∧ RelV v u) (hg : Gl X x := by rfl) (hd : (x == ("__debug__" : Str)) = false := by decide) : PE X (.Name x pos) (tC v) :=
 let ⟨_, h1, h2⟩ := h
 pe_glob hg h1 h2 hd
def isiInt : PyData → Bool
 | .int _ => true
 | .bool _ => true
 | _ => false
def isiBool : PyData → Bool
 | .bool _ => true
 | _ => false
def isiStr : PyData → Bool
 | .str _ => true
 | _ => false
def isiTup : PyData → Bool
 | .tuple _ => true
 | _ => false
theorem has_ty {K : W.Frag} {H : Hp} : ∀ {v : V} {d : PyData}, Has H v d → TyOf K H v (match d with
   | .none => .type "NoneType" | .bool _ => .type "bool" | .int _ => .type "int" | .str _ => .type "str" | .list _ => .type "list" | .tuple _ => .type "tuple" | .dict _ => .type "dict")
 | v, .none, h => by unfold Has at h; subst h; exact .non
 | v, .bool b, h => by unfold Has at h; subst h; exact .bl b
 | v, .int i, h => by unfold Has at h; subst h; exact .int i
 | v, .str x, h => by unfold Has at h; subst h; exact .str x
 | v, .list ds, h => by unfold Has at h; obtain ⟨a, xs, rfl, e, _⟩ := h; exact .lst e
 | v, .tuple ds, h => by unfold Has at h; obtain ⟨a, xs, rfl, e, _⟩ := h; exact .tup e
 | v, .dict _, h => by unfold Has at h; exact h.elim
theorem has_isiInt {K : W.Frag} {H : Hp} {v : V} {d : PyData} (h : Has H v d) : isiV K (.type "int") v H (isiInt d) := by
 refine ⟨_, has_ty h, ?_⟩
 cases d with
 | none => exact kit_none_int
 | bool _ => exact kit_bool_int
 | int _ => exact kit_int_int
 | str _ => exact kit_str_int
 | list _ => exact kit_list_int
 | tuple _ => exact kit_tuple_int
 | dict _ => unfold Has at h; exact h.elim
theorem kit_str_bool {K : W.Frag} : W.kitOne K (.type "str") (.type "bool") = some false := kit_ty (by decide +kernel)
theorem kit_none_bool {K : W.Frag} : W.kitOne K (.type "NoneType") (.type "bool") = some false := kit_ty (by decide +kernel)
theorem kit_list_bool {K : W.Frag} : W.kitOne K (.type "list") (.type "bool") = some false := kit_ty (by decide +kernel)
theorem kit_tuple_bool {K : W.Frag} : W.kitOne K (.type "tuple") (.type "bool") = some false := kit_ty (by decide +kernel)
theorem has_isiBool {K : W.Frag} {H : Hp} {v : V} {d : PyData} (h : Has H v d) : isiV K (.type "bool") v H (isiBool d) := by
 refine ⟨_, has_ty h, ?_⟩
 cases d with
 | none => exact kit_none_bool
 | bool _ => exact kit_bool_bool
 | int _ => exact kit_int_bool
 | str _ => exact kit_str_bool
 | list _ => exact kit_list_bool
 | tuple _ => exact kit_tuple_bool
 | dict _ => unfold Has at h; exact h.elim
theorem has_isiStr {K : W.Frag} {H : Hp} {v : V} {d : PyData} (h : Has H v d) : isiV K (.type "str") v H (isiStr d) := by
 refine ⟨_, has_ty h, ?_⟩
 cases d with
 | none => exact kit_none_str
 | bool _ => exact kit_bool_str
 | int _ => exact kit_int_str
 | str _ => exact kit_str_str
 | list _ => exact kit_list_str
 | tuple _ => exact kit_tuple_str
 | dict _ => unfold Has at h; exact h.elim
theorem has_isiTup {K : W.Frag} {H : Hp} {v : V} {d : PyData} (h : Has H v d) : isiV K (.type "tuple") v H (isiTup d) := by
 refine ⟨_, has_ty h, ?_⟩
 cases d with
 | none => exact kit_none_tuple
 | bool _ => exact kit_bool_tuple
 | int _ => exact kit_int_tuple
 | str _ => exact kit_str_tuple
 | list _ => exact kit_list_tuple
 | tuple _ => exact kit_tuple_tuple
 | dict _ => unfold Has at h; exact h.elim
theorem Same.new {H : Hp} {p : Addr} {o : HO} (h : H p = none) : Same H (upd H p o) := fun b u e => by rw [qv (qy e h)]; exact e
theorem SqT.ofT {K : W.Frag} {H : Hp} {a : Addr} {xs : List V} (h : H a = some (.tup xs)) : SqT K H a xs := .inl (.inl h)
theorem SqL.ofL {K : W.Frag} {H : Hp} {a : Addr} {xs : List V} (h : H a = some (.lst xs)) : SqL K H a xs := .inl (.inl h)
theorem rd_yes {σ : St} {H : Hp} {Q : Bool → Hp → Prop} (h : Q true H) : tYes σ H Q := h
theorem rd_name {i : Nat} {v : V} {σ : St} {H : Hp} {Q : St → Hp → Prop} (h : Q (σ.set i (some v)) H) : gName i v σ H Q := h
end L2
namespace L2
open PySem PySem.Spec PyProof.Rows
section
variable {X : Cx}
def rEq0 (K : W.Frag) : R2 := fun x y H Q => ∃ a b xs, x = .ref a ∧ y = .ref b ∧ SqL K H a xs ∧ SqL K H b [] ∧ Q (.bl xs.isEmpty) H
def rNe0 (K : W.Frag) : R2 := fun x y H Q => ∃ a b xs, x = .ref a ∧ y = .ref b ∧ SqL K H a xs ∧ SqL K H b [] ∧ Q (.bl (!xs.isEmpty)) H
theorem op_eq0 (hu : X.A.units < cLine) : OpR X (compareOp .Eq) (rEq0 X.K) := by
 rintro pins s σ H x y v u Q I rx ry ⟨a, b, xs, rfl, rfl, ha, hb, q⟩
 cases rx; cases ry
 obtain ⟨its, r1, p1, _⟩ := I.list ha
 obtain ⟨its2, r2, p2, _⟩ := I.list hb
 cases Vals.zero r2
 by_cases h : xs = []
 · subst h
   cases Vals.zero r1
   exact SeqAt.RcAt.lists (e := fun _ => true) p1.isList p2.isList rfl hu (fun j h1 _ => absurd h1 (by simp)) _ _ _ _ ⟨.bl true, H, I, rfl, q⟩
 · have e : xs.isEmpty = false := by simpa using h
   rw [e] at q
   have hl := r1.length
   refine SeqAt.RcAt.lists_lengths p1.isList p2.isList ?_ hu _ _ _ _ ⟨.bl false, H, I, rfl, q⟩
   have : xs.length ≠ 0 := fun z => h (List.length_eq_zero_iff.mp z)
   simp; intro z; subst z; simp at hl; exact this (by simpa using hl)
theorem op_ne0 (hu : X.A.units < cLine) : OpR X (compareOp .NotEq) (rNe0 X.K) := by
 rintro pins s σ H x y v u Q I rx ry ⟨a, b, xs, rfl, rfl, ha, hb, q⟩
 cases rx; cases ry
 obtain ⟨its, r1, p1, _⟩ := I.list ha
 obtain ⟨its2, r2, p2, _⟩ := I.list hb
 cases Vals.zero r2
 by_cases h : xs = []
 · subst h
   cases Vals.zero r1
   exact SeqAt.RcNeAt.lists (e := fun _ => true) p1.isList p2.isList rfl hu (fun j h1 _ => absurd h1 (by simp)) _ _ _ _ ⟨.bl false, H, I, rfl, q⟩
 · have e : xs.isEmpty = false := by simpa using h
   rw [e] at q
   have hl := r1.length
   refine SeqAt.RcNeAt.lists_lengths p1.isList p2.isList ?_ hu _ _ _ _ ⟨.bl true, H, I, rfl, q⟩
   have : xs.length ≠ 0 := fun z => h (List.length_eq_zero_iff.mp z)
   simp; intro z; subst z; simp at hl; exact this (by simpa using hl)
end
end L2
namespace L2
open PySem PySem.Spec PyProof.Rows
def plainE : Expr → Bool
 | .Starred _ _ => false
 | _ => true
theorem star_of {e : Expr} {es : List Expr} {env : Env} (h : plainE e = true) : starEach (e :: es) env = (false, eval e env) :: starEach es env := by
 cases e <;> first | rfl | (exact absurd (show false = true from h) Bool.false_ne_true)
structure PAs (X : Cx) (es : List Expr) (t : TA) : Prop where
 pa : PA X es t
 st : ∀ env, starEach es env = es.map fun e => (false, eval e env)
section
variable {X : Cx} {e : Expr} {es : List Expr} {te : TE} {t : TA} {pos p : Pos} {x : Str} {k : Nat} {ps : List Str} {sp : Sp} {id T : String} {r : List V → Hp → VK → Prop}
theorem qZ : PAs X [] tNil := ⟨pa_nil, fun _ => rfl⟩
theorem qU (ha : PE X e te) (hr : PAs X es t) (hp : plainE e = true := by rfl) : PAs X (e :: es) (tCons te t) :=
 ⟨yz ha hr.pa (star_of hp), fun env => by rw [star_of hp, hr.st]; rfl⟩
theorem back_any (pos : Pos) (env : Env) : ∀ es : List Expr, (backTo pos (es.map fun e => (false, eval e env))).any (·.1) = false
 | [] => rfl
 | e :: es => by
   show (false || (backTo pos (es.map fun e => (false, eval e env))).any (·.1)) = false
   rw [back_any pos env es]; rfl
theorem PAs.he (h : PAs X (e :: es) t) (ht : ∀ env, starEach es env = es.map fun e => (false, eval e env)) : starEach (e :: es) X.env = (false, eval e X.env) :: starEach es X.env := by
 rw [h.st, ht]; rfl
structure PAt (X : Cx) (e : Expr) (es : List Expr) (t : TA) : Prop where
 all : PAs X (e :: es) t
 tl : ∀ env, starEach es env = es.map fun e => (false, eval e env)
theorem qJ (ha : PE X e te) (hr : PAs X es t) (hp : plainE e = true := by rfl) : PAt X e es (tCons te t) := ⟨qU ha hr hp, hr.st⟩
theorem as_lst (h : PAs X es t) : PE X (.List es pos) (tLst t) := pe_lst h.pa
theorem as_tup {x1} (h : PAs X es t) : PE X (.Tuple es x1 pos) (tTup t) := pe_tup h.pa
theorem yy (C : Callee X.prog X.w X.K X.mg X.base k x ps sp) (hr : Room k X.A) (ha : PAt X e es t) (hg : Gl X x := by rfl) (hdb : (x == ("__debug__" : Str)) = false := by decide) :
   PE X (.Call (.Name x p) (e :: es) [] pos) (tCall sp [] E0 t) := pe_fn C hr ha.all.pa hg hdb (ha.all.he ha.tl) (by rw [ha.tl]; exact back_any _ _ _)
theorem yG (hc : CallR X (.builtin id) r) (hg : Gl X x) (hm : X.mg x = none) (hv : bootBuiltins x = some (.builtin id)) (ha : PAt X e es t) (hn : x ≠ "__name__" := by decide) (hdb : (x == ("__debug__" : Str)) = false := by decide) :
   PE X (.Call (.Name x p) (e :: es) [] pos) (tCB r t) := pe_callB hc hg hm hv ha.all.pa hn hdb (ha.all.he ha.tl) (by rw [ha.tl]; exact back_any _ _ _)
theorem as_callTy (hc : CallR X (.type T) r) (hg : Gl X x) (hm : X.mg x = none) (hv : bootBuiltins x = some (.type T)) (ha : PAt X e es t) (hn : x ≠ "__name__" := by decide) (hdb : (x == ("__debug__" : Str)) = false := by decide) :
   PE X (.Call (.Name x p) (e :: es) [] pos) (tCB r t) := pe_callTy hc hg hm hv ha.all.pa hn hdb (ha.all.he ha.tl) (by rw [ha.tl]; exact back_any _ _ _)
end
section
variable {X : Cx} {e a : Expr} {te : TE} {tg : Expr} (K : W.Frag)
theorem k_sl_list (h : X.K = K := by rfl) : SlR X (rSlL K) := h ▸ sl_list
theorem k_ix_list (h : X.K = K := by rfl) : IxR X (rIxL K) := h ▸ ix_list
theorem k_ix_tup (h : X.K = K := by rfl) : IxR X (rIxT K) := h ▸ ix_tup
theorem k_len_seq (h : X.K = K := by rfl) : CallR X (.builtin "len") (fun xs H Q => ∃ p ys, xs = [.ref p] ∧ (SqL K H p ys ∨ SqT K H p ys) ∧ Q (.int ys.length) H) := h ▸ call_len_seq
theorem k_list_of (h : X.K = K := by rfl) : CallR X (.type "list") (fun xs H Q => ∃ p ys, xs = [.ref p] ∧ (SqL K H p ys ∨ SqT K H p ys) ∧ ∀ l, H l = none → Q (.ref l) (upd H l (.lst ys))) := h ▸ call_list_of
theorem k_join (h : X.K = K := by rfl) : MtM X "str.join" (rJoin K) := h ▸ mt_join
theorem k_isi {c : Value} (hu : ∀ cv u, RelV cv c → RelV cv u → u = c) (h : X.K = K := by rfl) : CallR X (.builtin "isinstance") (rIsi K c (isiV K c)) := h ▸ call_isi hu
theorem k_eq0 (hu : X.A.units < cLine) (h : X.K = K := by rfl) : OpR X (compareOp .Eq) (rEq0 K) := h ▸ op_eq0 hu
theorem k_ne0 (hu : X.A.units < cLine) (h : X.K = K := by rfl) : OpR X (compareOp .NotEq) (rNe0 K) := h ▸ op_ne0 hu
theorem k_all (hc : X.calm = true) (h : X.K = K := by rfl) : CallR X (.builtin "all") (fun xs H Q => ∃ (a : Addr) (bs : List Bool), xs = [.ref a] ∧ SqL K H a (bs.map V.bl) ∧ Q (.bl (bs.all id)) H) := h ▸ call_all hc
theorem k_it_list (he : PE X e te) (h : X.K = K := by rfl) : PI X tg e (iList K te) := h ▸ pi_list he
theorem k_it_tup (he : PE X e te) (h : X.K = K := by rfl) : PI X tg e (iTup K te) := h ▸ pi_tup he
theorem k_fld {f : Str} {pos : Pos} (he : PE X e te) (hb : attributeBase e f X.env (eval e X.env) = eval e X.env) (h : X.K = K := by rfl) : PE X (.Attribute e f pos) (tFld K te f) := h ▸ pe_fld he hb
theorem k_tup {es : List Expr} {k : Nat} {t : TGs} {n : Nat} {pos : Pos} (hc : X.calm = true) (hs : PGs X es t) (h : X.K = K := by rfl)
   (hn : (assignEach es X.env).length = n := by rfl) (hst : (assignEach es X.env).findIdx? (·.1) = none := by rfl) : PG X (.Tuple es k pos) (gTup K n t) := h ▸ pg_tup hc hs hn hst
theorem k_bm {o : Expr} {es : List Expr} {to : TE} {t : TA} {name : Str} {apos cpos : Pos} {T id : String} {r : V → List V → Hp → VK → Prop} (pa : PlainAttrs T) (slot : Slot T name id) (hty : typeOf (.builtin id) = pure (.type "method_descriptor")) (hm : MtR X id r) (ho : PE X o to) (ha : PA X (e :: es) t) (h : X.K = K := by rfl)
   (hbase : attributeBase o name X.env (eval o X.env) = eval o X.env := by rfl)
   (hfew : ((backTo cpos (starEach (e :: es) X.env)).all (fun x => !x.1) && (backToKw cpos (keywordEach [] X.env)).all (fun x => x.1.isSome)
     && decide ((e :: es).length + ([] : List Keyword).length + (if ([] : List Keyword).isEmpty then 0 else 1) < 30)) = true := by rfl)
   (hline : (apos.endLine == cpos.line) = true := by rfl) (hs : starEach (e :: es) X.env = (false, eval e X.env) :: starEach es X.env := by rfl) (hplain : (backTo cpos (starEach es X.env)).any (·.1) = false := by rfl) :
   PE X (.Call (.Attribute o name apos) (e :: es) [] cpos) (tBM K T r to t) := h ▸ pe_bm pa slot hty hm ho ha hbase hfew hline hs hplain
end
end L2
namespace L2
open PySem PySem.Spec PyProof.Rows
section
variable {X : Cx} {pins : List (Addr × Obj)} {σ : St} {H : Hp} {s : Shared}
theorem Inv.track {D : Addr} {o : HO} (I : Inv X pins σ H s) (f : FpOk X pins H D) (ok : ObjOk X.prog X.w (upd H D o) s.heap D o) : Inv X pins σ (upd H D o) s := by
 obtain ⟨f0, f1, f2, f3, f4, f5⟩ := f
 have nt : ∀ b u, H b = some u → b ≠ D := fun b u e => qy e f0
 have r := I.step (H' := upd H D o) (h' := s.heap) (g' := s.gens) (d' := s.drawn) (t' := s.toks) (ch := [D]) (fun b hb => by
     obtain rfl : b = D := by simpa using hb
     exact ⟨f3, f1, f4, f5⟩) (fun b ob _ _ _ e _ => e) (fun b ob _ _ _ e _ => ⟨ob.slots, e⟩)
   (fun b ob hb _ n => by rw [qv (fun z => hb (by simp [z]))]; exact n) (fun b ob _ e => ⟨ob, e⟩) (fun b xs e => by rw [qv (nt b _ e)]; exact e) (fun b ob u e => by rw [qv (nt b _ e)]; exact e)
   (fun b ps e => ⟨#[], by rw [qv (nt b _ e), e]; simp⟩) (fun m hm => hm) (fun b u e => by
     by_cases hb : b = D
     · subst hb; rw [qY] at e; cases e; exact ok
     · rw [qv hb] at e
       exact (I.hok b u e).stay (fun c v _ q => q) (fun c q => by rw [qv (nt c _ q)]; exact q) fun c xs q => by rw [qv (nt c _ q)]; exact q) I.bare
 exact r
theorem Inv.upd1 {a : Addr} {f : Array Value → Array Value} {t' : Nat} (I : Inv X pins σ H s) (fa : FpOk X pins H a) : Inv X pins σ H { s with heap := s.heap.update a (Obj.mapSeq f), toks := t' } :=
 I.turned (fun b o hb e => (Heap.SameBut.update s.heap a (Obj.mapSeq f)).extBut b o hb e) fa.1 fa.2.1 fa.2.2.2.1 fa.2.2.2.2.1 fa.2.2.2.2.2
theorem fp_pin {b : Addr} {o : Obj} (f : FpOk X pins H b) (e : s.heap.get? b = some o) (hd : ∀ v, o.data ≠ .cell v) : s.heap.get? b = some o ∧ H b = none ∧ b ≠ X.env.locals ∧ b ∉ X.fs ∧ ∀ v, o.data ≠ .cell v := ⟨e, f.1, f.2.1, f.2.2.1, hd⟩
theorem seq_nocell {T : String} {xs : Array Value} {n : Nat} : ∀ v, (seqObj T xs n).data ≠ .cell v := fun v z => by
 have z' : Data.seq xs n = Data.cell v := z
 cases z'
end
section
variable {X : Cx} {pins : List (Addr × Obj)} {σ : St} {H : Hp} {s : Shared} {A : Around} {E : Value → Shared → Prop} {a kS : Addr} {vs : List Value} {kz : List Int} {keys : Array Value} {e e1 : Nat} {P : PySem.Fin → Shared → Prop}
def SortEnd (X : Cx) (pins : List (Addr × Obj)) (σ : St) (H : Hp) (a : Addr) (kz : List Int) (vs : List Value) (P : PySem.Fin → Shared → Prop) : Prop :=
 ∀ (s' : Shared) (out : Array Value) (c : Nat), Inv X pins σ H s' → s'.heap.get? a = some (seqObj "list" out c) → KskOut false kz vs out.toList → P (.done (.ret .none)) s'
theorem so_tail {st : SortSt} (I : Inv X pins σ H s) (hk1 : s.heap.get? kS = some (seqObj "list" keys e)) (ha1 : s.heap.get? a = some (seqObj "list" #[] e1)) (fk : FpOk X pins H kS) (fa : FpOk X pins H a) (hka : kS ≠ a)
   (hk : IntsAre keys.toList kz) (hlen : kz.length = vs.length) (h64 : vs.length < 64) (hp : (arrOf st).Perm (keys.zip vs.toArray)) (hs : SortedTo (arrOf st) (arrOf st).size) (hfl : failedOf st = none)
   (h : SortEnd X pins σ H a kz vs P) : wpAny (model X.prog X.w) A (ksk_tail a false e1 (.ref kS) st) P E s := by
 have hsz : keys.size = vs.length := by
   have h1 := hk.length
   rw [Array.length_toList] at h1
   omega
 have hsz2 : (arrOf st).size = vs.length := by rw [hp.size_eq, Array.size_zip, hsz, List.size_toArray, Nat.min_self]
 have s1 := Heap.SameBut.update s.heap kS (Obj.mapSeq fun _ => (#[] : Array Value))
 have na1 : (s.heap.update kS (Obj.mapSeq fun _ => (#[] : Array Value))).get? a = some (seqObj "list" #[] e1) := (s1.2 a hka.symm).trans ha1
 obtain ⟨c2, hc2⟩ : ∃ c2, ((s.heap.update kS (Obj.mapSeq fun _ => (#[] : Array Value))).update a (Obj.mapSeq fun _ => (arrOf st).map (·.2))).get? a = some (seqObj "list" ((arrOf st).map (·.2)) c2) :=
   ⟨_, get?_update_seq na1 fun _ => (arrOf st).map (·.2)⟩
 unfold ksk_tail
 try dsimp only
 refine wpAny_bind (listUpdate_at hk1 rfl ?_ (by rw [hsz, sizeLine_eq]; omega) (Nat.zero_le _))
 refine wpAny_bind (wpAny_letGo ?_)
 refine wpAny_bind (seqEpoch_at na1 rfl ?_)
 refine wpAny_bind (listUpdate_at na1 rfl ?_ (Nat.zero_le _) (by simp only [Bool.false_eq_true, if_false, Array.size_map]; rw [hsz2, sizeLine_eq]; omega))
 rw [hfl]
 simp only [bne_self_eq_false, Bool.false_eq_true, if_false]
 refine wpAny_pure (h _ _ c2 ?_ hc2 (ksk_out (b := false) hk hp hs))
 exact (I.upd1 (t' := s.toks) fk).upd1 (t' := s.toks) fa
theorem so_end (I : Inv X pins σ H s) (hk1 : s.heap.get? kS = some (seqObj "list" keys e)) (ha1 : s.heap.get? a = some (seqObj "list" #[] e1)) (fk : FpOk X pins H kS) (fa : FpOk X pins H a) (hka : kS ≠ a)
   (hk : IntsAre keys.toList kz) (hlen : kz.length = vs.length) (h64 : vs.length < 64) (h : SortEnd X pins σ H a kz vs P) : wpAny (model X.prog X.w) A (ksk_end a false vs.toArray e1 (.ref kS) keys) P E s := by
 have hsz : keys.size = vs.length := by
   have h1 := hk.length
   rw [Array.length_toList] at h1
   omega
 have hzs : (keys.zip vs.toArray).size = vs.length := by rw [Array.size_zip, hsz, List.size_toArray, Nat.min_self]
 unfold ksk_end
 try dsimp only
 simp only [Bool.false_eq_true, if_false]
 by_cases h2 : vs.toArray.size < 2
 · rw [if_pos h2, if_pos h2]
   refine wpAny_bind (wpAny_pure ?_)
   rw [StateT.run_pure]
   refine wpAny_bind (wpAny_pure ?_)
   try dsimp only
   refine so_tail (st := SortSt.mk' general' (keys.zip vs.toArray) #[] 7 none) I hk1 ha1 fk fa hka hk hlen h64 (Array.Perm.refl _) ?_ rfl h
   intro i j hij hj
   have hj2 : j < (keys.zip vs.toArray).size := hj
   rw [hzs] at hj2
   rw [List.size_toArray] at h2
   have : i = j := by omega
   subst this
   exact Int.le_refl _
 · rw [if_neg h2, if_neg h2]
   rw [List.size_toArray] at h2
   rw [ksk_kind hk (by rw [hsz]; omega)]
   refine wpAny_bind (wpAny_pure ?_)
   refine wpAny_bind (wpAny_mono (wpS_sortRuns (a₀ := keys.zip vs.toArray) (st := SortSt.mk' oneType' (keys.zip vs.toArray) #[] 7 none)
     (Q := fun _ st' => (arrOf st').Perm (keys.zip vs.toArray) ∧ failedOf st' = none ∧ SortedTo (arrOf st') (keys.zip vs.toArray).size)
     (ksk_intKeys hk) ⟨Array.Perm.refl _, rfl, rfl, rfl⟩ (by rw [hzs]; omega) (by rw [hzs]; exact h64) fun st' a1 a2 a3 => ⟨a1, a2, a3⟩) ?_ fun _ _ e => e)
   rintro ⟨⟨⟩, st'⟩ s' ⟨rfl, hp, hf, hs⟩
   try dsimp only
   exact so_tail I hk1 ha1 fk fa hka hk hlen h64 hp (by rw [hp.size_eq]; exact hs) hf h
def KeyTurn (X : Cx) (σ : St) (H : Hp) (A : Around) (f : Value) (vs : List Value) (kz : List Int) : Prop :=
 ∀ (i : Nat) (v : Value) (k : Int) (pins : List (Addr × Obj)) (s : Shared), vs[i]? = some v → kz[i]? = some k → Inv X pins σ H s → wpAny (model X.prog X.w) A (call f [v]) (fun u s' => (∃ t, u = .int k t) ∧ Inv X pins σ H s') (fun _ _ => False) s
theorem so_rest {f : Value} (I : Inv X pins σ H s) (hk1 : s.heap.get? kS = some (seqObj "list" #[] 0)) (ha1 : s.heap.get? a = some (seqObj "list" #[] e1)) (fk : FpOk X pins H kS) (fa : FpOk X pins H a) (hka : kS ≠ a)
   (hlen : kz.length = vs.length) (h64 : vs.length < 64) (turn : KeyTurn X σ H A f vs kz) (h : SortEnd X pins σ H a kz vs P) : wpAny (model X.prog X.w) A (ksk_rest a f false vs.toArray e1 (.ref kS)) P E s := by
 unfold ksk_rest
 refine wpAny_bind (wpAny_rule ?_)
 first
   | rw [List.forIn_toArray]
   | (rw [← Array.forIn_toList]; simp only [List.toList_toArray])
   | rw [← Array.forIn_toList]
 refine wpAny_bind (ksk_fold (fun i s' => ∃ kA e, Inv X pins σ H s' ∧ s'.heap.get? kS = some (seqObj "list" kA e) ∧ s'.heap.get? a = some (seqObj "list" #[] e1) ∧ IntsAre kA.toList (kz.take i)) vs 0 s
   ⟨#[], 0, I, hk1, ha1, by simpa using IntsAre.nil⟩ ?step ?done)
 case step =>
   rintro j x s' hx ⟨kA, e, I', hk', ha', hk⟩
   simp only [Nat.zero_add] at hk ⊢
   have hj : j < vs.length := (List.getElem?_eq_some_iff.mp hx).1
   obtain ⟨k, hkj⟩ : ∃ k, kz[j]? = some k := ⟨_, List.getElem?_eq_getElem (by omega)⟩
   have hz : kA.size ≤ vs.length := by
     have h1 := hk.length
     rw [Array.length_toList, List.length_take] at h1
     omega
   have Ip : Inv X (pins ++ [(kS, seqObj "list" kA e), (a, seqObj "list" #[] e1)]) σ H s' := I'.pins_of fun p hp => by
     rcases List.mem_append.mp hp with q | q
     · exact I'.pin p (List.mem_append_right _ q)
     · rcases List.mem_cons.mp q with rfl | q
       · exact fp_pin fk hk' seq_nocell
       · rw [List.mem_singleton.mp q]; exact fp_pin fa ha' seq_nocell
   refine wpAny_bind (wpAny_attempt (wpAny_mono (turn j x k _ s' hx hkj Ip) (fun v s'' he => ?_) fun _ _ hF => hF.elim))
   obtain ⟨⟨t2, rfl⟩, I2⟩ := he
   try dsimp only
   have nk := (I2.pin (kS, seqObj "list" kA e) (by simp)).1
   have na := (I2.pin (a, seqObj "list" #[] e1) (by simp)).1
   have J2 : Inv X pins σ H s'' := I2.unpinned
   obtain ⟨c2, hc2⟩ : ∃ c2, (s''.heap.update kS (Obj.mapSeq (·.push (.int k t2)))).get? kS = some (seqObj "list" (kA.push (.int k t2)) c2) := ⟨_, get?_update_seq nk (·.push (.int k t2))⟩
   have ek : kz.take (j + 1) = kz.take j ++ [k] := by rw [List.take_add_one, hkj]; simp
   have ea : (kA.push (Value.int k t2)).toList = kA.toList ++ [Value.int k t2] := by simp
   refine wpAny_bind (listUpdate_at nk rfl ?_ (by rw [sizeLine_eq]; omega) (Nat.le_trans (Nat.le_of_eq (Array.size_push ..)) (by rw [sizeLine_eq]; omega)))
   refine wpAny_pure ⟨rfl, kA.push (.int k t2), c2, J2.upd1 (t' := s''.toks) fk, hc2, ?_, by rw [ea, ek]; exact ksk_snoc hk⟩
   exact ((Heap.SameBut.update s''.heap kS (Obj.mapSeq (·.push (.int k t2)))).2 a hka.symm).trans na
 case done =>
   rintro s' ⟨kA, e, I', hk', ha', hk⟩
   have hk2 : IntsAre kA.toList kz := by
     have e3 : kz.take (0 + vs.length) = kz := List.take_of_length_le (by omega)
     rw [e3] at hk
     exact hk
   try dsimp only
   refine wpAny_bind (listItems_at hk' rfl ?_)
   exact so_end I' hk' ha' fk fa hka hk2 hlen h64 h
theorem so_tree {f : Value} {n : Nat} (I : Inv X pins σ H s) (ho : s.heap.get? a = some (seqObj "list" vs.toArray n)) (fa : FpOk X pins H a) (hlen : kz.length = vs.length) (h64 : vs.length < 64)
   (turn : KeyTurn X σ H A f vs kz) (h : SortEnd X pins σ H a kz vs P) : wpAny (model X.prog X.w) A (ksk_tree a f false) P E s := by
 have ha : a < s.heap.objs.size := Heap.lt_size ho
 obtain ⟨e1, ho1⟩ : ∃ e1, (s.heap.update a (Obj.mapSeq fun _ => (#[] : Array Value))).get? a = some (seqObj "list" #[] e1) := ⟨_, get?_update_seq ho fun _ => #[]⟩
 have I1 := I.upd1 (t' := s.toks) (f := fun _ => (#[] : Array Value)) fa
 have hkS : ((s.heap.update a (Obj.mapSeq fun _ => (#[] : Array Value))).push (seqObj "tuple" vs.toArray 0)).objs.size = s.heap.objs.size + 1 := by rw [size_push', Heap.size_update]
 unfold ksk_tree
 refine wpAny_bind (listItems_at ho rfl ?_)
 refine wpAny_bind (listUpdate_at ho rfl ?_ (by rw [List.size_toArray, sizeLine_eq]; omega) (Nat.zero_le _))
 refine wpAny_bind (seqEpoch_at ho1 rfl ?_)
 refine wpAny_bind (wpAny_newTuple ?_ (by show vs.length ≤ _; rw [sizeLine_eq]; omega))
 refine wpAny_bind (wpAny_newList ?_ (Nat.zero_le _))
 refine wpAny_holding ?_
 have I2 : Inv X pins σ H { s with heap := (s.heap.update a (Obj.mapSeq fun _ => (#[] : Array Value))).push (seqObj "tuple" vs.toArray 0) } := I1.kept (t' := s.toks) fun b o e => Heap.get?_push_of_some _ e
 have I3 : Inv X pins σ H { s with heap := ((s.heap.update a (Obj.mapSeq fun _ => (#[] : Array Value))).push (seqObj "tuple" vs.toArray 0)).push (seqObj "list" #[] 0) } := I2.kept (t' := s.toks) fun b o e => Heap.get?_push_of_some _ e
 have fk : FpOk X pins H ((s.heap.update a (Obj.mapSeq fun _ => (#[] : Array Value))).push (seqObj "tuple" vs.toArray 0)).objs.size := I2.fpOk (Nat.le_refl _) (I2.hok.fresh (Nat.le_refl _))
 exact so_rest I3 (Heap.get?_push_size _ rfl) (Heap.get?_push_of_some _ (Heap.get?_push_of_some _ ho1)) fk fa (by rw [hkS]; exact Nat.ne_of_gt (Nat.lt_succ_of_lt ha)) hlen h64 turn h
end
end L2
namespace L2
open PySem PySem.Spec PyProof.Rows
def Coll (X : Cx) (x : V) (H : Hp) (xs : List V) : Prop :=
 ∀ (pins : List (Addr × Obj)) (s : Shared) (σ : St) (v : Value) (A : Around) (E : Value → Shared → Prop) (Q : List Value → Shared → Prop), Inv X pins σ H s → RelV x v → A.handled = none →
   (∀ vs s', Vals xs vs → Inv X pins σ H s' → Q vs s') → wpAny (model X.prog X.w) A (collect v) Q E s
def SortedBy (kz : List Int) (xs ys : List V) : Prop := ∃ ps : List (Int × V), ps.Perm (kz.zip xs) ∧ ys = ps.map Prod.snd ∧ ps.Pairwise (fun p q => p.1 ≤ q.1)
def absV' (u : Value) : V := (absV u).getD .non
theorem abs_map : ∀ {xs : List V} {vs : List Value}, Vals xs vs → vs.map absV' = xs
 | _, _, .nil => rfl
 | _, _, .cons r t => by rw [List.map_cons, abs_map t]; unfold absV'; rw [r.abs]; rfl
theorem vals_mem : ∀ {xs : List V} {vs : List Value}, Vals xs vs → ∀ u ∈ vs, RelV (absV' u) u
 | _, _, .nil, u, h => nomatch h
 | _, _, .cons r t, u, h => by
   rcases List.mem_cons.mp h with q | q
   · rw [q]; unfold absV'; rw [r.abs]; exact r
   · exact vals_mem t u q
theorem vals_abs : ∀ {us : List Value}, (∀ u ∈ us, RelV (absV' u) u) → Vals (us.map absV') us
 | [], _ => .nil
 | u :: r, h => .cons (h u List.mem_cons_self) (vals_abs fun v hv => h v (List.mem_cons_of_mem _ hv))
theorem zip_map_snd {α β γ : Type} (f : β → γ) : ∀ (l : List α) (m : List β), (l.zip m).map (fun p => (p.1, f p.2)) = l.zip (m.map f)
 | [], _ => rfl
 | _ :: _, [] => rfl
 | a :: l, b :: m => by simp [zip_map_snd f l m]
theorem out_abs {kz : List Int} {xs : List V} {vs out : List Value} (rv : Vals xs vs) (h : KskOut false kz vs out) : ∃ ys, Vals ys out ∧ SortedBy kz xs ys ∧ ys.length ≤ vs.length := by
 obtain ⟨ps, h1, h2, h3⟩ := h
 have hm : ∀ u ∈ out, RelV (absV' u) u := fun u hu => by
   rw [h2] at hu
   obtain ⟨p, hp, rfl⟩ := List.mem_map.mp hu
   have := h1.mem_iff.mp hp
   obtain ⟨x, y⟩ := p
   exact vals_mem rv _ (List.of_mem_zip this).2
 refine ⟨out.map absV', vals_abs hm, ⟨ps.map (fun p => (p.1, absV' p.2)), ?_, ?_, ?_⟩, ?_⟩
 · have := h1.map (fun p : Int × Value => (p.1, absV' p.2))
   rw [zip_map_snd, abs_map rv] at this
   exact this
 · rw [h2, List.map_map, List.map_map]; rfl
 · rw [List.pairwise_map]
   exact h3.imp fun {p q} hpq => by simpa using hpq
 · rw [List.length_map, h2, List.length_map, h1.length_eq, List.length_zip]; exact Nat.min_le_right _ _
section
variable {X : Cx}
theorem so_sorted {pins : List (Addr × Obj)} {σ : St} {H : Hp} {s : Shared} {f : Addr} {x : V} {v : Value} {xs : List V} {kz : List Int} {Q : VK} (hc : X.calm = true) (I : Inv X pins σ H s) (rx : RelV x v) (hx : Coll X x H xs) (hlen : kz.length = xs.length) (h64 : xs.length < 64)
   (turn : ∀ vs, Vals xs vs → KeyTurn X σ H X.A.in1.in1 (.ref f) vs kz) (q : ∀ ys p, SortedBy kz xs ys → H p = none → Q (.ref p) (upd H p (.lst ys))) :
   wpAny (model X.prog X.w) X.A (call (.builtin "sorted") [v] [(Str.ofString "key", .ref f)]) (EP X pins σ Q) X.xe s := by
 refine call_function_entry_kw kind_sorted plain_sorted entry_sorted (ksk_s1 _ _) ?_
 unfold Builtin.«sorted»
 refine wpAny_bind (m := checkCount "sorted" 1 1 _) (wpAny_pure ?_)
 refine wpAny_bind (hx pins s σ v _ _ _ I rx (I.ok.hd hc) fun vs s1 rv I1 => ?_)
 have hl := rv.length
 refine wpAny_bind (wpAny_newList ?_ (by rw [sizeLine_eq]; omega))
 have I2 : Inv X pins σ H { s1 with heap := s1.heap.push (seqObj "list" vs.toArray 0) } := I1.kept (t' := s1.toks) fun b o e => Heap.get?_push_of_some _ e
 have fD : FpOk X pins H s1.heap.objs.size := I1.fpOk (Nat.le_refl _) (I1.hok.fresh (Nat.le_refl _))
 have hoL : (s1.heap.push (seqObj "list" vs.toArray 0)).get? s1.heap.objs.size = some (seqObj "list" vs.toArray 0) := Heap.get?_push_size _ rfl
 refine wpAny_bind (wpAny_holding (wpAny_call_entry_kw slot_list_sort ⟨_, hoL, rfl⟩ entry_list_sort ?body (ksk_l1 _ _)))
 case body =>
   show wpAny (model X.prog X.w) X.A.in1.in1 (Builtin.«list.sort» ⟨[.ref s1.heap.objs.size], [(Str.ofString "key", .ref f)]⟩) _ _ _
   rw [ksk_t1]
   refine so_tree I2 hoL fD (by rw [hlen, hl]) (by omega) (turn vs rv) fun s' out c I' ho' ko => ⟨_, rfl, ?_⟩
   obtain ⟨ys, ry, hs, hle⟩ := out_abs rv ko
   refine wpAny_pure ⟨_, rfl, .ref s1.heap.objs.size, upd H s1.heap.objs.size (.lst ys), I'.track fD ⟨?_, out.toList, c, ry, ?_⟩, rfl, q ys _ hs fD.1⟩
   · rw [sizeLine_eq]; omega
   · rw [ho']
theorem coll_list {a : Addr} {H : Hp} {xs : List V} (h : SqL X.K H a xs) : Coll X (.ref a) H xs := by
 intro pins s σ v A E Q I r hh hq
 cases r
 obtain ⟨its, rv, pl, hz⟩ := I.list h
 refine collect_list pl.isList (hq its _ rv ?_) (by rw [← rv.length]; exact hz)
 refine I.kept (t' := s.toks) fun b o e => ?_
 have hb : b ≠ s.heap.objs.size := Nat.ne_of_lt (Heap.lt_size e)
 exact (Heap.get?_update_other _ _ (Ne.symm hb)).trans (Heap.get?_push_of_some _ e)
def ValsO (p d : Addr) : HO := .ext fun h => h.IsValuesView p d
def rValues : V → List V → Hp → VK → Prop := fun x vs H Q => ∃ d kvs, x = .ref d ∧ vs = [] ∧ H d = some (.dK kvs) ∧ ∀ p, H p = none → Q (.ref p) (upd H p (ValsO p d))
theorem mt_values : MtM X "dict.values" rValues := by
 intro pins s σ H x vs v us Q I rx rv h
 obtain ⟨d, kvs, rfl, rfl, hd, q⟩ := h
 cases rx
 cases Vals.zero rv
 obtain ⟨hz, lo, ws, rk, hD⟩ := (show ObjOk X.prog X.w H s.heap d (.dK kvs) from I.hok d _ hd)
 refine call_meetsIn PySem.F.slot_dict_values hD.typeIs PySem.F.entry_dict_values (PySem.F.args_dict_values_1 _) (meets_dict_values (yw X.prog X.w) d lo) ⟨⟨ws, hD⟩, ?_⟩
 refine ⟨.ref s.heap.objs.size, _, I.laid (t' := s.toks) (o := ValsO s.heap.objs.size d) (fun b u e => Heap.get?_push_of_some _ e) (Nat.le_refl _) ?_, rfl, q _ (I.hok.fresh (Nat.le_refl _))⟩
 have e : (s.heap.push { cls := .type "dict_values", data := .fields #[.ref d] }).get? s.heap.objs.size = some { cls := .type "dict_values", data := .fields #[.ref d] } := Heap.get?_push_size _ rfl
 exact ⟨⟨_, e, rfl, rfl⟩, ⟨_, e⟩, fun h1 h2 ⟨o, e1, c, dd⟩ k => ⟨o, k o e1, c, dd⟩⟩
theorem kv_vals : ∀ {kvs : List (Key × V)} {ws : List (Key × Value)}, KV kvs ws → Vals (kvs.map (·.2)) (ws.map (·.2))
 | _, _, .nil => .nil
 | _, _, .cons r t => .cons r.2 (kv_vals t)
theorem view_at {pins : List (Addr × Obj)} {σ : St} {H : Hp} {s : Shared} {p d : Addr} {kvs : List (Key × V)} (I : Inv X pins σ H s) (hp : H p = some (ValsO p d)) (hd : H d = some (.dK kvs)) :
   ∃ ws ep, KV kvs ws ∧ kvs.length ≤ sizeLine ∧ s.heap.IsValuesView p d ∧ s.heap.DictAt (yw X.prog X.w) d ws ep := by
 obtain ⟨hz, lo, ws, rk, hD⟩ := (show ObjOk X.prog X.w H s.heap d (.dK kvs) from I.hok d _ hd)
 obtain ⟨hv, _, _⟩ := (show ObjOk X.prog X.w H s.heap p (ValsO p d) from I.hok p _ hp)
 obtain ⟨ep, hat⟩ := hD.dictAt
 exact ⟨ws, ep, rk, hz, hv, hat⟩
theorem items_vals {ws : List (Key × Value)} {acc : Array Value} (h : ItemsOf (fun i v => ∃ k, ws[i]? = some (k, v)) acc ws.length) : acc.toList = ws.map (·.2) :=
 W.kdl_vals_eq acc.toList (by rw [Array.length_toList]; exact h.1) fun j v e => h.2 j v (by rw [← Array.getElem?_toList]; exact e)
theorem coll_vals {p d : Addr} {H : Hp} {kvs : List (Key × V)} (hp : H p = some (ValsO p d)) (hd : H d = some (.dK kvs)) : Coll X (.ref p) H (kvs.map (·.2)) := by
 intro pins s σ v A E Q I r hh hq
 cases r
 obtain ⟨ws, ep, rk, hz, hv, hat⟩ := view_at I hp hd
 have hl : kvs.length = ws.length := Paired.length rk
 have kp : ∀ b o, s.heap.get? b = some o → (s.heap.push (seqObj "list" #[] 0)).get? b = some o := fun b o e => Heap.get?_push_of_some _ e
 have hv' : (s.heap.push (seqObj "list" #[] 0)).IsValuesView p d := let ⟨o, e, x⟩ := hv; ⟨o, kp _ _ e, x⟩
 have hat' : (s.heap.push (seqObj "list" #[] 0)).DictAt (yw X.prog X.w) d ws ep := hat.at' fun o e => kp _ _ e
 have lp : p < s.heap.objs.size := let ⟨o, e, _⟩ := hv; Heap.lt_size e
 have ld : d < s.heap.objs.size := hat.lt_size
 unfold collect
 refine wpAny_bind (wpAny_runValue (codeAny_builtin entry_proto_collect' ?_))
 show wpAny _ _ (do again (.builtin "list.__iadd__" ⟨[← newList [], .ref p], []⟩)) _ _ s
 refine wpAny_bind (wpAny_newList (wpAny_pure ⟨Code.quiet_builtin _ (by decide +kernel), codeAny_builtin entry_list_iadd' ?_⟩))
 show wpAny _ _ (Builtin.List.listExtendWith (.ref s.heap.objs.size) (.ref p) (.ref s.heap.objs.size)) _ _ { s with heap := s.heap.push (seqObj "list" #[] 0) }
 rw [Around.under_plainId (show plainId "list.__iadd__" = true by decide +kernel) _]
 have fin : ∀ s' : Shared, (∃ acc c, s'.heap.get? s.heap.objs.size = some { cls := .type "list", dict := none, data := .seq acc c, slots := #[] } ∧ acc.toList = ws.map (·.2) ∧ Inv X pins σ H s') →
     wpAny (model X.prog X.w) A (do
       let o ← load s.heap.objs.size
       match o.data with
       | .seq xs _ => pure xs.toList
       | _ => unsupported "internal:collect") Q E s' := by
   rintro s' ⟨acc, c, hS, e, I'⟩
   refine wpAny_bind (wpAny_load hS ?_)
   show wpAny _ _ (pure acc.toList) Q E _
   exact wpAny_pure (hq _ _ (by rw [e]; exact kv_vals rk) I')
 refine wpAny_mono (W.kdl_extend (R := fun r s' => r = .ok (.ret (.ref s.heap.objs.size)) ∧ ∃ acc c, s'.heap.get? s.heap.objs.size = some { cls := .type "list", dict := none, data := .seq acc c, slots := #[] } ∧ acc.toList = ws.map (·.2) ∧ Inv X pins σ H s')
   (s := { s with heap := s.heap.push (seqObj "list" #[] 0) }) (W.kdl_values (knd := yw X.prog X.w) (kvs := ws) (ep := ep)) hh ⟨hv', hat'⟩ s.heap.objs.size (Nat.ne_of_gt lp) (Nat.ne_of_gt ld) _ 0 (Heap.get?_push_size _ rfl) (fun h' tk acc c hk hS hacc => ?_) (show ws.length ≤ sizeLine by omega))
   (fun fi s' hf => ?_) (fun e s' he => nomatch he.1)
 · exact ⟨rfl, acc, c, hS, items_vals hacc, I.kept fun b o eb => hk b o (Nat.ne_of_lt (Heap.lt_size eb)) (kp b o eb)⟩
 · cases fi with
   | done f =>
     obtain ⟨e, g⟩ := hf
     cases e
     exact fin s' g
   | again c' =>
     refine ⟨hf.1, codeAny_mono hf.2 fun r s2 ⟨e, g⟩ => ?_⟩
     subst e
     exact fin s2 g
end
def spItem (i : Nat) : Sp := fun vs H Q _ => ∃ a x y z, vs = [.ref a] ∧ H a = some (.tup [x, y, z]) ∧ Q ([x, y, z].getD i .non) H
def CollV (K : W.Frag) (x : V) (H : Hp) (xs : List V) : Prop :=
 (∃ a, x = .ref a ∧ SqL K H a xs) ∨ ∃ p d kvs, x = .ref p ∧ H p = some (ValsO p d) ∧ H d = some (.dK kvs) ∧ xs = kvs.map (·.2)
theorem CollV.coll {X : Cx} {x : V} {H : Hp} {xs : List V} (h : CollV X.K x H xs) : Coll X x H xs := by
 rcases h with ⟨a, rfl, h⟩ | ⟨p, d, kvs, rfl, hp, hd, rfl⟩
 · exact coll_list h
 · exact coll_vals hp hd
def NumAll (H : Hp) (xs : List V) (kz : List Int) : Prop := kz.length = xs.length ∧ ∀ (i : Nat) x k, xs[i]? = some x → kz[i]? = some k → ∃ a y z, x = .ref a ∧ H a = some (.tup [.int k, y, z])
def rSortN (K : W.Frag) (x : V) (H : Hp) (Q : VK) : Prop := ∃ xs kz, CollV K x H xs ∧ xs.length < 64 ∧ NumAll H xs kz ∧ ∀ ys p, SortedBy kz xs ys → H p = none → Q (.ref p) (upd H p (.lst ys))
theorem Vals.back : ∀ {xs : List V} {vs : List Value} {i : Nat} {v : Value}, Vals xs vs → vs[i]? = some v → ∃ x, xs[i]? = some x ∧ RelV x v
 | _, _, _, _, .nil, e => by simp at e
 | _, _, 0, _, .cons r _, e => by simp at e; subst e; exact ⟨_, rfl, r⟩
 | _, _, i + 1, v, .cons _ t, e => by
   obtain ⟨u, h1, h2⟩ := Vals.back (i := i) (v := v) t (by simpa using e)
   exact ⟨u, by simpa using h1, h2⟩
section
variable {X : Cx} {e : Expr} {te : TE} {p p2 kpos pos : Pos} {x : Str} {ps : List Str}
theorem key_turn {f : Addr} {fd : FuncData} {σ : St} {H : Hp} {xs : List V} {kz : List Int} (F : FnOk X.prog X.w X.K X.mg X.base CX0 1 f fd ps (spItem 0)) (hps : ps.length = 1) (hb : Binds X.K fd ps []) (hr : Room 3 X.A) (hn : NumAll H xs kz) :
   ∀ vs, Vals xs vs → KeyTurn X σ H X.A.in1.in1 (.ref f) vs kz := by
 intro vs rv i v k pins s hv hk I
 obtain ⟨x, hx, rx⟩ := rv.back hv
 obtain ⟨a, y, z, rfl, ha⟩ := hn.2 i x k hx hk
 cases rx
 refine wpAny_call (codeAny_mono (F.run X.A.in1.in1 X.stack s H ⟨[.ref a], []⟩ [.ref a] [.ref a] (fun v' H' => v' = .int k ∧ H' = H) E0 hr.in1.in1 I.env0.in1.in1 (by
     have := hb s [.ref a] I.kIn (by simp [hps])
     simpa using this) (.cons rfl .nil) ⟨a, _, _, _, rfl, ha, rfl, rfl⟩) fun r s' hq => ?_)
 cases r with
 | error e => exact (show False from hq).elim
 | ok fl =>
   cases fl with
   | ret u =>
     obtain ⟨v', H', I', ru, e1, e2⟩ := I.after hq
     subst e1 e2
     exact ⟨ru, I'⟩
   | next => exact False.elim hq
   | brk => exact False.elim hq
   | cont => exact False.elim hq
theorem k_sortN (K : W.Frag) (C : Callee X.prog X.w X.K X.mg X.base 1 x ["message"] (spItem 0)) (hr : Room 3 X.A) (hc : X.calm = true) (he : PE X e te) (hm : X.mg "sorted" = none) (h : X.K = K := by rfl) (hg : Gl X "sorted" := by rfl) (hgx : Gl X x := by rfl) (hp : plainE e = true := by rfl)
   (hdx : (x == ("__debug__" : Str)) = false := by decide) :
   PE X (.Call (.Name "sorted" p) [e] [⟨some "key", .Name x p2, kpos⟩] pos) (tUn (rSortN K) te) := by
 subst h
 obtain ⟨f, fd, F, hmx, hk, hb⟩ := C.ex
 intro pins s σ H Q I hw
 refine wpAny_Call_Name_kw (ld_blt I hg hm boot_sorted ?_)
 refine callWith_kw ?_ (by rw [star_of hp]; rfl) (by rw [star_of hp]; rfl)
 rw [star_of hp]
 show wpAny _ _ (spliced ((false, eval e X.env) :: backTo pos (starEach [] X.env))) _ _ s
 refine Calls.spliced_cons (thn (he pins s σ H _ I hw) fun u s1 ⟨xv, H1, I1, r1, q1⟩ => Calls.spliced_nil ?_)
 have hkv := pk_cons (nm := some "key") (kpos := kpos) (pe_glob (pos := p2) hgx hmx (v := .ref f) rfl hdx) (pk_nil (X := X)) pos pins s1 σ H1 (fun zs H2 => zs = [.ref f] ∧ H2 = H1) I1 ⟨rfl, rfl⟩
 refine thn hkv fun ws s2 ⟨zs, H2, I2, rz, e1, e2⟩ => ?_
 subst e1 e2
 obtain ⟨w1, rfl, rw1⟩ := rz.one
 cases rw1
 obtain ⟨xs, kz, h1, h2, h3, q⟩ := q1
 exact so_sorted hc I2 r1 h1.coll h3.1 h2 (key_turn F rfl hb hr h3) q
end
end L2
namespace L2
open PySem PySem.Spec PyProof.Rows PySem.W
theorem asc_wp {cmp : Nat → Nat → (Bool → Shared → Prop) → Shared → Prop} {n : Nat} {s : Shared} {G : Nat → Shared → Prop} (p : Array Nat) (hp : ∀ i, i < n → p.getD i 0 = i) (hc : ∀ i, 1 ≤ i → i < n → ∀ C, C false s → cmp i (i - 1) C s) :
   ∀ (f k : Nat), 1 ≤ k → k + f = n → G n s → (kas_asc p f k).kasWp cmp G s
 | 0, k, _, e, h => by
   have : k = n := by omega
   subst this
   exact h
 | f + 1, k, hk, e, h => by
   show cmp (p.getD k 0) (p.getD (k - 1) 0) (fun c s' => (if c = true then KasT.ret k else kas_asc p f (k + 1)).kasWp cmp G s') s
   rw [hp k (by omega), hp (k - 1) (by omega)]
   refine hc k hk (by omega) _ ?_
   show (if false = true then KasT.ret k else kas_asc p f (k + 1)).kasWp cmp G s
   rw [if_neg Bool.false_ne_true]
   exact asc_wp p hp hc f (k + 1) (by omega) (by omega) h
theorem sort_asc {cmp : Nat → Nat → (Bool → Shared → Prop) → Shared → Prop} {n : Nat} {s : Shared} {G : Array Nat → Shared → Prop} (hn : 1 ≤ n) (hc : ∀ i, 1 ≤ i → i < n → ∀ C, C false s → cmp i (i - 1) C s) (h : G (List.range n).toArray s) : (kas_sort n).kasWp cmp G s := by
 unfold kas_sort
 rw [KasT.kasWp_bind]
 unfold kas_count
 rw [KasT.kasWp_bind]
 refine asc_wp _ (fun i hi => by simp [Array.getD, hi]) hc (n - 1) 1 (Nat.le_refl _) (by omega) ?_
 rw [if_pos (by simp)]
 show (if n < n then _ else KasT.ret _).kasWp cmp G s
 rw [if_neg (Nat.lt_irrefl _)]
 exact h
theorem getD_range (vs : List Value) : (List.range vs.length).map (fun i => vs.getD i Value.none) = vs := by
 refine List.ext_getElem (by simp) fun i h1 h2 => ?_
 simp at h1
 simp [List.getD, h1]
section
variable {X : Cx} {pins : List (Addr × Obj)} {σ : St} {H : Hp} {s : Shared} {A : Around} {E : Value → Shared → Prop} {a : Addr} {vs : List Value} {P : PySem.Fin → Shared → Prop}
def RiseAt (h : Heap) (vs : List Value) : Prop := ∃ ks : List Int, ks.length = vs.length ∧ ks.Pairwise (· < ·) ∧ ∀ (i : Nat) v k, vs[i]? = some v → ks[i]? = some k → ∃ a o xs n t, v = .ref a ∧ h.get? a = some o ∧ o.cls = .type "tuple" ∧ o.data = .seq xs n ∧ xs[0]? = some (.int k t)
theorem tups_of {h : Heap} : ∀ {vs : List Value} {ks : List Int}, ks.length = vs.length → (∀ (i : Nat) v k, vs[i]? = some v → ks[i]? = some k → ∃ a o xs n t, v = .ref a ∧ h.get? a = some o ∧ o.cls = .type "tuple" ∧ o.data = .seq xs n ∧ xs[0]? = some (Value.int k t)) →
   ∃ fs, KatTups h vs fs ∧ fs.length = vs.length ∧ ∀ v ∈ fs, ∃ k t, v = Value.int k t
 | [], [], _, _ => ⟨[], trivial, rfl, fun _ h => nomatch h⟩
 | [], _ :: _, e, _ => by simp at e
 | _ :: _, [], e, _ => by simp at e
 | v :: vs, k :: ks, e, hh => by
   obtain ⟨fs, h1, h2, h3⟩ := tups_of (vs := vs) (ks := ks) (by simpa using e) fun i v' k' a1 a2 => hh (i + 1) v' k' (by simpa using a1) (by simpa using a2)
   obtain ⟨a, o, xs, n, t, rfl, ho, hc, hd, hx⟩ := hh 0 v k rfl rfl
   refine ⟨.int k t :: fs, ⟨⟨a, o, xs, n, rfl, ho, hc, hd, hx⟩, h1⟩, by simp [h2], fun u hu => ?_⟩
   rcases List.mem_cons.mp hu with q | q
   · exact ⟨k, t, q⟩
   · exact h3 u q
theorem lt_tups {x y : Addr} {ox oy : Obj} {xs ys : Array Value} {n k : Nat} {i j : Int} {t u : Tok} {Q : Bool → Shared → Prop} (hx : s.heap.get? x = some ox) (dx : ox.data = .seq xs n) (hy : s.heap.get? y = some oy) (dy : oy.data = .seq ys k) (fx : xs[0]? = some (.int i t)) (fy : ys[0]? = some (.int j u))
   (hij : i ≠ j) (h : Q (decide (i < j)) s) : wpAny (model X.prog X.w) A (keyLt' (tuples' true) (.ref x) (.ref y)) Q E s := by
 refine kat_lt hx dx hy dy ?_
 obtain ⟨xr, ex⟩ : ∃ r, xs.toList = .int i t :: r := by
   cases q : xs.toList with
   | nil => rw [← Array.getElem?_toList, q] at fx; cases fx
   | cons z r => rw [← Array.getElem?_toList, q] at fx; cases fx; exact ⟨r, rfl⟩
 obtain ⟨yr, ey⟩ : ∃ r, ys.toList = .int j u :: r := by
   cases q : ys.toList with
   | nil => rw [← Array.getElem?_toList, q] at fy; cases fy
   | cons z r => rw [← Array.getElem?_toList, q] at fy; cases fy; exact ⟨r, rfl⟩
 rw [ex, ey]
 show KatLex X.prog X.w A true _ Q ((Value.int i t, Value.int j u) :: xr.zip yr) 0 s
 refine kat_cons (SeqAt.EqAt.int_int i t j u X.prog X.w _ _ ?_)
 have e : (i == j) = false := beq_eq_false_iff_ne.mpr hij
 rw [e]
 exact kat_no (oneLt_int h)
theorem so_plain {n : Nat} (I : Inv X pins σ H s) (ho : s.heap.get? a = some (seqObj "list" vs.toArray n)) (fa : FpOk X pins H a) (h64 : vs.length < 64) (rise : ∀ s', Inv X pins σ H s' → RiseAt s'.heap vs)
   (h : ∀ (s' : Shared) (c : Nat), Inv X pins σ H s' → s'.heap.get? a = some (seqObj "list" vs.toArray c) → P (.done (.ret .none)) s') : wpAny (model X.prog X.w) A (Builtin.«list.sort» ⟨[.ref a], []⟩) P E s := by
 obtain ⟨e1, ho1⟩ : ∃ e1, (s.heap.update a (Obj.mapSeq fun _ => (#[] : Array Value))).get? a = some (seqObj "list" #[] e1) := ⟨_, get?_update_seq ho fun _ => #[]⟩
 have I1 := I.upd1 (t' := s.toks) (f := fun _ => (#[] : Array Value)) fa
 have I2 : Inv X pins σ H { s with heap := (s.heap.update a (Obj.mapSeq fun _ => (#[] : Array Value))).push (seqObj "tuple" vs.toArray 0) } := I1.kept (t' := s.toks) fun b o e => Heap.get?_push_of_some _ e
 have I3 : Inv X pins σ H { s with heap := ((s.heap.update a (Obj.mapSeq fun _ => (#[] : Array Value))).push (seqObj "tuple" vs.toArray 0)).push (seqObj "list" #[] 0) } := I2.kept (t' := s.toks) fun b o e => Heap.get?_push_of_some _ e
 have ho3 : (((s.heap.update a (Obj.mapSeq fun _ => (#[] : Array Value))).push (seqObj "tuple" vs.toArray 0)).push (seqObj "list" #[] 0)).get? a = some (seqObj "list" #[] e1) := Heap.get?_push_of_some _ (Heap.get?_push_of_some _ ho1)
 rw [list_sort_plain]
 refine wpAny_bind (listItems_at ho rfl ?_)
 refine wpAny_bind (listUpdate_at ho rfl ?_ (by rw [List.size_toArray, sizeLine_eq]; omega) (Nat.zero_le _))
 refine wpAny_bind (seqEpoch_at ho1 rfl ?_)
 refine wpAny_bind (wpAny_newTuple ?_ (by show vs.length ≤ _; rw [sizeLine_eq]; omega))
 refine wpAny_bind (wpAny_newList ?_ (Nat.zero_le _))
 refine wpAny_holding ?_
 show wpAny (model X.prog X.w) A _ P E { s with heap := ((s.heap.update a (Obj.mapSeq fun _ => (#[] : Array Value))).push (seqObj "tuple" vs.toArray 0)).push (seqObj "list" #[] 0) }
 dsimp only
 have fin : ∀ (st : SortSt), (arrOf st).map (·.2) = vs.toArray → failedOf st = none → wpAny (model X.prog X.w) A (do
     let sorted := (arrOf st).map (·.2)
     let touched := (← seqEpoch a) != e1
     Builtin.List.listUpdate (.ref a) fun _ => sorted
     if let some e := failedOf st then rule "list.sort.comparison-raised"; throw e
     if touched then rule "list.sort.modified"; raiseError "ValueError" "list modified during sort"
     ret .none) P E { s with heap := ((s.heap.update a (Obj.mapSeq fun _ => (#[] : Array Value))).push (seqObj "tuple" vs.toArray 0)).push (seqObj "list" #[] 0) } := by
   intro st hst hf
   dsimp only
   rw [hst]
   obtain ⟨c2, hc2⟩ : ∃ c2, ((((s.heap.update a (Obj.mapSeq fun _ => (#[] : Array Value))).push (seqObj "tuple" vs.toArray 0)).push (seqObj "list" #[] 0)).update a (Obj.mapSeq fun _ => vs.toArray)).get? a = some (seqObj "list" vs.toArray c2) := ⟨_, get?_update_seq ho3 fun _ => vs.toArray⟩
   refine wpAny_bind (seqEpoch_at ho3 rfl ?_)
   refine wpAny_bind (listUpdate_at ho3 rfl ?_ (Nat.zero_le _) (by rw [List.size_toArray, sizeLine_eq]; omega))
   rw [hf]
   simp only [bne_self_eq_false, Bool.false_eq_true, if_false]
   exact wpAny_pure (h _ c2 (I3.upd1 (t' := s.toks) fa) hc2)
 by_cases h2 : vs.toArray.size < 2
 · rw [if_pos h2, if_pos h2]
   refine wpAny_bind (wpAny_pure ?_)
   rw [StateT.run_pure]
   refine wpAny_bind (wpAny_pure ?_)
   refine fin (SortSt.mk' general' (vs.toArray.zip vs.toArray) #[] 7 none) ?_ rfl
   show (vs.toArray.zip vs.toArray).map (·.2) = vs.toArray
   apply Array.toList_inj.mp
   simp [List.map_snd_zip]
 · rw [if_neg h2, if_neg h2]
   rw [List.size_toArray] at h2
   obtain ⟨ks, hl, hp, hh⟩ := rise _ I3
   obtain ⟨fs, ht, hfl, hfi⟩ := tups_of hl hh
   refine wpAny_bind (kat_kind (T := .type "int") ht (by omega) (fun v hv => ?_) (by decide) ?_)
   · obtain ⟨k, t, rfl⟩ := hfi v hv
     exact Looks.of_pure rfl
   · show wpAny _ _ _ _ _ _
     refine wpAny_bind (wpAny_mono (kat_run (κ := tuples' true) (ks := vs) (vs := vs) (Q := fun st' s' => (arrOf st').map (·.2) = vs.toArray ∧ failedOf st' = none ∧ s' = { s with heap := ((s.heap.update a (Obj.mapSeq fun _ => (#[] : Array Value))).push (seqObj "tuple" vs.toArray 0)).push (seqObj "list" #[] 0) })
       (G := fun p s' => p = (List.range vs.length).toArray ∧ s' = { s with heap := ((s.heap.update a (Obj.mapSeq fun _ => (#[] : Array Value))).push (seqObj "tuple" vs.toArray 0)).push (seqObj "list" #[] 0) }) rfl (by omega) h64 (fun p st' s' _ har hf hg => ?_) ?_) ?_ fun _ _ e => e)
     · obtain ⟨rfl, rfl⟩ := hg
       refine ⟨?_, hf, rfl⟩
       rw [kat_snds rfl har]
       show List.toArray ((List.range vs.length).map fun i => vs.getD i Value.none) = _
       rw [getD_range]
     · refine sort_asc (by omega) (fun i h1 h2 C hC => ?_) ⟨rfl, rfl⟩
       have hi : i < vs.length := h2
       have hi1 : i - 1 < vs.length := by omega
       obtain ⟨a1, o1, xs1, n1, t1, e1', g1, c1, d1, f1⟩ := hh i vs[i] ks[i] (List.getElem?_eq_getElem hi) (List.getElem?_eq_getElem (by omega))
       obtain ⟨a2, o2, xs2, n2, t2, e2', g2, c2, d2, f2⟩ := hh (i - 1) vs[i - 1] ks[i - 1] (List.getElem?_eq_getElem hi1) (List.getElem?_eq_getElem (by omega))
       have hlt : ks[i - 1] < ks[i] := (List.pairwise_iff_getElem.mp hp) (i - 1) i (by omega) (by omega) (by omega)
       show wpAny (model X.prog X.w) A (keyLt' (tuples' true) (vs.getD i Value.none) (vs.getD (i - 1) Value.none)) C (fun _ _ => False) _
       have z1 : vs.getD i Value.none = .ref a1 := by simp [List.getD, List.getElem?_eq_getElem hi, e1']
       have z2 : vs.getD (i - 1) Value.none = .ref a2 := by simp [List.getD, List.getElem?_eq_getElem hi1, e2']
       rw [z1, z2]
       refine lt_tups g1 d1 g2 d2 f1 f2 (by omega) ?_
       rw [decide_eq_false (by omega)]
       exact hC
     · rintro ⟨⟨⟩, st'⟩ s' ⟨h1, h2, rfl⟩
       exact fin st' h1 h2
end
end L2
namespace L2
open PySem
structure Msg where
 n : Int
 t : Str
 x : Str
deriving DecidableEq
def Rise (l : List Msg) : Prop := l.Pairwise fun p q => p.n < q.n
theorem rise_ext : ∀ {l r : List Msg}, Rise l → Rise r → (∀ m, m ∈ l ↔ m ∈ r) → l = r
 | [], [], _, _, _ => rfl
 | [], b :: r, _, _, h => absurd ((h b).mpr List.mem_cons_self) List.not_mem_nil
 | a :: l, [], _, _, h => absurd ((h a).mp List.mem_cons_self) List.not_mem_nil
 | a :: l, b :: r, h1, h2, h => by
   obtain ⟨a1, a2⟩ := List.pairwise_cons.mp h1
   obtain ⟨b1, b2⟩ := List.pairwise_cons.mp h2
   have e : a = b := by
     rcases List.mem_cons.mp ((h a).mp List.mem_cons_self) with e | e
     · exact e
     · rcases List.mem_cons.mp ((h b).mpr List.mem_cons_self) with e' | e'
       · exact e'.symm
       · have := a1 b e'; have := b1 a e; omega
   subst e
   refine congrArg (a :: ·) (rise_ext a2 b2 fun m => ⟨fun hm => ?_, fun hm => ?_⟩)
   · rcases List.mem_cons.mp ((h m).mp (List.mem_cons_of_mem _ hm)) with e | e
     · subst e; have := a1 m hm; omega
     · exact e
   · rcases List.mem_cons.mp ((h m).mpr (List.mem_cons_of_mem _ hm)) with e | e
     · subst e; have := b1 m hm; omega
     · exact e
def Top (ms : List Msg) (m : Msg) : Prop := m ∈ ms ∧ ∀ k ∈ ms, k.t = m.t → k.n ≤ m.n
def Lasts (ms ls : List Msg) : Prop := Rise ls ∧ ∀ m, m ∈ ls ↔ Top ms m
theorem Top.perm {ms ms' : List Msg} {m : Msg} (h : ms.Perm ms') : Top ms m ↔ Top ms' m :=
 ⟨fun ⟨a, b⟩ => ⟨h.mem_iff.mp a, fun k hk => b k (h.mem_iff.mpr hk)⟩, fun ⟨a, b⟩ => ⟨h.mem_iff.mpr a, fun k hk => b k (h.mem_iff.mp hk)⟩⟩
theorem Lasts.uniq {ms l r : List Msg} (h1 : Lasts ms l) (h2 : Lasts ms r) : l = r := rise_ext h1.1 h2.1 fun m => (h1.2 m).trans (h2.2 m).symm
def Diff (ms : List Msg) : Prop := (ms.map (·.n)).Nodup
theorem Rise.diff {l : List Msg} (h : Rise l) : Diff l := by
 unfold Diff List.Nodup
 rw [List.pairwise_map]
 exact h.imp fun hlt => Int.ne_of_lt hlt
theorem Diff.eq : ∀ {ms : List Msg}, Diff ms → ∀ {a b : Msg}, a ∈ ms → b ∈ ms → a.n = b.n → a = b
 | [], _, a, b, ha, _, _ => absurd ha List.not_mem_nil
 | m :: ms, d, a, b, ha, hb, e => by
   unfold Diff at d
   rw [List.map_cons, List.nodup_cons] at d
   rcases List.mem_cons.mp ha with h1 | h1 <;> rcases List.mem_cons.mp hb with h2 | h2
   · rw [h1, h2]
   · exact absurd (List.mem_map.mpr ⟨b, h2, by rw [← e, h1]⟩) d.1
   · exact absurd (List.mem_map.mpr ⟨a, h1, by rw [e, h2]⟩) d.1
   · exact Diff.eq d.2 h1 h2 e
section
variable {α β : Type}
def putD (D : List (Str × α)) (t : Str) (d : α) : List (Str × α) := if D.any (fun p => decide (p.1 = t)) = true then D.map fun p => if p.1 = t then (p.1, d) else p else D ++ [(t, d)]
theorem mem_putD {D : List (Str × α)} {t : Str} {d : α} (p : Str × α) : p ∈ putD D t d ↔ p = (t, d) ∨ (p ∈ D ∧ p.1 ≠ t) := by
 unfold putD
 split
 · rename_i h
   rw [List.mem_map]
   constructor
   · rintro ⟨q, hq, rfl⟩
     by_cases e : q.1 = t
     · rw [if_pos e, e]; exact .inl rfl
     · rw [if_neg e]; exact .inr ⟨hq, e⟩
   · rintro (rfl | ⟨hp, hn⟩)
     · obtain ⟨q, hq, e⟩ := List.any_eq_true.mp h
       have e' : q.1 = t := of_decide_eq_true e
       exact ⟨q, hq, by rw [if_pos e', e']⟩
     · exact ⟨p, hp, by rw [if_neg hn]⟩
 · rename_i h
   rw [List.mem_append, List.mem_singleton]
   constructor
   · rintro (hp | rfl)
     · refine .inr ⟨hp, fun e => h ?_⟩
       exact List.any_eq_true.mpr ⟨p, hp, decide_eq_true e⟩
     · exact .inl rfl
   · rintro (rfl | ⟨hp, hn⟩)
     · exact .inr rfl
     · exact .inl hp
theorem nd_putD {D : List (Str × α)} {t : Str} {d : α} (h : (D.map (·.1)).Nodup) : ((putD D t d).map (·.1)).Nodup := by
 unfold putD
 split
 · rw [List.map_map]
   have e : (D.map ((fun p : Str × α => p.1) ∘ fun p => if p.1 = t then (p.1, d) else p)) = D.map (·.1) := by
     refine List.map_congr_left fun p _ => ?_
     show (if p.1 = t then (p.1, d) else p).1 = p.1
     split <;> rfl
   rw [e]; exact h
 · rename_i hn
   rw [List.map_append, List.map_singleton, List.nodup_append]
   refine ⟨h, List.nodup_cons.mpr ⟨List.not_mem_nil, List.nodup_nil⟩, fun a ha b hb => ?_⟩
   rw [List.mem_singleton.mp hb]
   intro e
   subst e
   obtain ⟨p, hp, e⟩ := List.mem_map.mp ha
   exact hn (List.any_eq_true.mpr ⟨p, hp, decide_eq_true e⟩)
theorem len_putD (D : List (Str × α)) (t : Str) (d : α) : (putD D t d).length ≤ D.length + 1 := by
 unfold putD
 split
 · rw [List.length_map]; omega
 · rw [List.length_append]; exact Nat.le_refl _
def puts (D : List (Str × α)) (l : List (Str × α)) : List (Str × α) := l.foldl (fun D p => putD D p.1 p.2) D
theorem puts_snoc (D l : List (Str × α)) (p : Str × α) : puts D (l ++ [p]) = putD (puts D l) p.1 p.2 := by unfold puts; rw [List.foldl_append]; rfl
theorem nd_puts : ∀ (l D : List (Str × α)), (D.map (·.1)).Nodup → ((puts D l).map (·.1)).Nodup
 | [], D, h => h
 | p :: l, D, h => nd_puts l _ (nd_putD h)
theorem len_puts : ∀ (l D : List (Str × α)), (puts D l).length ≤ D.length + l.length
 | [], D => by show D.length ≤ _; omega
 | p :: l, D => by
   have h1 := len_puts l (putD D p.1 p.2)
   have h2 := len_putD D p.1 p.2
   show (puts (putD D p.1 p.2) l).length ≤ _
   rw [List.length_cons]; omega
end
def kM (m : Msg) : Str × Msg := (m.t, m)
def newest (ms : List Msg) : List (Str × Msg) := puts [] (ms.map kM)
theorem newest_snoc (ms : List Msg) (m : Msg) : newest (ms ++ [m]) = putD (newest ms) m.t m := by unfold newest; rw [List.map_append, List.map_singleton, puts_snoc]; rfl
theorem newest_nd (ms : List Msg) : ((newest ms).map (·.1)).Nodup := nd_puts _ _ List.nodup_nil
theorem newest_len (ms : List Msg) : (newest ms).length ≤ ms.length := by
 have := len_puts (ms.map kM) []
 rw [List.length_map] at this
 simpa [newest] using this
theorem list_snoc {α : Type} {P : List α → Prop} (h0 : P []) (hs : ∀ l a, P l → P (l ++ [a])) (l : List α) : P l := by
 have : ∀ r : List α, P r.reverse := fun r => by
   induction r with
   | nil => exact h0
   | cons a r ih => rw [List.reverse_cons]; exact hs _ _ ih
 have := this l.reverse
 rwa [List.reverse_reverse] at this
theorem mem_newest : ∀ (ms : List Msg), Rise ms → ∀ p, p ∈ newest ms ↔ p.1 = p.2.t ∧ Top ms p.2 := by
 refine list_snoc ?_ ?_
 · intro _ p; exact ⟨fun h => absurd h List.not_mem_nil, fun h => absurd h.2.1 List.not_mem_nil⟩
 · intro ms m ih hr p
   have hr' := List.pairwise_append.mp hr
   rw [newest_snoc, mem_putD, ih hr'.1]
   have hm : ∀ k ∈ ms, k.n < m.n := fun k hk => hr'.2.2 k hk m (List.mem_singleton.mpr rfl)
   constructor
   · rintro (rfl | ⟨⟨e, h1, h2⟩, hn⟩)
     · refine ⟨rfl, List.mem_append_right _ (List.mem_singleton.mpr rfl), fun k hk _ => ?_⟩
       rcases List.mem_append.mp hk with hk | hk
       · exact Int.le_of_lt (hm k hk)
       · rw [List.mem_singleton.mp hk]; exact Int.le_refl _
     · refine ⟨e, List.mem_append_left _ h1, fun k hk ek => ?_⟩
       rcases List.mem_append.mp hk with hk | hk
       · exact h2 k hk ek
       · rw [List.mem_singleton.mp hk] at ek
         exact absurd (e.trans ek.symm) hn
   · rintro ⟨e, h1, h2⟩
     rcases List.mem_append.mp h1 with h1 | h1
     · refine .inr ⟨⟨e, h1, fun k hk => h2 k (List.mem_append_left _ hk)⟩, fun en => ?_⟩
       have := h2 m (List.mem_append_right _ (List.mem_singleton.mpr rfl)) (by rw [← e, en])
       have := hm _ h1
       omega
     · left
       have := List.mem_singleton.mp h1
       obtain ⟨p1, p2⟩ := p
       have e1 : p2 = m := this
       have e2 : p1 = p2.t := e
       rw [e2, e1]
end L2
namespace L2
open PySem PySem.Spec PyProof.Rows PySem.W
def rSortA (K : W.Frag) : List V → Hp → VK → Prop := fun us H Q => ∃ a xs kz, us = [.ref a] ∧ SqL K H a xs ∧ xs.length < 64 ∧ NumAll H xs kz ∧ kz.Pairwise (· < ·) ∧ ∀ p, H p = none → Q (.ref p) (upd H p (.lst xs))
section
variable {X : Cx}
theorem rise_of {H : Hp} {xs : List V} {kz : List Int} {vs : List Value} {pins : List (Addr × Obj)} {σ : St} {s : Shared} (rv : Vals xs vs) (hn : NumAll H xs kz) (hp : kz.Pairwise (· < ·)) (I : Inv X pins σ H s) : RiseAt s.heap vs := by
 refine ⟨kz, by rw [hn.1]; exact rv.length, hp, fun i v k hv hk => ?_⟩
 obtain ⟨x, hx, rx⟩ := rv.back hv
 obtain ⟨a, y, z, rfl, ha⟩ := hn.2 i x k hx hk
 cases (show v = Value.ref a from rx)
 obtain ⟨hz, its, rt, o, e, c, n, d⟩ := (show ObjOk X.prog X.w H s.heap a (.tup [.int k, y, z]) from I.hok a _ ha)
 cases rt with
 | cons r1 t1 =>
   obtain ⟨t, rfl⟩ := (show ∃ t, _ = Value.int k t from r1)
   exact ⟨a, o, _, n, t, rfl, e, c, d, by simp⟩
theorem call_sortA (hc : X.calm = true) : CallR X (.builtin "sorted") (rSortA X.K) := by
 intro pins s σ H us ws Q I r h
 obtain ⟨a, xs, kz, rfl, ha, h64, hn, hp, q⟩ := h
 obtain ⟨u, rfl, ru⟩ := vals1 r
 refine Calls.call_function_entry kind_sorted plain_sorted entry_sorted (args_sorted1 _) ?_
 unfold Builtin.«sorted»
 refine wpAny_bind (m := checkCount "sorted" 1 1 _) (wpAny_pure ?_)
 refine wpAny_bind (coll_list ha pins s σ u _ _ _ I ru (I.ok.hd hc) fun vs s1 rv I1 => ?_)
 have hl := rv.length
 refine wpAny_bind (wpAny_newList ?_ (by rw [sizeLine_eq]; omega))
 have I2 : Inv X pins σ H { s1 with heap := s1.heap.push (seqObj "list" vs.toArray 0) } := I1.kept (t' := s1.toks) fun b o e => Heap.get?_push_of_some _ e
 have fD : FpOk X pins H s1.heap.objs.size := I1.fpOk (Nat.le_refl _) (I1.hok.fresh (Nat.le_refl _))
 have hoL : (s1.heap.push (seqObj "list" vs.toArray 0)).get? s1.heap.objs.size = some (seqObj "list" vs.toArray 0) := Heap.get?_push_size _ rfl
 refine wpAny_bind (wpAny_holding (wpAny_call_entry slot_list_sort ⟨_, hoL, rfl⟩ entry_list_sort ?body (args_list_sort _)))
 case body =>
   show wpAny (model X.prog X.w) X.A.in1.in1 (Builtin.«list.sort» ⟨[.ref s1.heap.objs.size], []⟩) _ _ _
   refine so_plain I2 hoL fD (by omega) (fun s' I' => rise_of rv hn hp I') fun s' c I' ho' => ⟨_, rfl, ?_⟩
   refine wpAny_pure ⟨_, rfl, .ref s1.heap.objs.size, upd H s1.heap.objs.size (.lst xs), I'.track fD ⟨?_, vs, c, rv, ho'⟩, rfl, q _ fD.1⟩
   rw [sizeLine_eq]; omega
theorem k_sortA (K : W.Frag) (hc : X.calm = true) (h : X.K = K := by rfl) : CallR X (.builtin "sorted") (rSortA K) := h ▸ call_sortA hc
theorem k_bm0 (K : W.Frag) {o : Expr} {to : TE} {name : Str} {apos cpos : Pos} {T id : String} {r : V → List V → Hp → VK → Prop} (pa : PlainAttrs T) (slot : Slot T name id) (hty : typeOf (.builtin id) = pure (.type "method_descriptor")) (hm : MtR X id r) (ho : PE X o to) (h : X.K = K := by rfl)
   (hbase : attributeBase o name X.env (eval o X.env) = eval o X.env := by rfl) (hline : (apos.endLine == cpos.line) = true := by rfl) : PE X (.Call (.Attribute o name apos) [] [] cpos) (tBM0 K T r to) := h ▸ pe_bm0 pa slot hty hm ho hbase hline
end
def mD (m : Msg) : PyData := .tuple [.int m.n, .str m.t, .str m.x]
def mT (m : Msg) : HO := .tup [.int m.n, .str m.t, .str m.x]
def mOk (m : Msg) : Prop := PyData.strOk m.t = true ∧ PyData.strOk m.x = true
theorem has_msg {H : Hp} {v : V} {m : Msg} (h : Has H v (mD m)) : ∃ c, v = .ref c ∧ H c = some (mT m) := by
 unfold mD Has at h
 obtain ⟨a, xs, rfl, h1, h2⟩ := h
 unfold HasL at h2
 obtain ⟨x1, r1, rfl, e1, h2⟩ := h2
 unfold HasL at h2
 obtain ⟨x2, r2, rfl, e2, h2⟩ := h2
 unfold HasL at h2
 obtain ⟨x3, r3, rfl, e3, h2⟩ := h2
 unfold HasL at h2
 subst h2
 unfold Has at e1 e2 e3
 subst e1 e2 e3
 exact ⟨a, rfl, h1⟩
theorem msg_has {H : Hp} {c : Addr} {m : Msg} (h : H c = some (mT m)) : Has H (.ref c) (mD m) := has_tup h (yZ (has_int _) (yZ (has_str _) (yZ (has_str _) hasL_nil)))
def Ms (H : Hp) (xs : List V) (ms : List Msg) : Prop := HasL H xs (ms.map mD)
theorem Ms.same {H H' : Hp} {xs : List V} {ms : List Msg} (h : Ms H xs ms) (e : Same H H') : Ms H' xs ms := HasL.same e h
theorem Ms.nil {H : Hp} : Ms H [] [] := hasL_nil
theorem Ms.len {H : Hp} {xs : List V} {ms : List Msg} (h : Ms H xs ms) : xs.length = ms.length := by have := HasL.length h; rw [List.length_map] at this; exact this
theorem Ms.append {H : Hp} {xs ys : List V} {ms ns : List Msg} (h : Ms H xs ms) (h' : Ms H ys ns) : Ms H (xs ++ ys) (ms ++ ns) := by unfold Ms; rw [List.map_append]; exact HasL.append h h'
theorem Ms.one {H : Hp} {c : Addr} {m : Msg} (h : H c = some (mT m)) : Ms H [.ref c] [m] := yZ (msg_has h) hasL_nil
theorem Ms.get {H : Hp} {xs : List V} {ms : List Msg} (h : Ms H xs ms) {i : Nat} (hi : i < ms.length) : ∃ c, xs[i]? = some (.ref c) ∧ H c = some (mT ms[i]) := by
 obtain ⟨x, e, hx⟩ := HasL.get (i := i) (d := mD ms[i]) h (by rw [List.getElem?_map, List.getElem?_eq_getElem hi]; rfl)
 obtain ⟨c, rfl, hc⟩ := has_msg hx
 exact ⟨c, e, hc⟩
theorem Ms.cons_iff {H : Hp} {x : V} {xs : List V} {ms : List Msg} : Ms H (x :: xs) ms ↔ ∃ m r, ms = m :: r ∧ Has H x (mD m) ∧ Ms H xs r := by
 cases ms with
 | nil =>
   constructor
   · intro h; unfold Ms at h; rw [List.map_nil] at h; unfold HasL at h; exact absurd h (by simp)
   · rintro ⟨m, r, e, _⟩; exact absurd e (by simp)
 | cons m r =>
   constructor
   · intro h
     unfold Ms at h; rw [List.map_cons] at h; unfold HasL at h
     obtain ⟨x', r', e, h1, h2⟩ := h
     cases e
     exact ⟨m, r, rfl, h1, h2⟩
   · rintro ⟨m', r', e, h1, h2⟩
     cases e
     exact yZ h1 h2
theorem Ms.head {H : Hp} {x : V} {xs : List V} {m : Msg} {r : List Msg} (h : Ms H (x :: xs) (m :: r)) : Has H x (mD m) ∧ Ms H xs r := by
 obtain ⟨m', r', e, h1, h2⟩ := Ms.cons_iff.mp h
 cases e
 exact ⟨h1, h2⟩
theorem Ms.take {H : Hp} : ∀ {xs : List V} {ms : List Msg} (n : Nat), Ms H xs ms → Ms H (xs.take n) (ms.take n)
 | [], [], n, h => by simpa using Ms.nil
 | [], m :: r, n, h => by have := h.len; simp at this
 | x :: xs, [], n, h => by have := h.len; simp at this
 | x :: xs, m :: r, 0, h => by simpa using Ms.nil
 | x :: xs, m :: r, n + 1, h => yZ h.head.1 (Ms.take n h.head.2)
theorem Ms.drop {H : Hp} : ∀ {xs : List V} {ms : List Msg} (n : Nat), Ms H xs ms → Ms H (xs.drop n) (ms.drop n)
 | [], [], n, h => by simpa using Ms.nil
 | [], m :: r, n, h => by have := h.len; simp at this
 | x :: xs, [], n, h => by have := h.len; simp at this
 | x :: xs, m :: r, 0, h => h
 | x :: xs, m :: r, n + 1, h => Ms.drop n h.head.2
theorem Ms.num {H : Hp} {xs : List V} {ms : List Msg} (h : Ms H xs ms) : NumAll H xs (ms.map (·.n)) := by
 refine ⟨by rw [List.length_map, h.len], fun i x k hx hk => ?_⟩
 rw [List.getElem?_map] at hk
 have hi : i < ms.length := by rw [← h.len]; exact (List.getElem?_eq_some_iff.mp hx).1
 obtain ⟨c, e, hc⟩ := h.get hi
 rw [hx] at e
 rw [List.getElem?_eq_getElem hi] at hk
 cases e
 cases hk
 exact ⟨c, _, _, rfl, hc⟩
theorem lay_ms : ∀ {ms : List Msg}, (∀ m ∈ ms, mOk m) → PyData.canLayAll0 (ms.map mD) = true
 | [], _ => by simp [PyData.canLayAll0]
 | m :: r, h => by
   obtain ⟨h1, h2⟩ := h m List.mem_cons_self
   simp [PyData.canLayAll0, PyData.canLay0, mD, h1, h2, lay_ms fun k hk => h k (List.mem_cons_of_mem _ hk)]
theorem depth_ms : ∀ ms : List Msg, PyData.depthAll (ms.map mD) ≤ 3
 | [] => by simp [PyData.depthAll]
 | m :: r => by
   have := depth_ms r
   simp only [List.map_cons, PyData.depthAll, PyData.depth, mD]
   omega
inductive DM (H : Hp) : List (Key × V) → List (Str × Msg) → Prop
 | nil : DM H [] []
 | cons {t : Str} {v : V} {m : Msg} {r : List (Key × V)} {D : List (Str × Msg)} : Has H v (mD m) → DM H r D → DM H ((Sum.inr t, v) :: r) ((t, m) :: D)
theorem DM.len {H : Hp} : ∀ {kvs : List (Key × V)} {D : List (Str × Msg)}, DM H kvs D → kvs.length = D.length
 | _, _, .nil => rfl
 | _, _, .cons _ t => by rw [List.length_cons, List.length_cons, DM.len t]
theorem DM.ms {H : Hp} : ∀ {kvs : List (Key × V)} {D : List (Str × Msg)}, DM H kvs D → Ms H (kvs.map (·.2)) (D.map (·.2))
 | _, _, .nil => Ms.nil
 | _, _, .cons h t => yZ h (DM.ms t)
theorem DM.any {H : Hp} (t : Str) : ∀ {kvs : List (Key × V)} {D : List (Str × Msg)}, DM H kvs D → (kvs.any fun kv => decide (kv.1 = Sum.inr t)) = D.any fun p => decide (p.1 = t)
 | _, _, .nil => rfl
 | _, _, .cons (t := t') h r => by
   rw [List.any_cons, List.any_cons, DM.any t r]
   congr 1
   exact decide_eq_decide.mpr ⟨fun z => Sum.inr.inj z, fun z => congrArg Sum.inr z⟩
theorem DM.repl {H : Hp} (t : Str) {v : V} {m : Msg} (h : Has H v (mD m)) : ∀ {kvs : List (Key × V)} {D : List (Str × Msg)}, DM H kvs D → DM H (kvs.map fun kv => if kv.1 = Sum.inr t then (kv.1, v) else kv) (D.map fun p => if p.1 = t then (p.1, m) else p)
 | _, _, .nil => .nil
 | _, _, .cons (t := t') h' r => by
   rw [List.map_cons, List.map_cons]
   by_cases e : t' = t
   · rw [if_pos (by rw [e]), if_pos e]; exact .cons h (DM.repl t h r)
   · rw [if_neg (fun z => e (by injection z)), if_neg e]; exact .cons h' (DM.repl t h r)
theorem DM.snoc {H : Hp} (t : Str) {v : V} {m : Msg} (h : Has H v (mD m)) : ∀ {kvs : List (Key × V)} {D : List (Str × Msg)}, DM H kvs D → DM H (kvs ++ [(Sum.inr t, v)]) (D ++ [(t, m)])
 | _, _, .nil => .cons h .nil
 | _, _, .cons h' r => .cons h' (DM.snoc t h r)
theorem DM.put {H : Hp} (t : Str) {v : V} {m : Msg} (h : Has H v (mD m)) {kvs : List (Key × V)} {D : List (Str × Msg)} (d : DM H kvs D) : DM H (putK kvs (Sum.inr t) v) (putD D t m) := by
 unfold putK putD
 rw [d.any t]
 split
 · exact d.repl t h
 · exact d.snoc t h
theorem sorted_ms {H : Hp} {xs ys : List V} {ms : List Msg} (h : Ms H xs ms) (s : SortedBy (ms.map (·.n)) xs ys) (d : Diff ms) : ∃ ns, Ms H ys ns ∧ ns.Perm ms ∧ Rise ns := by
 obtain ⟨ps, h1, rfl, h3⟩ := s
 have key : ∀ p ∈ ps, ∃ m, m ∈ ms ∧ p.1 = m.n ∧ Has H p.2 (mD m) := by
   intro p hp
   have hz := h1.mem_iff.mp hp
   obtain ⟨i, hi⟩ := List.mem_iff_getElem?.mp hz
   rw [List.getElem?_zip_eq_some] at hi
   obtain ⟨e1, e2⟩ := hi
   rw [List.getElem?_map] at e1
   have hl : i < ms.length := by rw [← h.len]; exact (List.getElem?_eq_some_iff.mp e2).1
   obtain ⟨c, e3, hc⟩ := h.get hl
   rw [e2] at e3
   rw [List.getElem?_eq_getElem hl] at e1
   refine ⟨ms[i], List.getElem_mem hl, (Option.some.inj e1).symm, ?_⟩
   rw [Option.some.inj e3]
   exact msg_has hc
 have build : ∀ ps : List (Int × V), (∀ p ∈ ps, ∃ m, m ∈ ms ∧ p.1 = m.n ∧ Has H p.2 (mD m)) → ∃ ns : List Msg, Ms H (ps.map Prod.snd) ns ∧ ns.map (·.n) = ps.map Prod.fst ∧ ∀ m ∈ ns, m ∈ ms := by
   intro ps
   induction ps with
   | nil => intro _; exact ⟨[], Ms.nil, rfl, fun _ h => nomatch h⟩
   | cons p ps ih =>
     intro hk
     obtain ⟨ns, a1, a2, a3⟩ := ih fun q hq => hk q (List.mem_cons_of_mem _ hq)
     obtain ⟨m, b1, b2, b3⟩ := hk p List.mem_cons_self
     refine ⟨m :: ns, yZ b3 a1, by rw [List.map_cons, List.map_cons, a2, b2], fun k hkm => ?_⟩
     rcases List.mem_cons.mp hkm with e | e
     · rw [e]; exact b1
     · exact a3 k e
 obtain ⟨ns, a1, a2, a3⟩ := build ps key
 have hperm : (ns.map (·.n)).Perm (ms.map (·.n)) := by
   rw [a2]
   have := h1.map Prod.fst
   rw [List.map_fst_zip (by rw [List.length_map, h.len]; exact Nat.le_refl _)] at this
   exact this
 have dn : Diff ns := hperm.nodup_iff.mpr d
 have rise : Rise ns := by
   have hle : (ns.map (·.n)).Pairwise (· ≤ ·) := by
     rw [a2, List.pairwise_map]; exact h3
   have hne : (ns.map (·.n)).Pairwise (· ≠ ·) := dn
   have := hle.and hne
   rw [List.pairwise_map] at this
   exact this.imp fun ⟨x, y⟩ => by omega
 refine ⟨ns, a1, ?_, rise⟩
 have nn : ns.Nodup := (List.pairwise_map.mp dn).imp fun hne e => hne (congrArg _ e)
 have nm : ms.Nodup := (List.pairwise_map.mp d).imp fun hne e => hne (congrArg _ e)
 refine (List.perm_ext_iff_of_nodup nn nm).mpr fun m => ⟨a3 m, fun hm => ?_⟩
 have : m.n ∈ ns.map (·.n) := hperm.mem_iff.mpr (List.mem_map.mpr ⟨m, hm, rfl⟩)
 obtain ⟨k, hk, e⟩ := List.mem_map.mp this
 rw [← Diff.eq d (a3 k hk) hm e]
 exact hk
end L2
namespace L2
open PySem PySem.Spec PyProof.Rows PySem.W
theorem Same.put {H H' : Hp} (e : Same H H') {p : Addr} {o : HO} (h : H p = none) : Same H (upd H' p o) := fun b u hb => by
 rw [qv (fun z => by rw [z, h] at hb; cases hb)]; exact e b u hb
theorem flt_succ {α : Type} {ms : List α} {i : Nat} (hi : i < ms.length) {b : α → Bool} : (ms.take (i + 1)).filter b = (ms.take i).filter b ++ if b ms[i] = true then [ms[i]] else [] := by
 rw [List.take_add_one, List.getElem?_eq_getElem hi, List.filter_append]
 show _ ++ List.filter b [ms[i]] = _
 rw [List.filter_cons]; rfl
theorem newest_diff {ms : List Msg} (h : Rise ms) : Diff ((newest ms).map (·.2)) := by
 unfold Diff List.Nodup
 rw [List.map_map, List.pairwise_map]
 have hn := newest_nd ms
 unfold List.Nodup at hn
 rw [List.pairwise_map] at hn
 refine (List.Pairwise.and_mem.mp hn).imp fun {a b} ⟨ha, hb, hne⟩ e => hne ?_
 obtain ⟨e1, t1⟩ := (mem_newest ms h a).mp ha
 obtain ⟨e2, t2⟩ := (mem_newest ms h b).mp hb
 rw [e1, e2, Diff.eq h.diff t1.1 t2.1 e]
theorem mem_newest_snd {ms : List Msg} (h : Rise ms) {m : Msg} : m ∈ (newest ms).map (·.2) ↔ Top ms m := by
 rw [List.mem_map]
 constructor
 · rintro ⟨p, hp, rfl⟩; exact ((mem_newest ms h p).mp hp).2
 · intro ht; exact ⟨(m.t, m), (mem_newest ms h _).mpr ⟨rfl, ht⟩, rfl⟩
def spLast : Sp := fun vs H Q _ => ∃ a xs ms, vs = [.ref a] ∧ H a = some (.lst xs) ∧ Ms H xs ms ∧ ms.length < 64 ∧ Diff ms ∧
 ∀ p ys ls H', Same H H' → H p = none → H' p = some (.lst ys) → Ms H' ys ls → Lasts ms ls → Q (.ref p) H'
mutual
def noLst : PyData → Bool
 | .list _ => false
 | .dict _ => false
 | .tuple ds => noLstA ds
 | _ => true
def noLstA : List PyData → Bool
 | [] => true
 | d :: ds => noLst d && noLstA ds
end
mutual
theorem Has.updL {H : Hp} {g : Addr} {zs : List V} {o : HO} (hg : H g = some (.lst zs)) : ∀ {v : V} {d : PyData}, noLst d = true → Has H v d → Has (upd H g o) v d
 | v, .none, _, h => by unfold Has at h ⊢; exact h
 | v, .bool b, _, h => by unfold Has at h ⊢; exact h
 | v, .int i, _, h => by unfold Has at h ⊢; exact h
 | v, .str x, _, h => by unfold Has at h ⊢; exact h
 | v, .list ds, n, h => by unfold noLst at n; cases n
 | v, .tuple ds, n, h => by
   unfold noLst at n
   unfold Has at h ⊢
   obtain ⟨a, xs, h1, h2, h3⟩ := h
   refine ⟨a, xs, h1, ?_, HasL.updL hg n h3⟩
   rw [qv (fun e => by rw [e, hg] at h2; cases h2)]; exact h2
 | v, .dict kvs, n, h => by unfold noLst at n; cases n
theorem HasL.updL {H : Hp} {g : Addr} {zs : List V} {o : HO} (hg : H g = some (.lst zs)) : ∀ {xs : List V} {ds : List PyData}, noLstA ds = true → HasL H xs ds → HasL (upd H g o) xs ds
 | xs, [], _, h => by unfold HasL at h ⊢; exact h
 | xs, d :: ds, n, h => by
   unfold noLstA at n
   rw [Bool.and_eq_true] at n
   unfold HasL at h ⊢
   obtain ⟨x, r, h1, h2, h3⟩ := h
   exact ⟨x, r, h1, Has.updL hg n.1 h2, HasL.updL hg n.2 h3⟩
end
theorem noLst_ms : ∀ ms : List Msg, noLstA (ms.map mD) = true
 | [] => by simp [noLstA]
 | m :: r => by simp [noLstA, noLst, mD, noLst_ms r]
theorem Ms.updL {H : Hp} {g : Addr} {zs : List V} {o : HO} {xs : List V} {ms : List Msg} (hg : H g = some (.lst zs)) (h : Ms H xs ms) : Ms (upd H g o) xs ms := HasL.updL hg (noLst_ms ms) h
end L2
namespace L2
open PySem PySem.Spec PyProof.Rows PySem.W
def Rows (ms : List Msg) : Prop := ∀ i (h : i < ms.length), ms[i].n = (i : Int) + 1
def overB (m o : Msg) : Bool := decide (o.t = m.t) && decide (o.n > m.n)
def isTopB (ms : List Msg) (m : Msg) : Bool := (ms.filter (overB m)).isEmpty
theorem isTopB_mem {ms : List Msg} (m : Msg) : m ∈ ms.filter (isTopB ms) ↔ Top ms m := by
 rw [List.mem_filter]
 unfold isTopB Top
 refine ⟨fun ⟨h1, h2⟩ => ⟨h1, fun k hk e => ?_⟩, fun ⟨h1, h2⟩ => ⟨h1, ?_⟩⟩
 · have h3 := List.filter_eq_nil_iff.mp (List.isEmpty_iff.mp h2) k hk
   unfold overB at h3
   rw [decide_eq_true e, Bool.true_and, decide_eq_true_eq] at h3
   omega
 · refine List.isEmpty_iff.mpr (List.filter_eq_nil_iff.mpr fun k hk => ?_)
   unfold overB
   rw [Bool.and_eq_true, decide_eq_true_eq, decide_eq_true_eq]
   rintro ⟨e, h⟩
   have := h2 k hk e
   omega
def spLLast : Sp := fun vs H Q _ => ∃ a xs ms, vs = [.ref a] ∧ H a = some (.lst xs) ∧ Ms H xs ms ∧ ms.length < 64 ∧ Rise ms ∧
 ∀ p ys ls H', Same H H' → H p = none → H' p = some (.lst ys) → Ms H' ys ls → Lasts ms ls → Q (.ref p) H'
end L2
namespace L2
open PySem PySem.Spec PyProof.Rows PySem.W
structure CalleeM (P : Program) (w : World) (K : W.Frag) (mg : Str → Option Value) (base : Heap) (k : Nat) (C : Addr) (m : Str) (ps : List Str) (sp : Sp) : Prop where
 ex : ∃ f fd, FnOk P w K mg base CX0 k f fd ps sp ∧ Meth K C m f ∧ Binds K fd ps []
structure CalleeI (P : Program) (w : World) (K : W.Frag) (mg : Str → Option Value) (base : Heap) (k : Nat) (C : Addr) (ps : List Str) (sp : Sp) : Prop where
 ex : ∃ f fd, FnOk P w K mg base CX0 k f fd ps sp ∧ Mk K C f ∧ Binds K fd ps []
section
variable {X : Cx} {k : Nat} {C : Addr} {m x : Str} {ps : List Str} {sp : Sp} {o e : Expr} {es : List Expr} {ta tv : TE} {t : TA} {p apos pos pos' : Pos}
theorem as_meth {pl : Sem Bool} (M : CalleeM X.prog X.w X.K X.mg X.base k C m ps sp) (c : Cls X.K C) (hr : Room k X.A) (he : PE X o ta) (ha : PAt X e es t)
   (ht : eval (.Call (.Attribute o m apos) (e :: es) [] pos) X.env = (do
     let ov ← eval o X.env
     standAt apos.atName
     let (f, first) ← holding [ov] (getMethod ov m pl)
     callWith pos f first (backTo pos (starEach (e :: es) X.env)) (backToKw pos (keywordEach [] X.env))) := by rfl) :
   PE X (.Call (.Attribute o m apos) (e :: es) [] pos) (tMeth C m sp [] E0 ta t) := by
 obtain ⟨f, fd, F, hm, hb⟩ := M.ex
 exact pe_meth (pl := pl) he c hm F hr hb .nil pass0 ha.all.pa (ha.all.he ha.tl) (by rw [ha.tl]; exact back_any _ _ _) ht
theorem as_meth0 {pl : Sem Bool} (M : CalleeM X.prog X.w X.K X.mg X.base k C m ps sp) (c : Cls X.K C) (hr : Room k X.A) (he : PE X o ta)
   (ht : eval (.Call (.Attribute o m apos) [] [] pos) X.env = (do
     let ov ← eval o X.env
     standAt apos.atName
     let (f, first) ← holding [ov] (getMethod ov m pl)
     callWith pos f first (backTo pos (starEach [] X.env)) (backToKw pos (keywordEach [] X.env))) := by rfl) :
   PE X (.Call (.Attribute o m apos) [] [] pos) (tMeth C m sp [] E0 ta tNil) := by
 obtain ⟨f, fd, F, hm, hb⟩ := M.ex
 exact pe_meth0 (pl := pl) he c hm F hr hb .nil pass0 ht
theorem as_make0 (M : CalleeI X.prog X.w X.K X.mg X.base k C ps sp) (hr : Room (k + 1) X.A) (hm : X.mg x = some (.ref C)) (hg : Gl X x := by rfl) (hdb : (x == ("__debug__" : Str)) = false := by decide) :
   PE X (.Call (.Name x p) [] [] pos) (tMake C sp [] E0 tNil) := by
 obtain ⟨f, fd, F, hM, hb⟩ := M.ex
 exact pe_make0 hM F hr hg hm hb .nil pass0 hdb
theorem k_sfld (K : W.Frag) {value : Expr} {f : Str} (ha : PE X o ta) (hv : PE X value tv) (hs : swapsWith value (some (.Attribute o f pos')) pos.line X.env = pure false) (h : X.K = K := by rfl) : PS X (.Assign [.Attribute o f pos'] value pos) (sFld K ta tv f) := h ▸ ps_fld ha hv hs
end
theorem lk_hit {f : Str} {v : V} {r : List (Str × V)} : List.lookup f ((f, v) :: r) = some v := by simp [List.lookup]
theorem lk_miss {f g : Str} {v : V} {r : List (Str × V)} (h : ¬ f = g) : List.lookup f ((g, v) :: r) = List.lookup f r := by
 have hb : (f == g) = false := beq_eq_false_iff_ne.mpr h
 simp [List.lookup, hb]
theorem pf_hit {f : Str} {v x : V} {r : List (Str × V)} : putF f v ((f, x) :: r) = (f, v) :: r := by
 show (if f = f then _ else _) = _
 rw [if_pos rfl]
theorem yq {f g : Str} {v x : V} {r : List (Str × V)} (h : ¬ g = f) : putF f v ((g, x) :: r) = (g, x) :: putF f v r := by
 show (if g = f then _ else _) = _
 rw [if_neg h]
def Tups (H H' : Hp) : Prop := ∀ c xs, H c = some (.tup xs) → H' c = some (.tup xs)
theorem Same.tups {H H' : Hp} (e : Same H H') : Tups H H' := fun c xs h => e _ _ h
theorem Tups.refl (H : Hp) : Tups H H := fun _ _ h => h
theorem Tups.trans {H H' H'' : Hp} (a : Tups H H') (b : Tups H' H'') : Tups H H'' := fun c xs h => b _ _ (a _ _ h)
theorem Tups.put {H H' : Hp} (a : Tups H H') {g : Addr} {u o : HO} (h : H' g = some u) (hn : ∀ xs, u ≠ .tup xs) : Tups H (upd H' g o) := fun c xs hc => by
 have h1 := a _ _ hc
 rw [qv (fun e => by rw [e, h] at h1; exact hn xs (Option.some.inj h1))]; exact h1
mutual
theorem Has.tups {H H' : Hp} (e : Tups H H') : ∀ {v : V} {d : PyData}, noLst d = true → Has H v d → Has H' v d
 | v, .none, _, h => by unfold Has at h ⊢; exact h
 | v, .bool b, _, h => by unfold Has at h ⊢; exact h
 | v, .int i, _, h => by unfold Has at h ⊢; exact h
 | v, .str x, _, h => by unfold Has at h ⊢; exact h
 | v, .list ds, n, h => by unfold noLst at n; cases n
 | v, .tuple ds, n, h => by
   unfold noLst at n
   unfold Has at h ⊢
   obtain ⟨a, xs, h1, h2, h3⟩ := h
   exact ⟨a, xs, h1, e _ _ h2, HasL.tups e n h3⟩
 | v, .dict kvs, n, h => by unfold noLst at n; cases n
theorem HasL.tups {H H' : Hp} (e : Tups H H') : ∀ {xs : List V} {ds : List PyData}, noLstA ds = true → HasL H xs ds → HasL H' xs ds
 | xs, [], _, h => by unfold HasL at h ⊢; exact h
 | xs, d :: ds, n, h => by
   unfold noLstA at n
   rw [Bool.and_eq_true] at n
   unfold HasL at h ⊢
   obtain ⟨x, r, h1, h2, h3⟩ := h
   exact ⟨x, r, h1, Has.tups e n.1 h2, HasL.tups e n.2 h3⟩
end
theorem Ms.tups {H H' : Hp} {xs : List V} {ms : List Msg} (h : Ms H xs ms) (e : Tups H H') : Ms H' xs ms := HasL.tups e (noLst_ms ms) h
theorem noLst_m (m : Msg) : noLst (mD m) = true := by simp [noLst, noLstA, mD]
def But (ps : List Addr) (H H' : Hp) : Prop := ∀ c o, H c = some o → c ∉ ps → H' c = some o
theorem putF_len (f : Str) (v : V) : ∀ fs : List (Str × V), (putF f v fs).length ≤ fs.length + 1
 | [] => Nat.le_refl _
 | (g, x) :: r => by
   show (if g = f then (g, v) :: r else (g, x) :: putF f v r).length ≤ _
   have := putF_len f v r
   split
   · simp
   · simp only [List.length_cons]; omega
end L2
namespace L2
open PySem PySem.Spec PyProof.Rows PySem.W
structure Fly (P : Program) (w : World) (outer : List Env) (H H' : Hp) (h : Heap) (a : Addr) (cls : Value) (h' : Heap) : Prop where
 ex : ∃ (B : Heap) (a0 : Value) (hr : Heap) (Ls : List Addr), Heap.FlyingW B outer a cls a0 h' ∧ Un (frs outer) [] H H' h hr ∧ HOk P w H' hr ∧ (∀ b o, hr.get? b = some o → b ∉ frs outer → b ∉ Ls → B.get? b = some o) ∧ (∀ L ∈ Ls, h.get? L = none ∧ H' L = none) ∧ hr.UpToSlots h' ∧ hr.get? a = none
def CXF (P : Program) (w : World) : CXT := fun outer H s E e s' => ∃ a cls H', e = .ref a ∧ s'.os = s.os ∧ AllBare s'.gens ∧ Fly P w outer H H' s.heap a cls s'.heap ∧ H' a = none ∧ E cls none H'
theorem obj_at {P : Program} {w : World} {H : Hp} {h : Heap} {a : Addr} {o : HO} (x : ObjOk P w H h a o) : ∃ ob, h.get? a = some ob := by
 cases o with
 | lst xs => obtain ⟨_, _, _, _, e⟩ := x; exact ⟨_, e⟩
 | tup xs => obtain ⟨_, _, _, ob, e, _⟩ := x; exact ⟨_, e⟩
 | dK kvs => obtain ⟨_, _, _, _, o, _, _, e, _⟩ := x; exact ⟨_, e⟩
 | dT kvs => obtain ⟨_, _, _, _, o, _, _, e, _⟩ := x; exact ⟨_, e⟩
 | set S n => obtain ⟨o, _, _, _, e, _⟩ := x; exact ⟨_, e⟩
 | ins C dx fs => obtain ⟨_, _, _, e, _⟩ := x; exact ⟨_, e⟩
 | own y => obtain ⟨_, e⟩ := x; exact ⟨_, e⟩
 | xd fs => obtain ⟨_, ⟨_, _, _, e, _⟩, _⟩ := x; exact ⟨_, e⟩
 | rng lo hi => obtain ⟨_, _, _, e⟩ := x; exact ⟨_, e⟩
 | frz ob u => obtain ⟨e, _⟩ := x; exact ⟨_, e⟩
 | tbl ps => exact ⟨_, show h.get? a = some _ from x⟩
 | met f y => exact ⟨_, show h.get? a = some _ from x⟩
 | ext φ => obtain ⟨_, ⟨_, e⟩, _⟩ := x; exact ⟨_, e⟩
theorem un_fly {P : Program} {w : World} {fs : List Addr} {H H' : Hp} {h hr h' B : Heap} {Ls : List Addr} (un : Un fs [] H H' h hr) (hok : HOk P w H' hr) (cov : ∀ b o, hr.get? b = some o → b ∉ fs → b ∉ Ls → B.get? b = some o) (hL : ∀ L ∈ Ls, h.get? L = none ∧ H' L = none)
   (st : B.StaysIn h') (sm : hr.UpToSlots h') (hf : ∀ b ∈ fs, H b = none ∧ ∀ o, h.get? b = some o → ∀ vs, o.data ≠ .fields vs) (hfH : ∀ b ∈ fs, H' b = none) : Un fs [] H H' h h' ∧ HOk P w H' h' := by
 have tr : ∀ b u o, H' b = some u → hr.get? b = some o → h'.get? b = some o := fun b u o hb ho => by
   refine st b o (cov b o ho (fun z => ?_) fun z => ?_)
   · rw [hfH b z] at hb; cases hb
   · rw [(hL b z).2] at hb; cases hb
 have ne : ∀ b o, h.get? b = some o → b ∉ Ls := fun b o e z => by rw [(hL b z).1] at e; cases e
 refine ⟨⟨fun b o e n hb hx => st b o (cov b o (un.keep b o e n hb hx) hb (ne b o e)), fun b o e n hb hx => ?_, un.free, fun b o e hx => ?_, un.tups, un.frzs, un.tbls⟩, fun b u e => ?_⟩
 · obtain ⟨sl, e1⟩ := un.slot b o e n hb hx
   obtain ⟨sl2, e2⟩ := sm b _ e1 ((hf b hb).2 o e)
   exact ⟨sl2, e2⟩
 · by_cases hb : b ∈ fs
   · obtain ⟨sl, e1⟩ := un.slot b o e (hf b hb).1 hb hx
     obtain ⟨sl2, e2⟩ := sm b _ e1 ((hf b hb).2 o e)
     exact ⟨_, e2⟩
   · obtain ⟨o', e1⟩ := un.there b o e hx
     exact ⟨o', st b o' (cov b o' e1 hb (ne b o e))⟩
 · refine (hok b u e).stay (fun c o hc ho => ?_) (fun _ q => q) fun _ _ q => q
   rcases hc with rfl | hc
   · exact tr _ _ _ e ho
   · exact tr _ _ _ hc ho
section
variable {X : Cx} {pins : List (Addr × Obj)} {σ : St} {H H' : Hp} {s : Shared}
theorem Inv.frNo (I : Inv X pins σ H s) : ∀ b ∈ frs X.stack, H b = none ∧ ∀ o, s.heap.get? b = some o → ∀ vs, o.data ≠ .fields vs := fun b hb => by
 refine ⟨I.stkFree b hb, fun o e vs hd => ?_⟩
 obtain ⟨_, o', ho, hn⟩ := I.stack.mem hb
 rw [e] at ho
 cases ho
 exact hn vs hd
theorem Inv.flown {g' : Array GenState} {t' : Nat} {d' : Drawn} {B hr h' : Heap} {Ls : List Addr} (I : Inv X pins σ H s) (un : Un (frs X.stack) [] H H' s.heap hr) (hok : HOk X.prog X.w H' hr) (cov : ∀ b o, hr.get? b = some o → b ∉ frs X.stack → b ∉ Ls → B.get? b = some o)
   (hL : ∀ L ∈ Ls, s.heap.get? L = none ∧ H' L = none) (st : B.StaysIn h') (sm : hr.UpToSlots h') (hg : AllBare g') : Inv X pins σ H' { s with heap := h', gens := g', drawn := d', toks := t' } := by
 have hfH : ∀ b ∈ frs X.stack, H' b = none := fun b hb => by
   obtain ⟨_, o, ho, _⟩ := I.stack.mem hb
   exact un.free b o ho (I.stkFree b hb) (by simp)
 obtain ⟨u, k⟩ := un_fly un hok cov hL st sm I.frNo hfH
 exact I.call (ch := []) u k hg (fun b z => absurd z (by simp))
end
structure Exc (K : W.Frag) (mg : Str → Option Value) (x : Str) (C : Addr) : Prop where
 at_ : mg x = some (.ref C)
 exc : W.excIn K C [.type "ValueError", .type "Exception", .type "BaseException", .type "object"] "ValueError.__new__" = true
theorem exc_own {K : W.Frag} {mg : Str → Option Value} {x : Str} {C : Addr} {h : Heap} {bmB : List Value} {newId : String} (X : K.In h) (e : mg x = some (.ref C)) (q : W.excIn K C bmB newId = true) : OwnCls x C bmB newId mg h := by
 refine ⟨e, ?_⟩
 unfold W.excIn at q
 split at q
 · rename_i dd cd sl ho
   split at q
   · rename_i C' bm k0 k1 k2 k3 n k5 hm hs
     simp only [Bool.and_eq_true, beq_iff_eq, Bool.not_eq_true'] at q
     obtain ⟨⟨⟨⟨⟨rfl, rfl⟩, hdel⟩, ht⟩, hok⟩, hni⟩ := q
     obtain ⟨nm, bs, mro, ns, qn, hd, sn, sub, ab, col, del⟩ := cd
     dsimp only at hm hdel hok hni
     subst hm hdel
     have hsl : sl = #[k0, k1, k2, k3, some (.builtin n), k5] := by
       obtain ⟨l⟩ := sl
       simp only at hs
       rw [hs]
     subst hsl
     exact ⟨bm, ns, nm, qn, bs, hd, sn, sub, ab, col, dd, k0, k1, k2, k3, k5, _, X _ _ ho, .of_isNs (W.isNs_of_in X hok), W.nsMap_none_of_in X hok hni, W.tail_of_in X ht⟩
   · cases q
 · cases q
def tRaise (C : Addr) (E : XK) (t : TA) : TS := fun _ σ H => t σ H fun vs H1 => vs.length ≤ sizeLine ∧ E (.ref C) none H1
section
variable {P : Program} {w : World} {K : W.Frag} {mg : Str → Option Value} {base : Heap} {N : List Str} {qual : Str} {scope : Scope} {f : Addr} {cd : Value} {A : Around} {outer : List Env} {s : Shared} {H : Hp} {E : XK}
theorem ps_raise {x : Str} {C : Addr} {np cpos pos : Pos} {e : Expr} {es : List Expr} {t : TA} (Z : Exc K mg x C) (ha : PAt (cxOf (CXF P w) P w K mg base N qual scope f cd A outer s H E) e es t)
   (hg : Gl (cxOf (CXF P w) P w K mg base N qual scope f cd A outer s H E) x := by rfl) (hd : (x == ("__debug__" : Str)) = false := by decide) :
   PS (cxOf (CXF P w) P w K mg base N qual scope f cd A outer s H E) (.Raise (some (.Call (.Name x np) (e :: es) [] cpos)) none pos) (tRaise C E t) := by
 intro pins s1 σ H1 D I h
 have X1 := I.kIn
 obtain ⟨tl, M, nm, q, bs, hdct, sn, sub, ab, col, dd, k0, k1, k2, k3, k5, mN, hC, hN, hni, T⟩ := (exc_own (h := (cxOf (CXF P w) P w K mg base N qual scope f cd A outer s H E).base) I.ok.mod.kin Z.at_ Z.exc).obj
 refine wpAny_Raise_call_subT (C := C) (nm := nm) (q := q) (N := M) (bs := bs) (bm := tl) (hdct := hdct) (sn := sn) (sub := sub) (ab := ab) (col := col) (dd := dd) (k0 := k0) (k1 := k1) (k2 := k2) (k3 := k3) (k5 := k5)
   PySem.F.excBase_ValueError (mN := mN) (T.hasType PySem.F.excBase_ValueError.hasBase) (I.ok.hd rfl) (by rw [ha.all.st]; exact back_any _ _ _) hni (ld_glob I hg Z.at_ ⟨rfl, ?_⟩ hd)
 have he := ha.all.he ha.tl
 have hsp := ha.all.pa cpos pins s1 σ H1 _ I h
 rw [he] at hsp ⊢
 refine Calls.evalArgs_plain (wpAny_mono hsp (fun us s2 h2 => ?_) fun _ _ y => y)
 obtain ⟨vs, H2, I2, rv, hlen, hE⟩ := h2
 refine ⟨rfl, by rw [← rv.length]; exact hlen, I2.bk _ _ hC, hN.keeps I2.bk, T.keeps I2.bk, fun h' ea hx => ?_⟩
 have fr := I2.stack
 have hin : ∀ env ∈ (cxOf (CXF P w) P w K mg base N qual scope f cd A outer s H E).stack, ∀ b, env.frame = some b → b ∈ frs (cxOf (CXF P w) P w K mg base N qual scope f cd A outer s H E).stack := fun env he b hb => List.mem_filterMap.mpr ⟨env, he, hb⟩
 refine wpAny_leaves_madeW (base := hideAll s2.heap (frs (cxOf (CXF P w) P w K mg base N qual scope f cd A outer s H E).stack)) (h := s2.heap) I2.ok.frames rfl (fun b o q => of_hideAll _ q) (funFrames_hide fr hin) hx fun h2 tt fl _ _ sm => ?_
 refine ⟨ea, .ref C, H2, rfl, I2.os, I2.bare, ⟨_, _, s2.heap, [s.heap.objs.size], fl, I2.base, I2.hok, fun b o ho hb hL => hideAll_get _ ho fun hm => ?_, fun L z => by rw [List.mem_singleton.mp z]; exact ⟨Heap.get?_none_of_le (Nat.le_refl _), I2.free⟩, (Heap.UpToSlots.of_keeps hx.keeps).trans sm, hx.new⟩, ?_, hE⟩
 · have hm' : b ∈ s.heap.objs.size :: frs outer := hm
   rcases List.mem_cons.mp hm' with z | z
   · exact hL (List.mem_singleton.mpr z)
   · exact hb z
 · cases q : H2 ea with
   | none => rfl
   | some u =>
     obtain ⟨o, ho⟩ := obj_at (I2.hok ea u q)
     have hn := hx.new
     rw [ho] at hn; cases hn
end
end L2
namespace L2
open PySem PySem.Spec PyProof.Rows PySem.W
section
variable {P : Program} {w : World} {K : W.Frag} {mg : Str → Option Value} {base : Heap}
theorem Fun.okX {x qual : Str} {st : Stmt} {f : Addr} {fd : FuncData} {N ps : List Str} {k : Nat} {sp : Sp} (F : Fun K x qual st f fd) (S : FnScope N ps (qQ st)) (len : ∀ vs H Q E, sp vs H Q E → vs.length = ps.length)
   (hbody : ∀ (cdv : Value) (A : Around) (outer : List Env) (s : Shared) (H : Hp) (vs : List V) (Q : VK) (E : XK), Room k (A.deeper (envOfC qual (qQ st) s.heap.objs.size f cdv)) → sp vs H Q E →
     ∃ t, PSs (cxOf (CXF P w) P w K mg base N qual (qQ st) f cdv A outer s H E) (qw st) t ∧ t { nx := fun _ H' => Q .non H', rt := Q } (start N vs) H) : FnOk P w K mg base (CXF P w) (k + 1) f fd ps sp := by
 obtain ⟨oc, od, kV, doc, pm, an, cdv, ct, osl, rfl, lk, hcd⟩ := F.ex
 exact fn_of lk hcd S len fun A outer s H vs Q E hr hsp => hbody cdv A outer s H vs Q E hr hsp
end
structure CalleeMX (P : Program) (w : World) (K : W.Frag) (mg : Str → Option Value) (base : Heap) (k : Nat) (C : Addr) (m : Str) (ps : List Str) (sp : Sp) : Prop where
 ex : ∃ f fd, FnOk P w K mg base (CXF P w) k f fd ps sp ∧ Meth K C m f ∧ Binds K fd ps []
section
variable {X : Cx} {k : Nat} {C : Addr} {m x : Str} {ps : List Str} {sp : Sp} {o e : Expr} {es : List Expr} {ta tv : TE} {t : TA} {p apos pos pos' : Pos} {E : XK}
theorem as_methX {pl : Sem Bool} (M : CalleeMX X.prog X.w X.K X.mg X.base k C m ps sp) (c : Cls X.K C) (hr : Room k X.A) (hx : Passes (CXF X.prog X.w) X E) (he : PE X o ta) (ha : PAt X e es t)
   (ht : eval (.Call (.Attribute o m apos) (e :: es) [] pos) X.env = (do
     let ov ← eval o X.env
     standAt apos.atName
     let (f, first) ← holding [ov] (getMethod ov m pl)
     callWith pos f first (backTo pos (starEach (e :: es) X.env)) (backToKw pos (keywordEach [] X.env))) := by rfl) :
   PE X (.Call (.Attribute o m apos) (e :: es) [] pos) (tMeth C m sp [] E ta t) := by
 obtain ⟨f, fd, F, hm, hb⟩ := M.ex
 exact pe_meth (pl := pl) he c hm F hr hb .nil hx ha.all.pa (ha.all.he ha.tl) (by rw [ha.tl]; exact back_any _ _ _) ht
end
theorem pass_on {P : Program} {w : World} {K : W.Frag} {mg : Str → Option Value} {base : Heap} {N : List Str} {qual : Str} {scope : Scope} {f : Addr} {cd : Value} {A : Around} {outer : List Env} {s : Shared} {H : Hp} {E : XK} :
   Passes (CXF P w) (cxOf (CXF P w) P w K mg base N qual scope f cd A outer s H E) E := by
 intro pins σ H1 s1 e s2 I h
 obtain ⟨a, cls, H2, rfl, os, bare, ⟨B, a0, hr, Ls, fl, un, hok, cov, hL, sm, han⟩, ha, hE⟩ := h
 have hfH : ∀ b ∈ frs (cxOf (CXF P w) P w K mg base N qual scope f cd A outer s H E).stack, H2 b = none := fun b hb => by
   obtain ⟨_, o, ho, _⟩ := I.stack.mem hb
   exact un.free b o ho (I.stkFree b hb) (by simp)
 have I2 := I.call (ch := []) (g' := s2.gens) (d' := s2.drawn) (t' := s2.toks) un hok bare (fun b z => absurd z (by simp))
 have fl' : Heap.FlyingW B (envOfC qual scope s.heap.objs.size f cd :: outer) a cls a0 s2.heap := fl
 refine wpAny_leaves_onW (env := envOfC qual scope s.heap.objs.size f cd) (outer := outer) I.ok.frames rfl fl' fun h' fl2 sm2 => ?_
 refine ⟨a, cls, H2, rfl, os.trans I.os, bare, ⟨B, a0, hr, s.heap.objs.size :: Ls, fl2, I2.base, hok, fun b o ho hb hL2 => ?_, fun L z => ?_, sm.trans sm2, han⟩, ha, hE⟩
 · refine cov b o ho (fun hm => ?_) fun z => hL2 (List.mem_cons_of_mem _ z)
   have hm' : b ∈ s.heap.objs.size :: frs outer := hm
   rcases List.mem_cons.mp hm' with z | z
   · exact hL2 (by rw [z]; exact List.mem_cons_self)
   · exact hb z
 · rcases List.mem_cons.mp z with z | z
   · rw [z]; exact ⟨Heap.get?_none_of_le (Nat.le_refl _), I2.free⟩
   · refine ⟨?_, (hL L z).2⟩
     cases q : s.heap.get? L with
     | none => rfl
     | some o =>
       obtain ⟨o', e'⟩ := I.base.there L o q (fun y => by cases (show L ∈ ([] : List Addr) from y))
       rw [(hL L z).1] at e'; cases e'
abbrev Cx.tries (X : Cx) (pn : List (Addr × Obj)) (xe : Value → Shared → Prop) : Cx := { X with pn := pn, xe := xe }
abbrev Cx.held (X : Cx) (e : Value) : Cx := { X with A := X.A.mark (some e), calm := false, xe := fun _ _ => False }
section
variable {X : Cx} {pins : List (Addr × Obj)} {σ : St} {H H' : Hp} {s : Shared} {xe : Value → Shared → Prop} {e : Value}
theorem Inv.tries (I : Inv X pins σ H s) : Inv (X.tries (X.pn ++ pins) xe) [] σ H s :=
 ⟨⟨I.ok.mod, I.ok.kind, I.ok.glob, I.ok.blt, I.ok.above, I.ok.inj, I.ok.has, I.ok.cab, I.ok.hd, I.ok.frames, I.ok.stk, I.ok.exf, I.ok.bs, I.ok.bsz, I.ok.noex, I.ok.exfs, I.ok.funs, I.ok.frf⟩, I.os, I.bare, I.base, I.loc, I.cell, I.free, I.freeC,
   fun p hp => I.pin p (by rw [List.append_nil] at hp; exact hp), I.hok, I.len⟩
theorem Inv.untries {pins' : List (Addr × Obj)} (I : Inv (X.tries (X.pn ++ pins) xe) pins' σ H s) : Inv X pins σ H s :=
 ⟨⟨I.ok.mod, I.ok.kind, I.ok.glob, I.ok.blt, I.ok.above, I.ok.inj, I.ok.has, I.ok.cab, I.ok.hd, I.ok.frames, I.ok.stk, I.ok.exf, I.ok.bs, I.ok.bsz, I.ok.noex, I.ok.exfs, I.ok.funs, I.ok.frf⟩, I.os, I.bare, I.base, I.loc, I.cell, I.free, I.freeC,
   fun p hp => I.pin p (List.mem_append_left _ hp), I.hok, I.len⟩
theorem Inv.held (I : Inv X pins σ H s) : Inv (X.held e) pins σ H s :=
 ⟨⟨I.ok.mod, I.ok.kind, I.ok.glob, I.ok.blt, I.ok.above, I.ok.inj, I.ok.has, I.ok.cab, (fun z => by cases z), I.ok.frames, I.ok.stk, I.ok.exf, I.ok.bs, I.ok.bsz, I.ok.noex, I.ok.exfs, I.ok.funs, I.ok.frf⟩, I.os, I.bare, I.base, I.loc, I.cell, I.free, I.freeC, I.pin, I.hok, I.len⟩
theorem Inv.unheld (I : Inv (X.held e) pins σ H s) (hd : X.calm = true → X.A.handled = none) : Inv X pins σ H s :=
 ⟨⟨I.ok.mod, I.ok.kind, I.ok.glob, I.ok.blt, I.ok.above, I.ok.inj, I.ok.has, I.ok.cab, hd, I.ok.frames, I.ok.stk, I.ok.exf, I.ok.bs, I.ok.bsz, I.ok.noex, I.ok.exfs, I.ok.funs, I.ok.frf⟩, I.os, I.bare, I.base, I.loc, I.cell, I.free, I.freeC, I.pin, I.hok, I.len⟩
theorem Inv.trackN {D : Addr} {o : HO} (I : Inv X pins σ H s) (hn : H D = none) (h0 : X.s₀.heap.get? D = none) (hL : D ≠ X.env.locals) (hc : ∀ x c, X.env.cells.lookup x = some c → c ≠ D) (hp : ∀ p ∈ X.pn ++ pins, p.1 ≠ D) (ok : ObjOk X.prog X.w (upd H D o) s.heap D o) :
   Inv X pins σ (upd H D o) s := by
 refine ⟨I.ok, I.os, I.bare, ⟨I.base.keep, I.base.slot, fun b u e n hx => ?_, I.base.there, fun b xs q => ?_, fun b u xs q => ?_, fun b ps q => ?_⟩, I.loc, I.cell, ?_, fun x c e => ?_, fun p h => ?_, fun b u e => ?_, I.len⟩
 · rw [qv (fun z => by rw [z, h0] at e; cases e)]; exact I.base.free b u e n hx
 · have := I.base.tups b xs q
   rw [qv (qy this hn)]; exact this
 · have := I.base.frzs b u xs q
   rw [qv (qy this hn)]; exact this
 · obtain ⟨more, e⟩ := I.base.tbls b ps q
   exact ⟨more, by rw [qv (qy e hn)]; exact e⟩
 · rw [qv (Ne.symm hL)]; exact I.free
 · rw [qv (hc x c e)]; exact I.freeC x c e
 · obtain ⟨a, b, c⟩ := I.pin p h
   exact ⟨a, by rw [qv (hp p h)]; exact b, c⟩
 · by_cases hb : b = D
   · subst hb; rw [qY] at e; cases e; exact ok
   · rw [qv hb] at e
     exact (I.hok b u e).stay (fun _ _ _ q => q) (fun c q => by rw [qv (qy q hn)]; exact q) fun c xs q => by rw [qv (qy q hn)]; exact q
theorem Inv.gone {h' : Heap} {m' : Str → Option Value} {t' : Nat} (I : Inv X pins σ H s) (hn' : h'.Ns X.env.locals m') (hs : Heap.SameBut X.env.locals s.heap h') : Inv X pins (List.replicate X.N.length none) H { s with heap := h', toks := t' } := by
 have ne : ∀ b o, X.s₀.heap.get? b = some o → b ≠ X.env.locals := fun b o e => Nat.ne_of_lt (Nat.lt_of_lt_of_le (Heap.lt_size e) I.ok.above)
 refine ⟨I.ok, I.os, I.bare, ⟨fun b o e n hb hx => (hs.2 b (ne b o e)).trans (I.base.keep b o e n hb hx), fun b o e n hb hx => ?_, I.base.free, fun b o e hx => ?_, I.base.tups, I.base.frzs, I.base.tbls⟩, ⟨_, hn', fun j y v' e1 e2 e3 => ?_⟩, fun y c e => ?_, I.free, I.freeC, fun p hp => ?_, fun b u e => ?_, by simp⟩
 · obtain ⟨sl, e1⟩ := I.base.slot b o e n hb hx
   exact ⟨sl, (hs.2 b (ne b o e)).trans e1⟩
 · obtain ⟨o', e1⟩ := I.base.there b o e hx
   exact ⟨o', (hs.2 b (ne b o e)).trans e1⟩
 · rw [List.getElem?_replicate] at e2
   split at e2 <;> cases e2
 · obtain ⟨w', z⟩ := I.cell y c e
   exact ⟨w', z.sameBut hs (I.cne y c e)⟩
 · obtain ⟨e, n, ne', nf, d⟩ := I.pin p hp
   exact ⟨(hs.2 p.1 ne').trans e, n, ne', nf, d⟩
 · refine (I.hok b u e).stay (fun c w' hc q => (hs.2 c ?_).trans q) (fun _ q => q) fun _ _ q => q
   rintro rfl
   have hfree := I.free
   rcases hc with rfl | hc
   · rw [hfree] at e; cases e
   · rw [hfree] at hc; cases hc
end
def ExcO (a : Addr) (cls : Value) : HO := .ext fun h => ∃ o, h.get? a = some o ∧ o.cls = cls
def tTryAs (K : W.Frag) (C : Addr) (E : XK) (i len : Nat) (tb ts : TS) : TS := fun D σ H => tb D σ H ∧ ∀ cls a H', E cls none H' → H' a = none → W.exmOne K cls (.ref C) = some true ∧
 ts { nx := fun _ H2 => D.nx (List.replicate len none) H2, rt := D.rt, bk := fun _ H2 => D.bk (List.replicate len none) H2, ct := fun _ H2 => D.ct (List.replicate len none) H2 } ((List.replicate len none).set i (some (.ref a))) (upd H' a (ExcO a cls))
section
variable {X : Cx} {body : List Stmt} {x n : Str} {b0 : Stmt} {suite : List Stmt} {np hpos pos : Pos} {tb ts : TS} {E : XK} {i : Nat} {C : Addr}
theorem ps_tryAs (K : W.Frag) (hb : ∀ pn xe, Passes (CXF X.prog X.w) (X.tries pn xe) E → PSs (X.tries pn xe) body tb) (hm : X.mg x = some (.ref C)) (hs : ∀ a, PSs (X.held (.ref a)) (b0 :: suite) ts) (hN : X.N.Nodup) (hi : X.N[i]? = some n) (hl : X.env.kindOf n = some .local)
   (hst : X.stack = X.env :: X.outer) (hfr : X.env.frame = some X.env.locals) (hex : X.ex = []) (hK : X.K = K := by rfl) (hg : Gl X x := by rfl) (hd : (x == ("__debug__" : Str)) = false := by decide) :
   PS X (.Try body [.ExceptHandler (some (.Name x np)) (some n) (b0 :: suite) hpos] [] [] pos) (tTryAs K C E i X.N.length tb ts) := by
 subst hK
 intro pins s σ H D I h
 obtain ⟨h1, h2⟩ := h
 have hp : Passes (CXF X.prog X.w) (X.tries (X.pn ++ pins) fun e s' => ∃ σ0 H0 s0, Inv X pins σ0 H0 s0 ∧ CXF X.prog X.w X.stack H0 s0 E e s') E := fun pins' σ' H' s' e s'' I' c => ⟨σ', H', s', I'.untries, c⟩
 have B := hb _ _ hp [] s σ H D I.tries h1
 refine wpAny_Try_except (wpAny_mono B (fun f s1 q => ?_) (fun e s1 q => ?_))
 · cases f with
   | next => obtain ⟨σ', H', I', q'⟩ := q; exact wpAny_execs_nil ⟨σ', H', I'.untries, q'⟩
   | brk => obtain ⟨σ', H', I', q'⟩ := q; exact ⟨σ', H', I'.untries, q'⟩
   | cont => obtain ⟨σ', H', I', q'⟩ := q; exact ⟨σ', H', I'.untries, q'⟩
   | ret u => obtain ⟨v, σ', H', I', r, q'⟩ := q; exact ⟨v, σ', H', I'.untries, r, q'⟩
 · obtain ⟨σ0, H0, s0, I0, a, cls, H', rfl, os, bare, ⟨B', a0, hr, Ls, fl, un, hok, cov, hL, sm, han⟩, ha, hE⟩ := q
   obtain ⟨hh, g, d, t, os'⟩ := s1
   obtain rfl : os' = s0.os := os
   have gone0 : ∀ b o, s0.heap.get? b = some o → b ≠ a := fun b o e z => by
     obtain ⟨o', e'⟩ := un.there b o e (by simp)
     rw [z, han] at e'; cases e'
   have fl' : Heap.FlyingW B' (X.env :: X.outer) a cls a0 hh := by rw [← hst]; exact fl
   refine wpAny_looks_onW (by rw [I0.ok.frames, hst]) hfr fl' fun h4 held4 sm4 => ?_
   refine wpAny_landsW held4 fun h5 fl5 sm5 => ?_
   have sm5' := sm.trans (sm4.trans sm5)
   have I5 := (I0.flown (g' := g) (d' := d) (t' := t) un hok cov hL fl5.1 sm5' bare).held (e := .ref a)
   obtain ⟨hx1, hsu⟩ := h2 cls a H' hE ha
   refine wpAny_handleBy_cons (codeAny_handlers_test (ld_glob (X := X.held (.ref a)) I5 hg hm ?_ hd)) (by intro q; cases q)
   obtain ⟨ob, hob, hobc⟩ := fl5.there
   have LT : Looks (model X.prog X.w) h5 (typeOf (.ref a)) cls := by rw [← hobc]; exact (Looks.ld hob).andThen .now
   refine (exm_one I5.kIn LT hx1).here ?_
   show codeAny _ _ _ _ _
   refine codeAny_handlers_suite_as ?_
   refine lands_againW fl5 fun h6 fl6 sm6 => ?_
   have sm6' := sm5'.trans sm6
   have I6 := (I0.flown (g' := g) (d' := d) (t' := t) un hok cov hL fl6.1 sm6' bare).held (e := .ref a)
   obtain ⟨ob6, hob6, hobc6⟩ := fl6.there
   have I7 := I6.weak (σ' := List.replicate X.N.length none) (by rw [List.length_replicate]; exact I6.len.symm) (fun j v z => by rw [List.getElem?_replicate] at z; split at z <;> cases z)
   have s0n : X.s₀.heap.get? a = none := by
     cases q : X.s₀.heap.get? a with
     | none => rfl
     | some o =>
       obtain ⟨o', e'⟩ := I0.base.there a o q (by rw [hex]; simp)
       exact absurd rfl (gone0 a o' e')
   have I8 := I7.trackN (D := a) (o := ExcO a cls) ha s0n (by
       obtain ⟨m, ⟨o, _, _, ho, _⟩, _⟩ := I0.loc
       exact (gone0 _ o ho).symm)
     (fun y c e => by
       obtain ⟨v, o, ho, _⟩ := I0.cell y c e
       exact gone0 _ o ho)
     (fun p hp => gone0 _ _ (I0.pin p hp).1)
     ⟨⟨ob6, hob6, hobc6⟩, ⟨ob6, hob6⟩, fun g1 g2 ⟨o, e1, e2⟩ k => ⟨o, k o e1, e2⟩⟩
   refine store_ok (X := X.held (.ref a)) I8 hN hi (.inl hl) (v := .ref a) rfl (fun s9 I9 => ?_) (.inr hl)
   refine wpAny_mono (hs a pins s9 _ _ _ I9 hsu) (fun f s10 q => ?_) (fun _ _ z => z.elim)
   have hcl : (X.env.scope.kind == .class || (X.env.scope.kind == .module && X.env.locals != X.env.globals)) = false := by rw [I.ok.kind]; rfl
   cases f with
   | next =>
     obtain ⟨σ', H2, I10, q'⟩ := q
     obtain ⟨m, hn, _⟩ := I10.loc
     exact wpAny_nameGoes hl hn hcl fun h11 m11 hn11 sb => ⟨_, H2, (I10.unheld I.ok.hd).gone hn11 sb, q'⟩
   | brk =>
     obtain ⟨σ', H2, I10, q'⟩ := q
     obtain ⟨m, hn, _⟩ := I10.loc
     exact wpAny_nameGoes hl hn hcl fun h11 m11 hn11 sb => ⟨_, H2, (I10.unheld I.ok.hd).gone hn11 sb, q'⟩
   | cont =>
     obtain ⟨σ', H2, I10, q'⟩ := q
     obtain ⟨m, hn, _⟩ := I10.loc
     exact wpAny_nameGoes hl hn hcl fun h11 m11 hn11 sb => ⟨_, H2, (I10.unheld I.ok.hd).gone hn11 sb, q'⟩
   | ret u =>
     obtain ⟨v, σ', H2, I10, r, q'⟩ := q
     obtain ⟨m, hn, _⟩ := I10.loc
     exact wpAny_nameGoes hl hn hcl fun h11 m11 hn11 sb => ⟨v, _, H2, (I10.unheld I.ok.hd).gone hn11 sb, r, q'⟩
end
end L2
namespace L2
open PySem PySem.Spec PyProof.Rows PySem.W
structure RoomH (k : Nat) (A : Around) : Prop where
 dp : A.depth + 3 * k + 5 < recursionLimit
 un : A.units + 16 * k + 200 < cLine
theorem RoomH.mono {j k : Nat} {A : Around} (r : RoomH k A) (h : j ≤ k) : RoomH j A := ⟨by have := r.dp; omega, by have := r.un; omega⟩
theorem RoomH.deeper {k : Nat} {A : Around} (r : RoomH (k + 1) A) (env : Env) : RoomH k (A.deeper env) := ⟨by have := r.dp; show A.depth + 1 + 3 * k + 5 < _; omega, by have := r.un; show A.units + 3 + 16 * k + 200 < _; omega⟩
theorem RoomH.depth {k : Nat} {A : Around} (r : RoomH k A) : A.depth < recursionLimit := by have := r.dp; omega
theorem Room.h {k : Nat} {A : Around} (r : Room k A) (e : Value) : RoomH k (A.mark (some e)) := ⟨r.dp, r.un⟩
structure FnOkH (P : Program) (w : World) (K : W.Frag) (mg : Str → Option Value) (base : Heap) (CX : CXT) (k : Nat) (f : Addr) (fd : FuncData) (ps : List Str) (sp : Sp) : Prop where
 len : ∀ vs H Q E, sp vs H Q E → vs.length = ps.length
 run : ∀ (A : Around) (outer : List Env) (s : Shared) (H : Hp) (args : Args) (us : List Value) (vs : List V) (Q : VK) (E : XK), RoomH k A → Env0 P w K mg base A outer s H → BindsTo s fd args (ps.zip us) → Vals vs us → sp vs H Q E →
   codeAny (model P w) A (.call (.ref f) args) (CR CX outer P w H s Q E) s
abbrev cxOfH (CX : CXT) (P : Program) (w : World) (K : W.Frag) (mg : Str → Option Value) (base : Heap) (N : List Str) (qual : Str) (scope : Scope) (f : Addr) (cd : Value) (A : Around) (outer : List Env) (s : Shared) (H : Hp) (E : XK) : Cx :=
 { cxOf CX P w K mg base N qual scope f cd A outer s H E with calm := false }
theorem inv_startH {CX : CXT} {P : Program} {w : World} {K : W.Frag} {mg : Str → Option Value} {base : Heap} {N ps : List Str} {qual : Str} {scope : Scope} {f : Addr} {cd : Value} {A : Around} {outer : List Env} {s s1 : Shared} {H : Hp} {E : XK} {us : List Value} {vs : List V}
   (S : FnScope N ps scope) (e0 : Env0 P w K mg base A outer s H) (hl : vs.length = ps.length) (r : Vals vs us)
   (x : InCallC s s.heap.objs.size (bindL (envOfC qual scope s.heap.objs.size f cd).kindOf (ps.zip us) fun _ => none) (cellsFrom (s.heap.objs.size + 1) scope.names []) (bindC (envOfC qual scope s.heap.objs.size f cd).kindOf (ps.zip us) fun _ => none) s1) :
   Inv (cxOfH CX P w K mg base N qual scope f cd A outer s H E) [] (start N vs) H s1 := by
 have I := inv_start (CX := CX) (N := N) (qual := qual) (scope := scope) (f := f) (cd := cd) (A := { A with handled := none }) (outer := outer) (E := E) S rfl ⟨e0.frames, e0.mod, e0.bs, e0.bsz, e0.funs, e0.frf, e0.hok, e0.bare⟩ hl r x
 exact ⟨⟨I.ok.mod, I.ok.kind, I.ok.glob, I.ok.blt, I.ok.above, I.ok.inj, I.ok.has, I.ok.cab, (fun z => by cases z), Around.frames_deeper e0.frames, I.ok.stk, I.ok.exf, I.ok.bs, I.ok.bsz, I.ok.noex, I.ok.exfs, I.ok.funs, I.ok.frf⟩, I.os, I.bare, I.base, I.loc, I.cell, I.free, I.freeC, I.pin, I.hok, I.len⟩
theorem fn_ofH {CX : CXT} {P : Program} {w : World} {K : W.Frag} {mg : Str → Option Value} {base : Heap} {k : Nat} {f : Addr} {name qual : Str} {params : Arguments} {body : List Stmt} {scope : Scope} {dV kV doc pm cdv ct oc : Value} {an od : Option Addr}
   {osl : Array (Option Value)} {N ps : List Str} {sp : Sp} (lk : K.lookup f = some ⟨oc, od, .func (W.fnOf name qual params body scope dV kV doc pm an cdv ct), osl⟩) (hcd : W.codeIn K cdv qual = true) (S : FnScope N ps scope)
   (len : ∀ vs H Q E, sp vs H Q E → vs.length = ps.length)
   (hbody : ∀ (A : Around) (outer : List Env) (s : Shared) (H : Hp) (vs : List V) (Q : VK) (E : XK), RoomH k (A.deeper (envOfC qual scope s.heap.objs.size f cdv)) → sp vs H Q E →
     ∃ t, PSs (cxOfH CX P w K mg base N qual scope f cdv A outer s H E) body t ∧ t { nx := fun _ H' => Q .non H', rt := Q } (start N vs) H) :
   FnOkH P w K mg base CX (k + 1) f (W.fnOf name qual params body scope dV kV doc pm an cdv ct) ps sp := by
 refine ⟨len, fun A outer s H args us vs Q E hr e0 hb r hsp => ?_⟩
 have hl := len _ _ _ _ hsp
 have KX : K.In s.heap := e0.mod.kin.keeps fun b o e => (e0.bs b o e).1
 have lim : s.heap.NoLimit := e0.mod.nolimit.keeps fun b o e => (e0.bs b o e).1
 have hkind : ∀ y ∈ ps.zip us, scope.names.lookup y.1 = some .local ∨ (scope.names.lookup y.1 = some .cell ∧ ((cellsFrom (s.heap.objs.size + 1) scope.names []).lookup y.1).isSome = true) := fun ⟨n, v⟩ hy => by
   rcases S.par n (List.of_mem_zip hy).1 with q | q
   · exact .inl q
   · exact .inr ⟨q, W.cellsFrom_some _ _ _ (.inl q)⟩
 refine codeAny_call_function hr.depth (KX _ _ lk) rfl S.co S.gen rfl (W.codeRec_of KX hcd) (hb _ _ _ _ ?_)
 refine wpAny_newFunctionEnv_cells S.kind hkind fun env he s1 x => ?_
 subst he
 refine ⟨lim.keeps x.toInCall.keep, codeAny_func ?_⟩
 obtain ⟨t, ht, hq⟩ := hbody A outer s H vs Q E (hr.deeper _) hsp
 have I : Inv (cxOfH CX P w K mg base N qual scope f cdv A outer s H E) [] (start N vs) H s1 := inv_startH S e0 hl r x
 refine wpAny_mono (ht [] s1 (start N vs) H _ I hq) (fun fl s' hs => ?_) fun e s' hs => hs
 have fin : ∀ {σ' : St} {H' : Hp} {v : V} {u : Value}, Inv (cxOfH CX P w K mg base N qual scope f cdv A outer s H E) [] σ' H' s' → RelV v u → Q v H' → CE outer P w H s Q u s' :=
   fun {σ' H' v u} J rv q => ⟨v, H', J.os, J.bare, J.base, J.hok, rv, q⟩
 cases fl with
 | ret u =>
   obtain ⟨v, σ', H', J, rv, q⟩ := hs
   exact fin J rv q
 | next =>
   obtain ⟨σ', H', J, q⟩ := hs
   exact fin (v := V.non) (u := Value.none) J rfl q
 | brk =>
   obtain ⟨_, _, _, q⟩ := hs
   exact False.elim q
 | cont =>
   obtain ⟨_, _, _, q⟩ := hs
   exact False.elim q
section
variable {P : Program} {w : World} {K : W.Frag} {mg : Str → Option Value} {base : Heap}
theorem Fun.okH {x qual : Str} {st : Stmt} {f : Addr} {fd : FuncData} {N ps : List Str} {k : Nat} {sp : Sp} (F : Fun K x qual st f fd) (S : FnScope N ps (qQ st)) (len : ∀ vs H Q E, sp vs H Q E → vs.length = ps.length)
   (hbody : ∀ (cdv : Value) (A : Around) (outer : List Env) (s : Shared) (H : Hp) (vs : List V) (Q : VK) (E : XK), RoomH k (A.deeper (envOfC qual (qQ st) s.heap.objs.size f cdv)) → sp vs H Q E →
     ∃ t, PSs (cxOfH CX0 P w K mg base N qual (qQ st) f cdv A outer s H E).nox (qw st) t ∧ t { nx := fun _ H' => Q .non H', rt := Q } (start N vs) H) : FnOkH P w K mg base CX0 (k + 1) f fd ps sp := by
 obtain ⟨oc, od, kV, doc, pm, an, cdv, ct, osl, rfl, lk, hcd⟩ := F.ex
 refine fn_ofH lk hcd S len fun A outer s H vs Q E hr hsp => ?_
 obtain ⟨t, h, q⟩ := hbody cdv A outer s H vs Q E hr hsp
 exact ⟨t, h.nox, q⟩
end
structure CalleeH (P : Program) (w : World) (K : W.Frag) (mg : Str → Option Value) (base : Heap) (k : Nat) (x : Str) (ps : List Str) (sp : Sp) : Prop where
 ex : ∃ f fd, FnOkH P w K mg base CX0 k f fd ps sp ∧ mg x = some (.ref f) ∧ W.keepIn K (.ref f) = true ∧ Binds K fd ps []
section
variable {X : Cx} {CX : CXT} {k : Nat} {f C : Addr} {fd : FuncData} {ps : List Str} {sp : Sp} {dvs : List V} {ds : List Value} {E : XK} {x m : Str} {p pos apos : Pos} {e o : Expr} {es : List Expr} {ta : TE} {t : TA}
theorem run_fnH {pins : List (Addr × Obj)} {σ : St} {H : Hp} {s : Shared} {Q : VK} {us : List Value} {vs : List V} (F : FnOkH X.prog X.w X.K X.mg X.base CX k f fd ps sp) (hr : RoomH k X.A) (hb : Binds X.K fd ps ds) (hd : Vals dvs ds) (hx : Passes CX X E)
   (I : Inv X pins σ H s) (r : Vals vs us) (h : sp (vs ++ dvs) H Q E) : wpAny (model X.prog X.w) X.A (call (.ref f) us) (EP X pins σ Q) X.xe s := by
 have r2 : Vals (vs ++ dvs) (us ++ ds) := r.append hd
 have hl : (us ++ ds).length = ps.length := by rw [← r2.length]; exact F.len _ _ _ _ h
 refine wpAny_call (codeAny_mono (F.run X.A X.stack s H ⟨us, []⟩ (us ++ ds) (vs ++ dvs) Q E hr I.env0 (hb s us I.kIn hl) r2 h) fun r s' hq => ?_)
 cases r with
 | error e => exact hx pins σ H s e s' I hq
 | ok fl =>
   cases fl with
   | ret u => exact I.after hq
   | next => exact False.elim hq
   | brk => exact False.elim hq
   | cont => exact False.elim hq
theorem pe_callH (F : FnOkH X.prog X.w X.K X.mg X.base CX k f fd ps sp) (hr : RoomH k X.A) (hg : Gl X x) (hm : X.mg x = some (.ref f)) (hk : W.keepIn X.K (.ref f) = true) (hb : Binds X.K fd ps ds) (hd : Vals dvs ds) (hx : Passes CX X E)
   (ha : PA X (e :: es) t) (hdb : (x == ("__debug__" : Str)) = false := by decide) (he : starEach (e :: es) X.env = (false, eval e X.env) :: starEach es X.env := by rfl) (hpl : (backTo pos (starEach es X.env)).any (·.1) = false := by rfl) :
   PE X (.Call (.Name x p) (e :: es) [] pos) (tCall sp dvs E t) := by
 intro pins s σ H Q I h
 refine wpAny_Call_Name_kw (ld_glob I hg hm ?_ hdb)
 refine W.callWith_K (h₀ := X.base) I.ok.mod.kin hk (thn (ha pos pins s σ H _ I h) fun us s1 ⟨vs, H1, I1, r, q⟩ => ⟨I1.kIn, ?_⟩) he hpl
 exact run_fnH F hr hb hd hx I1 r q
theorem as_fnH (C : CalleeH X.prog X.w X.K X.mg X.base k x ps sp) (hr : RoomH k X.A) (ha : PAt X e es t) (hg : Gl X x := by rfl) (hdb : (x == ("__debug__" : Str)) = false := by decide) :
   PE X (.Call (.Name x p) (e :: es) [] pos) (tCall sp [] E0 t) := by
 obtain ⟨f, fd, F, hm, hk, hb⟩ := C.ex
 exact pe_callH F hr hg hm hk hb .nil pass0 ha.all.pa hdb (ha.all.he ha.tl) (by rw [ha.tl]; exact back_any _ _ _)
end
end L2
namespace L2
open PySem PySem.Spec PySem.Calls PyProof.Rows PySem.W Builtin Builtin.ObjectAttr Builtin.Getset_descriptor
structure ExcCls (K : W.Frag) (C : Addr) : Prop where
 ga : W.findIn K (.ref C) "__getattribute__" = some (some (.builtin "BaseException.__getattribute__"))
 cl : W.findIn K (.ref C) "__class__" = some (some (.builtin "object.__class__"))
 no : W.findIn K (.ref C) "__getattr__" = some none
 ob : W.mroIn K C (.type "object") = some true
 be : W.mroIn K C (.type "BaseException") = some true
 ty : W.hasDictIn K C = true
section
variable {prog : Program} {w : World} {A : Around} {E : Value → Shared → Prop} {h : Heap} {g : Array GenState} {d : Drawn} {t : Nat} {os : OsState} {K : W.Frag} {C a : Addr} {o : Obj}
theorem ex_get {R : Result → Shared → Prop} {tp : Value} (Z : ExcCls K C) (X : K.In h) (ho : h.get? a = some o) (hc : o.cls = .ref C) (hq : R (.ok (.ret (.ref C))) ⟨h, g, d, t, os⟩) :
   codeAny (model prog w) A (.call (.builtin "getset_descriptor.__get__") ⟨[.builtin "object.__class__", .ref a, tp], []⟩) R ⟨h, g, d, t, os⟩ := by
 have L0 : Looks (model prog w) h (typeOf (.ref a)) (.ref C) := hc ▸ (Looks.ld ho).andThen .now
 have L1 := looks_mroIn (M := model prog w) X Z.ob
 refine codeAny_call_builtin (KF.slot_gs).plain (KF.entry_gs) (KF.slot_gs.check _ _ _ _ _ _ _ _ (KF.type_class) (KF.args_gs (.builtin "object.__class__") (.ref a) tp) ?_)
 unfold Builtin.«getset_descriptor.__get__» descrGet; rw [dga_obj]
 refine wpAny_bind (wpAny_pure ?_); unfold descrGetter descrCheckInstance descrNameAndClass isInstance; simp only [KF.owner_class]; repeat lk
 refine ⟨Code.quiet_builtin _ (by decide +kernel), codeAny_builtin (KF.entry_class) ?_⟩; unfold Builtin.«object.__class__» shownTypeOf; repeat lk
 exact hq
theorem ex_entry {tk : Tok} {Q : Fin → Shared → Prop} (Z : ExcCls K C) (X : K.In h) (ho : h.get? a = some o) (hc : o.cls = .ref C) (hq : Q (.done (.ret (.ref C))) ⟨h, g, d, t, os⟩) :
   wpAny (model prog w) A (Builtin.«object.__getattribute__» ⟨[.ref a, .str "__class__" tk], []⟩) Q E ⟨h, g, d, t, os⟩ := by
 have L0 : Looks (model prog w) h (typeOf (.ref a)) (.ref C) := hc ▸ (Looks.ld ho).andThen .now
 have L1 := looks_findIn (M := model prog w) X Z.cl
 have hT5 : (⟨h, g, d, t, os⟩ : Shared).TypeIs (.builtin "object.__class__") "getset_descriptor" := F.typeOf_object_class
 have f5 := F.typeOf_object_class
 have f6 := F.slot_gs_get.lookup
 have f7 := F.slot_gs_set.lookup
 repeat (any_goals (first | assumption | (with_reducible refine wpAny_loadPart_at ho ?_; rw [hc]) | with_reducible refine L1.at ?_ | wp_step))
 refine ex_get Z X ho hc ?_
 repeat (any_goals (first | assumption | wp_step))
theorem ex_check {M : Model} {nameV : Value} {Q : Unit → Shared → Prop} (Z : ExcCls K C) (X : K.In h) (ho : h.get? a = some o) (hc : o.cls = .ref C) (hq : Q () ⟨h, g, d, t, os⟩) :
   wpAny M A (checkBuiltinCall "BaseException.__getattribute__" ⟨[.ref a, nameV], []⟩) Q E ⟨h, g, d, t, os⟩ := by
 have L0 : Looks M h (typeOf (.ref a)) (.ref C) := hc ▸ (Looks.ld ho).andThen .now
 have L1 := looks_mroIn (M := M) X Z.be
 have k1 : builtinKind "BaseException.__getattribute__" = some .slot := by decide +kernel
 have k2 : splitId "BaseException.__getattribute__" = some ("BaseException", "__getattribute__") := by decide +kernel
 have k3 := F.args_bexc_ga (.ref a) nameV
 simp only [checkBuiltinCall, k1, k2]
 refine wpAny_bind ?_
 unfold isInstance
 repeat (first | lk | wp_step)
 exact hq
theorem ex_call {tk : Tok} {R : Result → Shared → Prop} (Z : ExcCls K C) (X : K.In h) (ho : h.get? a = some o) (hc : o.cls = .ref C) (hq : R (.ok (.ret (.ref C))) ⟨h, g, d, t, os⟩) :
   codeAny (model prog w) A (.call (.builtin "BaseException.__getattribute__") ⟨[.ref a, .str "__class__" tk], []⟩) R ⟨h, g, d, t, os⟩ :=
 codeAny_call_builtin PySem.F.attr_ValueError.ga.plain F.entry_bexc_ga (ex_check Z X ho hc (ex_entry Z X ho hc hq))
theorem ex_by {tk : Tok} {Q : Value → Shared → Prop} (Z : ExcCls K C) (X : K.In h) (ho : h.get? a = some o) (hc : o.cls = .ref C) (hq : Q (.ref C) ⟨h, g, d, t, os⟩) :
   wpAny (model prog w) A (getAttrBy (.ref a) (.str "__class__" tk) false) Q E ⟨h, g, d, t, os⟩ := by
 have L0 : Looks (model prog w) h (typeOf (.ref a)) (.ref C) := hc ▸ (Looks.ld ho).andThen .now
 have L1 := looks_findIn (M := model prog w) X Z.ga
 have L2 := looks_findIn (M := model prog w) X Z.no
 have f3 := PySem.F.attr_ValueError.ga.bind (.ref a)
 repeat (any_goals (first | assumption | with_reducible refine L0.at ?_ | with_reducible refine L1.at ?_ | with_reducible refine L2.at ?_ | (with_reducible refine wpAny_loadPart_at ho ?_; rw [hc]) | wp_step))
 refine ex_call Z X ho hc ?_
 repeat (any_goals (first | assumption | wp_step))
theorem ex_attr {Q : Option Value → Shared → Prop} (Z : ExcCls K C) (X : K.In h) (ho : h.get? a = some o) (hc : o.cls = .ref C) (hq : Q (some (.ref C)) ⟨h, g, d, t + 1, os⟩) : wpAny (model prog w) A (getAttr? (.ref a) "__class__") Q E ⟨h, g, d, t, os⟩ := by
 unfold getAttr? getAttrBy?
 repeat (any_goals (first | assumption | with_reducible apply ex_by Z X ho hc | wp_step))
theorem cls_at {K : W.Frag} {C : Addr} (e : W.hasDictIn K C = true) : ∃ c dd cd sl, K.lookup C = some ⟨c, dd, .cls cd, sl⟩ := by
 obtain ⟨cd, h, _⟩ := any_some e
 unfold clsIn at h
 split at h
 · rename_i q; exact ⟨_, _, _, _, q⟩
 · cases h
theorem kitx_exc (Z : ExcCls K C) : KitX K (.ref a) (.ref C) (fun h => ∃ o, h.get? a = some o ∧ o.cls = .ref C) where
 ty := fun M h _ ⟨o, ho, hc⟩ => hc ▸ (Looks.ld ho).andThen .now
 it := fun M h X _ => by
   obtain ⟨c, dd, cd, sl, q⟩ := cls_at Z.ty
   intro A Q E s k z
   unfold isType loadHead
   exact wpAny_bind (wpAny_loadPart (k _ _ (X _ _ q)) (wpAny_pure z))
 ne := fun h tp dd its n sl X htp => by
   obtain ⟨c, dd', cd, sl', q⟩ := cls_at Z.ty
   refine Bool.eq_false_iff.mpr fun z => ?_
   have e : C = tp := Value.ref.inj (beq_iff_eq.mp z)
   have w := X _ _ q
   rw [e, htp] at w
   cases w
 ca := fun {prog w A E Q s} X p k => by
   obtain ⟨h, g, d, t, os⟩ := s
   obtain ⟨o, ho, hc⟩ := p
   exact ex_attr Z X ho hc k
end
def rIsiX (K : W.Frag) (c : Value) : List V → Hp → VK → Prop := fun xs H Q => ∃ a C cv k, xs = [.ref a, cv] ∧ RelV cv c ∧ H a = some (ExcO a (.ref C)) ∧ ExcCls K C ∧ W.kitOne K (.ref C) c = some k ∧ Q (.bl k) H
section
variable {X : Cx}
theorem call_isiX {c : Value} (hu : ∀ cv u, RelV cv c → RelV cv u → u = c) : CallR X (.builtin "isinstance") (rIsiX X.K c) := by
 intro pins s σ H xs us Q I r h
 obtain ⟨a, C, cv, k, rfl, rc, ha, Z, e, q⟩ := h
 obtain ⟨u, u2, rfl, ru, rc2⟩ := r.two
 obtain rfl := hu cv u2 rc rc2
 cases (show u = Value.ref a from ru)
 obtain ⟨p, _, _⟩ := (show ObjOk X.prog X.w H s.heap a (ExcO a (.ref C)) from I.hok a _ ha)
 exact kia_one (kitx_exc Z) I.kIn p e (fun z => nomatch z) fun tk => ⟨.bl k, H, I.tok _, rfl, q⟩
theorem k_isiX (K : W.Frag) {c : Value} (hu : ∀ cv u, RelV cv c → RelV cv u → u = c) (h : X.K = K := by rfl) : CallR X (.builtin "isinstance") (rIsiX K c) := h ▸ call_isiX hu
theorem ref_one {C : Addr} : ∀ cv u, RelV cv (.ref C) → RelV cv u → u = .ref C := by
 intro cv u h1 h2
 cases cv with
 | ref m =>
   have e1 : Value.ref C = Value.ref m := h1
   have e2 : u = Value.ref m := h2
   rw [e2, e1]
 | non => cases (show Value.ref C = Value.none from h1)
 | bl b => cases (show Value.ref C = Value.bool b from h1)
 | int i => obtain ⟨t, e⟩ := (show ∃ t, Value.ref C = Value.int i t from h1); cases e
 | str x => obtain ⟨t, e⟩ := (show ∃ t, Value.ref C = Value.str x t from h1); cases e
 | byt x => obtain ⟨t, e⟩ := (show ∃ t, Value.ref C = Value.bytes x t from h1); cases e
 | flt x => obtain ⟨t, e⟩ := (show ∃ t, Value.ref C = Value.float x t from h1); cases e
 | ty n => cases (show Value.ref C = Value.type n from h1)
theorem count_eqU : ∀ {bs : List Bool} {us : List Value}, Vals (bs.map V.bl) us → us.countP (eqU (.bl true)) = bs.countP id
 | [], _, r => by cases Vals.zero r; rfl
 | b :: bs, _, r => by
   cases r with
   | cons r1 t =>
     rw [List.countP_cons, List.countP_cons, count_eqU t]
     cases (show _ = Value.bool b from r1)
     cases b <;> rfl
theorem flat_bls : ∀ bs : List Bool, (bs.map V.bl).all flatV = true
 | [] => rfl
 | b :: bs => by rw [List.map_cons, List.all_cons, flat_bls bs]; rfl
def rCountB : V → List V → Hp → VK → Prop := fun x vs H Q => ∃ (l : Addr) (bs : List Bool), x = .ref l ∧ vs = [.bl true] ∧ H l = some (.lst (bs.map V.bl)) ∧ Q (.int (bs.countP id : Nat)) H
theorem mt_countB : MtM X "list.count" rCountB := by
 intro pins s σ H x vs v us Q I rx rv h
 obtain ⟨l, bs, rfl, rfl, hl, q⟩ := h
 cases (show v = Value.ref l from rx)
 obtain ⟨u, rfl, ru⟩ := rv.one
 cases (show u = Value.bool true from ru)
 obtain ⟨its, n, r, ho, hz⟩ := I.lst hl
 refine call_meets PySem.F.slot_list_count ⟨_, ho, rfl⟩ PySem.F.entry_list_count (PySem.F.args_list_count_2 _ _) (SeqAt.list_countAt l its.toArray n none #[] (.bool true) (eqU (.bl true))) ⟨ho, fun y hy => ?_, ?_⟩
 · exact mem_eqAt (x := .bl true) (v := .bool true) rfl rfl r (flat_bls bs) y (by simpa using hy)
 · refine ⟨.int (bs.countP id : Nat), H, I.tok _, ⟨s.toks, ?_⟩, q⟩
   rw [show its.toArray.toList = its by simp, count_eqU r]
def rIndexB : V → List V → Hp → VK → Prop := fun x vs H Q => ∃ (l : Addr) (bs : List Bool) (j : Nat), x = .ref l ∧ vs = [.bl true] ∧ H l = some (.lst (bs.map V.bl)) ∧ bs[j]? = some true ∧ (∀ m, m < j → bs[m]? = some false) ∧ Q (.int (j : Nat)) H
theorem mt_indexB : MtM X "list.index" rIndexB := by
 intro pins s σ H x vs v us Q I rx rv h
 obtain ⟨l, bs, j, rfl, rfl, hl, hj, hb, q⟩ := h
 cases (show v = Value.ref l from rx)
 obtain ⟨u, rfl, ru⟩ := rv.one
 cases (show u = Value.bool true from ru)
 obtain ⟨its, n, r, ho, hz⟩ := I.lst hl
 have at_ : ∀ (m : Nat) (b : Bool), bs[m]? = some b → its[m]? = some (Value.bool b) := fun m b e => by
   obtain ⟨u, h1, h2⟩ := r.get (i := m) (x := .bl b) (by rw [List.getElem?_map, e]; rfl)
   cases (show u = Value.bool b from h2)
   exact h1
 have hjl : j < its.length := (List.getElem?_eq_some_iff.mp (at_ j true hj)).1
 have hlen := r.length
 have hz' : its.length ≤ sizeLine := by rw [← hlen]; exact hz
 rw [sizeLine_eq] at hz'
 refine call_meets PySem.F.slot_list_index ⟨_, ho, rfl⟩ PySem.F.entry_list_index (PySem.F.args_list_index_2 _ _) (SeqAt.list_indexAt l its.toArray n none #[] (.bool true) (eqU (.bl true)) j (by simpa using hjl) (by omega) ?_ (fun m hm hlt => ?_)) ⟨ho, fun y hy => ?_, ?_⟩
 · have e := (List.getElem?_eq_some_iff.mp (at_ j true hj)).2
   show eqU (.bl true) its.toArray[j] = true
   rw [List.getElem_toArray, e]; rfl
 · have e := (List.getElem?_eq_some_iff.mp (at_ m false (hb m hlt))).2
   show eqU (.bl true) its.toArray[m] = false
   rw [List.getElem_toArray, e]; rfl
 · exact mem_eqAt (x := .bl true) (v := .bool true) rfl rfl r (flat_bls bs) y (by simpa using hy)
 · exact ⟨.int (j : Nat), H, I.tok _, ⟨s.toks, rfl⟩, q⟩
end
end L2
namespace L2
open PySem PySem.Spec PyProof.Rows PySem.W
theorem lay_of {d : PyData} (h : SeqAt.shaped d = true) : d.canLay0 = true := by
 unfold SeqAt.shaped at h
 exact (Bool.and_eq_true_iff.mp h).1
end L2
namespace L2
open PySem PySem.Spec PyProof.Rows PySem.W
def rD : PyData := .tuple [.str "refused", .int 0]
theorem rD_has {H : Hp} {q : Addr} (hq : H q = some (.tup [.str "refused", .int 0])) : Has H (.ref q) rD := has_tup hq (yZ (has_str _) (yZ (has_int _) hasL_nil))
theorem rD_shaped : SeqAt.shaped rD = true := by
 have e : PyData.strOk ("refused" : Str) = true := by decide +kernel
 have h2 : PyData.depth rD ≤ 64 := by simp only [rD, PyData.depth, PyData.depthAll]; omega
 show (PyData.canLay0 rD && decide (PyData.depth rD ≤ 64)) = true
 rw [Bool.and_eq_true]
 exact ⟨by simp only [rD, PyData.canLay0, PyData.canLayAll0, e, Bool.and_true], decide_eq_true h2⟩
theorem ne_D {H : Hp} {x y : V} {d : PyData} {Q : VK} (hx : Has H x d) (hy : Has H y d) (s : SeqAt.shaped d = true) (q : Q (.bl false) H) : rNeD x y H Q := by
 refine ⟨_, _, hx, hy, s, s, ?_⟩
 rw [SeqAt.eqv_refl _ (lay_of s)]; exact q
end L2
namespace L2
open PySem PySem.Spec PyProof.Rows PySem.W
structure Stp (ps : List Addr) (H : Hp) (ps' : List Addr) (H' : Hp) : Prop where
 but : But ps H H'
 tup : Tups H H'
 new : ∀ c ∈ ps', c ∈ ps ∨ H c = none
theorem Stp.free {ps ps' : List Addr} {H H' : Hp} (s : Stp ps H ps' H') {c : Addr} (h : H' c = none) (hc : c ∉ ps) : H c = none := by
 cases q : H c with
 | none => rfl
 | some o => rw [s.but c o q hc] at h; cases h
theorem Stp.free' {ps ps' : List Addr} {H H' : Hp} (s : Stp ps H ps' H') {c : Addr} (h : H' c = none) : c ∈ ps ∨ H c = none := by
 by_cases hc : c ∈ ps
 · exact .inl hc
 · exact .inr (s.free h hc)
theorem Stp.trans {ps ps' ps'' : List Addr} {H H' H'' : Hp} (s : Stp ps H ps' H') (t : Stp ps' H' ps'' H'') : Stp ps H ps'' H'' := by
 refine ⟨fun c o h hc => t.but c o (s.but c o h hc) fun hc' => ?_, s.tup.trans t.tup, fun c hc => ?_⟩
 · rcases s.new c hc' with z | z
   · exact hc z
   · rw [z] at h; cases h
 · rcases t.new c hc with z | z
   · exact s.new c z
   · exact s.free' z
theorem Same.step {H H' : Hp} (e : Same H H') (ps : List Addr) : Stp ps H ps H' := ⟨fun c o h _ => e c o h, e.tups, fun _ h => .inl h⟩
theorem Stp.weak {ps ps' qs qs' : List Addr} {H H' : Hp} (s : Stp ps H ps' H') (h : ∀ c ∈ ps, c ∈ qs) (h' : ∀ c ∈ qs', c ∈ ps' ∨ c ∈ qs) : Stp qs H qs' H' :=
 ⟨fun c o e hc => s.but c o e fun z => hc (h c z), s.tup, fun c hc => by
   rcases h' c hc with z | z
   · rcases s.new c z with y | y
     · exact .inl (h c y)
     · exact .inr y
   · exact .inl z⟩
theorem Stp.same {ps' : List Addr} {H H' : Hp} (s : Stp [] H ps' H') : Same H H' := fun c o h => s.but c o h List.not_mem_nil
theorem Stp.keep {ps ps' : List Addr} {H H' : Hp} (s : Stp ps H ps' H') {c : Addr} {o : HO} (h : H c = some o) (hc : c ∉ ps) : H' c = some o := s.but c o h hc
theorem Stp.out {ps ps' : List Addr} {H H' : Hp} (s : Stp ps H ps' H') {c : Addr} {o : HO} (h : H c = some o) (hc : c ∉ ps) : c ∉ ps' := fun z => by
 rcases s.new c z with y | y
 · exact hc y
 · rw [y] at h; cases h
theorem Stp.put {ps : List Addr} {H : Hp} {p : Addr} {u o : HO} (h : H p = some u) (hn : ∀ xs, u ≠ .tup xs) (hp : p ∈ ps) : Stp ps H ps (upd H p o) :=
 ⟨fun c o' e hc => by rw [qv (fun z => hc (by rw [z]; exact hp))]; exact e, (Tups.refl H).put h hn, fun _ z => .inl z⟩
theorem Stp.make {ps : List Addr} {H : Hp} {p : Addr} {o : HO} (h : H p = none) : Stp ps H (p :: ps) (upd H p o) :=
 ⟨fun c o' e hc => by rw [qv (qy e h)]; exact e, (Same.new h).tups, fun c z => by
   rcases List.mem_cons.mp z with rfl | z
   · exact .inr h
   · exact .inl z⟩
theorem Ms.step {ps ps' : List Addr} {H H' : Hp} {xs : List V} {ms : List Msg} (h : Ms H xs ms) (s : Stp ps H ps' H') : Ms H' xs ms := h.tups s.tup
theorem Stp.obj {H : Hp} {p dx : Addr} {o o' : HO} (np : H p = none) (nd : H dx = none) : Stp [] H [p] (upd (upd H dx o) p o') := by
 have e : Same H (upd (upd H dx o) p o') := fun b u h => by rw [qv (qy h np), qv (qy h nd)]; exact h
 exact ⟨fun c u h _ => e c u h, e.tups, fun c hc => by
   rw [List.mem_singleton] at hc
   rw [hc]; exact .inr np⟩
theorem hasL_ints {H : Hp} : ∀ ns : List Int, HasL H (ns.map V.int) (ns.map PyData.int)
 | [] => hasL_nil
 | n :: r => yZ (has_int n) (hasL_ints r)
theorem lay_ints : ∀ ns : List Int, PyData.canLayAll0 (ns.map PyData.int) = true
 | [] => rfl
 | n :: r => by simp only [List.map_cons, PyData.canLayAll0, PyData.canLay0, lay_ints r, Bool.and_true]
theorem depth_ints : ∀ ns : List Int, PyData.depthAll (ns.map PyData.int) ≤ 3
 | [] => by simp [PyData.depthAll]
 | n :: r => by
   have := depth_ints r
   simp only [List.map_cons, PyData.depthAll, PyData.depth]; omega
theorem shaped_ints (ns : List Int) : SeqAt.shaped (.list (ns.map PyData.int)) = true := by
 have h1 := depth_ints ns
 have h2 : PyData.depth (.list (ns.map PyData.int)) ≤ 64 := by simp only [PyData.depth]; omega
 show (PyData.canLay0 (.list (ns.map PyData.int)) && decide (PyData.depth (.list (ns.map PyData.int)) ≤ 64)) = true
 rw [Bool.and_eq_true]
 exact ⟨by simp only [PyData.canLay0, lay_ints], decide_eq_true h2⟩
theorem cut_from {xs : List V} {t : Int} (h0 : 0 ≤ t) : cutV xs (some t) none = xs.drop t.toNat := by
 obtain ⟨k, rfl⟩ : ∃ k : Nat, t = (k : Int) := ⟨t.toNat, by omega⟩
 unfold cutV
 rw [HT.sIx_nat, HT.sIx_none, Int.toNat_natCast]
 rw [List.take_of_length_le (by rw [List.length_drop]; exact Nat.le_refl _)]
 by_cases h : k ≤ xs.length
 · rw [Nat.min_eq_left h]
 · rw [Nat.min_eq_right (by omega), List.drop_of_length_le (Nat.le_refl _), List.drop_of_length_le (by omega)]
theorem cut_to {xs : List V} {t : Int} (h0 : 0 ≤ t) : cutV xs none (some t) = xs.take t.toNat := by
 obtain ⟨k, rfl⟩ : ∃ k : Nat, t = (k : Int) := ⟨t.toNat, by omega⟩
 unfold cutV
 rw [HT.sIx_nat, HT.sIx_none, Int.toNat_natCast, List.drop_zero, Nat.sub_zero]
 by_cases h : k ≤ xs.length
 · rw [Nat.min_eq_left h]
 · rw [Nat.min_eq_right (by omega), List.take_of_length_le (Nat.le_refl _), List.take_of_length_le (by omega)]
def PMap (H : Hp) (ms : List Msg) (f : Msg → V) : Nat → List V → Hp → Prop := fun i ys H2 => H2 = H ∧ ys = (ms.take i).map f
section
variable {K : W.Frag} {a : Addr} {xs : List V} {ms : List Msg} {g : TG} {tc : TT} {te : TE} {τ : St} {H : Hp} {f : Msg → V} {p : Msg → Bool}
theorem PMap.zero : PMap H ms f 0 [] H := ⟨rfl, by simp⟩
theorem szl {n : Nat} (h : n < 1000) : n ≤ sizeLine := by rw [sizeLine_eq]; omega
theorem PMap.step (ha : H a = some (.lst xs)) (hm : Ms H xs ms)
   (hs : ∀ c m (R : VK) (N : Hp → Prop), m ∈ ms → H c = some (mT m) → R (f m) H → g (.ref c) τ H fun σ4 H4 => tc σ4 H4 fun b H5 => if b = true then te σ4 H5 R else N H5) :
   ∀ i ys H2, i < ms.length → PMap H ms f i ys H2 → (Itl K a).go i H2 ∧ ∀ x H3, (Itl K a).yld i H2 x H3 → g x τ H3 fun σ4 H4 => tc σ4 H4 fun b H5 => if b = true then te σ4 H5 fun y H6 => PMap H ms f (i + 1) (ys ++ [y]) H6 else PMap H ms f (i + 1) ys H5 := by
 rintro i ys H2 hi ⟨rfl, rfl⟩
 obtain ⟨c, ec, hc⟩ := hm.get hi
 refine ⟨⟨xs, .ref c, SqL.ofL ha, ec⟩, ?_⟩
 rintro x H3 ⟨rfl, hx⟩
 have hx' := hx xs (SqL.ofL ha)
 rw [ec] at hx'
 obtain rfl := Option.some.inj hx'
 refine hs c _ _ _ (List.getElem_mem hi) hc ⟨rfl, ?_⟩
 rw [List.take_add_one, List.getElem?_eq_getElem hi, List.map_append]; rfl
theorem PMap.done (ha : H a = some (.lst xs)) (hm : Ms H xs ms) {ys : List V} {H2 : Hp} (h : PMap H ms f ms.length ys H2) : (Itl K a).stop ms.length H2 ∧ H = H2 ∧ ys = ms.map f := by
 obtain ⟨rfl, rfl⟩ := h
 rw [List.take_length]
 exact ⟨⟨xs, SqL.ofL ha, by rw [hm.len]; exact Nat.le_refl _⟩, rfl, rfl⟩
end
theorem Stp.up {ps qs : List Addr} {H H' : Hp} (s : Stp ps H ps H') (h : ∀ c ∈ ps, c ∈ qs) : Stp qs H qs H' := s.weak h fun _ z => .inr z
end L2
namespace L2
open PySem PySem.Spec PyProof.Rows PySem.W
section
variable {X : Cx}
theorem ints_are : ∀ {ns : List Int} {us : List Value}, Vals (ns.map V.int) us → IntsAre us ns := fun r => intsAre_of r
theorem are_ints : ∀ {us : List Value} {ns : List Int}, IntsAre us ns → Vals (ns.map V.int) us
 | _, _, .nil => .nil
 | _, _, .cons n t r => .cons ⟨t, rfl⟩ (are_ints r)
def rRng : List V → Hp → VK → Prop := fun xs H Q => ∃ i j : Int, xs = [.int i, .int j] ∧ (-(2 ^ 62) ≤ i ∧ i < 2 ^ 62 ∧ -(2 ^ 62) ≤ j ∧ j < 2 ^ 62) ∧ ∀ p, H p = none → Q (.ref p) (upd H p (.rng i j))
theorem call_rng : CallR X (.type "range") rRng := by
 intro pins s σ H xs us Q I r h
 obtain ⟨i, j, rfl, hb, q⟩ := h
 obtain ⟨u, u', rfl, ⟨t, rfl⟩, ⟨t', rfl⟩⟩ := vals2 r
 refine call_range_2 ?_
 refine ⟨.ref s.heap.objs.size, upd H s.heap.objs.size (.rng i j), I.laid (fun b o e => Heap.get?_push_of_some _ e) (Nat.le_refl _) ?_, rfl, q _ (I.hok.fresh (Nat.le_refl _))⟩
 exact ⟨_, _, _, IsRange.new ..⟩
def rgs (lo : Int) (n : Nat) : List Int := (List.range n).map fun (i : Nat) => lo + (i : Int)
theorem rgs_len (lo : Int) (n : Nat) : (rgs lo n).length = n := by unfold rgs; rw [List.length_map, List.length_range]
def rListRng : List V → Hp → VK → Prop := fun xs H Q => ∃ r i j, xs = [.ref r] ∧ H r = some (.rng i j) ∧ (-(2 ^ 62) ≤ i ∧ i < 2 ^ 62 ∧ -(2 ^ 62) ≤ j ∧ j < 2 ^ 62) ∧ (j - i).toNat ≤ 1000 ∧ ∀ p, H p = none → Q (.ref p) (upd H p (.lst ((rgs i (j - i).toNat).map V.int)))
theorem items_rgs {lo : Int} : ∀ {n : Nat} {vs : List Value}, vs.length = n → (∀ (j : Nat) (v : Value), vs[j]? = some v → ∃ t, v = .int (lo + (j : Int) * 1) t) → Vals ((rgs lo n).map V.int) vs := by
 intro n vs hl h
 have : ∀ (n : Nat) (f : Nat → Int) (vs : List Value), vs.length = n → (∀ (j : Nat) (v : Value), vs[j]? = some v → ∃ t, v = .int (f j) t) → Vals (((List.range n).map f).map V.int) vs := by
   intro n
   induction n with
   | zero => intro f vs hl _; rw [List.eq_nil_of_length_eq_zero hl]; exact .nil
   | succ n ih =>
     intro f vs hl h
     cases vs with
     | nil => simp at hl
     | cons v vs =>
       rw [List.range_succ_eq_map, List.map_cons, List.map_cons, List.map_map (l := List.range n) (g := f)]
       exact .cons (h 0 v rfl) (ih (f ∘ Nat.succ) vs (by simpa using hl) fun j u hu => h (j + 1) u (by simpa using hu))
 refine this n _ vs hl fun j v e => ?_
 obtain ⟨t, rfl⟩ := h j v e
 exact ⟨t, by rw [Int.mul_one]⟩
theorem call_list_rng (hc : X.calm = true) : CallR X (.type "list") rListRng := by
 intro pins s σ H xs us Q I r h
 obtain ⟨a, i, j, rfl, ha, ⟨b1, b2, b3, b4⟩, hz, q⟩ := h
 obtain ⟨u, rfl, ru⟩ := vals1 r
 cases ru
 obtain ⟨t1, t2, t3, hr⟩ := (show ObjOk X.prog X.w H s.heap a (.rng i j) from I.hok a _ ha)
 have fD : FpOk X pins H s.heap.objs.size := I.fpOk (Nat.le_refl _) (I.hok.fresh (Nat.le_refl _))
 refine call_list_range (n := (j - i).toNat) (I.ok.hd hc) hr (small_one b1 b2 b3 b4) (by rw [rangeSize_one]; split <;> omega) (by omega) fun h' tk acc c hk hD hacc => ?_
 have I1 : Inv X pins σ H { s with heap := h', toks := tk } := I.kept hk
 refine ⟨.ref s.heap.objs.size, _, I1.track (o := .lst ((rgs i (j - i).toNat).map V.int)) fD ⟨by rw [List.length_map, rgs_len, sizeLine_eq]; omega, acc.toList, c, items_rgs (by rw [Array.length_toList]; exact hacc.1) (fun k v e => hacc.2 k v (by rw [← Array.getElem?_toList]; exact e)), ?_⟩, rfl, q _ fD.1⟩
 simpa using hD
section
variable {prog : Program} {w : World} {A : Around} {I : Addr} {fp wr : List Addr} {G : Array GenState → Array GenState → Prop} {n : Nat} {P : Nat → Value → Prop} {St : Nat → Shared → Prop} {R : Result → Shared → Prop} {kw : List (Str × Value)}
theorem mx_turns (W : WalksS prog w A.in1 I fp wr G n P St) (lt : Nat → Nat → Bool) (hlt : CmpOf prog w A.in1 .Gt P lt) (B : Addr) (hB : B ∉ fp) :
   ∀ (m k : Nat) (s : Shared) (top : Value) (c : Nat), n - (k + 1) = m → k + 1 ≤ n → St (k + 1) s → P (argBest lt k) top →
   s.heap.get? B = some { cls := .type "list", dict := none, data := .seq #[top, top] c, slots := #[] } →
   (∀ v z, P (argBest lt (n - 1)) v → Moved (B :: wr) G s z → R (.ok (.ret v)) z) → codeAny (model prog w) A (.builtin "max.loop" ⟨[.ref I, .none, .ref B], kw⟩) R s := by
 have hBw : B ∉ wr := fun z => hB (W.sub _ z)
 have up : ∀ b ∈ wr, b ∈ B :: wr := fun b z => List.mem_cons_of_mem _ z
 have nm : (toString "max" ++ toString ".loop" : String) = "max.loop" := by decide
 have ne : ∀ {b : Addr}, b ∉ B :: wr → B ≠ b := fun z e => z (by rw [e]; exact List.mem_cons_self)
 intro m
 induction m with
 | zero =>
   intro k s top c hm hk st hP hS fin
   have last : k + 1 = n := by omega
   refine codeAny_builtin F.entry_max_loop ?_
   rw [Around.under_plainId F.plain_max_loop _]
   show wpAny _ A.in1 (seqItems? (.ref B) >>= _) _ _ s
   refine wpAny_bind (wpAny_seqItems hS rfl ?_)
   show wpAny _ A.in1 (tryCatch (pyNext (.ref I)) _ >>= _) _ _ s
   refine wpAny_bind (wpAny_tryCatch (W.done s _ _ (last ▸ st) fun z mv => ?_))
   have hz := mv.heap B _ hBw hS
   show wpAny _ A.in1 (updateSeq B (fun _ => #[]) >>= _) _ _ _
   refine wpAny_bind (wpAny_updateSeq hz rfl (wpAny_bind (wpAny_letGo (wpAny_pure ?_))))
   exact fin top _ (by rw [← last]; exact hP) ((mv.mono up).then_heap (tk := z.toks) (Nat.le_refl _) fun b o hb e => (Heap.get?_update_other _ _ (ne hb)).trans e)
 | succ m ih =>
   intro k s top c hm hk st hP hS fin
   have more : k + 1 < n := by omega
   refine codeAny_builtin F.entry_max_loop ?_
   rw [Around.under_plainId F.plain_max_loop _]
   show wpAny _ A.in1 (seqItems? (.ref B) >>= _) _ _ s
   refine wpAny_bind (wpAny_seqItems hS rfl ?_)
   show wpAny _ A.in1 (tryCatch (pyNext (.ref I)) _ >>= _) _ _ s
   refine wpAny_bind (wpAny_tryCatch (W.item (k + 1) s _ _ more st fun v z hv st' mv => ?_))
   have hz := mv.heap B _ hBw hS
   show wpAny _ A.in1 (tryCatch (holding [v, v] (richCompare .Gt v top >>= _)) _ >>= _) _ _ _
   refine wpAny_bind (wpAny_tryCatch (wpAny_holding (wpAny_bind (hlt (k + 1) (argBest lt k) v top _ _ _ hv hP ?_))))
   refine wpAny_bind (wpAny_holding (wpAny_truthy_bool (wpAny_bind (wpAny_letGo (wpAny_pure ?_)))))
   cases hb : lt (k + 1) (argBest lt k) with
   | true =>
     simp only [if_true]
     refine wpAny_bind (wpAny_updateSeq hz rfl (wpAny_bind (wpAny_letGo ?_)))
     rw [nm]
     refine wpAny_pure ⟨plainId_quiet F.plain_max_loop _, ih (k + 1) _ v _ (by omega) more (W.frame _ z _ z.toks st' (Nat.le_refl _) fun b hbf o e => ?_) (by simp only [argBest, hb, if_true]; exact hv) (Heap.get?_update_self _ hz rfl) fun v' z' hv' mv' => ?_⟩
     · exact (Heap.get?_update_other _ _ (fun x : B = b => hB (by rw [x]; exact hbf))).trans e
     · exact fin v' z' hv' (Moved.trans W.gtrans ((mv.mono up).then_heap (Nat.le_refl _) fun b o hb e => (Heap.get?_update_other _ _ (ne hb)).trans e) mv')
   | false =>
     simp only [Bool.false_eq_true, if_false]
     refine wpAny_bind (wpAny_letGo ?_)
     rw [nm]
     refine wpAny_pure ⟨plainId_quiet F.plain_max_loop _, ih (k + 1) _ top c (by omega) more st' (by simp only [argBest, hb, Bool.false_eq_true, if_false]; exact hP) hz fun v' z' hv' mv' => ?_⟩
     exact fin v' z' hv' (Moved.trans W.gtrans (mv.mono up) mv')
theorem mx_first (W : WalksS prog w A.in1 I fp wr G n P St) (lt : Nat → Nat → Bool) (hlt : CmpOf prog w A.in1 .Gt P lt) (B : Addr) (hB : B ∉ fp) (hn : 0 < n) {s : Shared} {c : Nat} (st : St 0 s)
   (hS : s.heap.get? B = some { cls := .type "list", dict := none, data := .seq #[] c, slots := #[] })
   (fin : ∀ v z, P (argBest lt (n - 1)) v → Moved (B :: wr) G s z → R (.ok (.ret v)) z) : codeAny (model prog w) A (.builtin "max.loop" ⟨[.ref I, .none, .ref B], kw⟩) R s := by
 have hBw : B ∉ wr := fun z => hB (W.sub _ z)
 have up : ∀ b ∈ wr, b ∈ B :: wr := fun b z => List.mem_cons_of_mem _ z
 have nm : (toString "max" ++ toString ".loop" : String) = "max.loop" := by decide
 have ne : ∀ {b : Addr}, b ∉ B :: wr → B ≠ b := fun z e => z (by rw [e]; exact List.mem_cons_self)
 refine codeAny_builtin F.entry_max_loop ?_
 rw [Around.under_plainId F.plain_max_loop _]
 show wpAny _ A.in1 (seqItems? (.ref B) >>= _) _ _ s
 refine wpAny_bind (wpAny_seqItems hS rfl ?_)
 show wpAny _ A.in1 (tryCatch (pyNext (.ref I)) _ >>= _) _ _ s
 refine wpAny_bind (wpAny_tryCatch (W.item 0 s _ _ hn st fun v z hv st' mv => ?_))
 have hz := mv.heap B _ hBw hS
 show wpAny _ A.in1 (updateSeq B (fun _ => #[v, v]) >>= _) _ _ _
 refine wpAny_bind (wpAny_updateSeq hz rfl ?_)
 rw [nm]
 refine wpAny_pure ⟨plainId_quiet F.plain_max_loop _, mx_turns W lt hlt B hB _ 0 _ v _ rfl hn (W.frame _ z _ z.toks st' (Nat.le_refl _) fun b hbf o e => ?_) hv (Heap.get?_update_self _ hz rfl) fun v' z' hv' mv' => ?_⟩
 · exact (Heap.get?_update_other _ _ (fun x : B = b => hB (by rw [x]; exact hbf))).trans e
 · exact fin v' z' hv' (Moved.trans W.gtrans ((mv.mono up).then_heap (Nat.le_refl _) fun b o hb e => (Heap.get?_update_other _ _ (ne hb)).trans e) mv')
theorem mx_none (W : WalksS prog w A.in1 I fp wr G n P St) (h0 : n = 0) (B : Addr) (hB : B ∉ fp) {s : Shared} {c : Nat} {d : Value} {x : Str} (st : St 0 s)
   (hS : s.heap.get? B = some { cls := .type "list", dict := none, data := .seq #[] c, slots := #[] })
   (fin : ∀ z, Moved wr G s z → R (.ok (.ret d)) z) : codeAny (model prog w) A (.builtin "max.loop" ⟨[.ref I, .none, .ref B], [(x, d)]⟩) R s := by
 refine codeAny_builtin F.entry_max_loop ?_
 rw [Around.under_plainId F.plain_max_loop _]
 show wpAny _ A.in1 (seqItems? (.ref B) >>= _) _ _ s
 refine wpAny_bind (wpAny_seqItems hS rfl ?_)
 show wpAny _ A.in1 (tryCatch (pyNext (.ref I)) _ >>= _) _ _ s
 refine wpAny_bind (wpAny_tryCatch (W.done s _ _ (h0 ▸ st) fun z mv => ?_))
 show wpAny _ A.in1 (rule _ >>= _) _ _ _
 refine wpAny_bind (wpAny_rule (wpAny_pure ?_))
 exact fin z mv
end
theorem args_maxD (a v : Value) : argsOk "max" ⟨[a], [(Str.ofString "default", v)]⟩ := by unfold argsOk; kernel_rfl
theorem max_default {prog : Program} {w : World} {A : Around} {E : Value → Shared → Prop} {s : Shared} {l : Addr} {vs : List Value} {ns : List Int} {d : Value} {Q : Value → Shared → Prop} (hh : A.handled = none) (hl : s.heap.IsList l vs.toArray) (hi : IntsAre vs ns)
   (q0 : ns = [] → ∀ h' tk, (∀ b o, s.heap.get? b = some o → h'.get? b = some o) → Q d { s with heap := h', toks := tk })
   (q1 : ∀ M (t : Tok) h' tk, (∀ b o, s.heap.get? b = some o → h'.get? b = some o) → M ∈ ns → (∀ a ∈ ns, a ≤ M) → Q (.int M t) { s with heap := h', toks := tk }) :
   wpAny (model prog w) A (call (.builtin "max") [.ref l] [(Str.ofString "default", d)]) Q E s := by
 obtain ⟨xs, e⟩ := hi.allInts.items
 have hns : ns = xs.toList.map (·.1) := by rw [← hi.numsOf, ← nums_intItems, ← e]
 rw [e] at hl
 have nm : (toString "max" ++ toString ".loop" : String) = "max.loop" := by decide
 refine kmk_tree PySem.F.kind_max PySem.F.plain_max PySem.F.entry_max (args_maxD _ _) ?_
 show wpAny _ A.in1 (Builtin.Builtins.bindParams "max" ["key", "default"] 0 ⟨[], [(Str.ofString "default", d)]⟩ >>= _) _ _ s
 refine wpAny_bind (wpAny_of_eq (show Builtin.Builtins.bindParams "max" ["key", "default"] 0 ⟨[], [(Str.ofString "default", d)]⟩ = pure [none, some d] from rfl) ?_)
 refine wpAny_bind (wpAny_pure ?_)
 refine wpAny_bind (iter_intList hl fun s₂ e2 st hfp hlI => ?_)
 subst e2
 have W := (Walks.list (prog := prog) (w := w) (A := A.in1) hh _ l hlI (intItems xs)).toS
 refine wpAny_bind (wpAny_newList ?_ (Nat.zero_le _))
 rw [nm]
 have hB : (s.heap.push { cls := .type "list_iterator", data := .fields #[.ref l, .int 0 0] }).objs.size ∉ [s.heap.objs.size, l] := fun z => Nat.lt_irrefl _ (hfp _ z)
 have st' := W.frame 0 _ ((s.heap.push { cls := .type "list_iterator", data := .fields #[.ref l, .int 0 0] }).push { cls := .type "list", data := .seq #[] }) s.toks st (Nat.le_refl _) fun b _ o e => Heap.get?_push_of_some _ e
 have back : ∀ {z : Shared} {ws : List Addr}, (∀ b ∈ ws, b = s.heap.objs.size ∨ b = (s.heap.push { cls := .type "list_iterator", data := .fields #[.ref l, .int 0 0] }).objs.size) → (∀ b o, b ∉ ws → ((s.heap.push { cls := .type "list_iterator", data := .fields #[.ref l, .int 0 0] }).push { cls := .type "list", data := .seq #[] }).get? b = some o → z.heap.get? b = some o) → ∀ b o, s.heap.get? b = some o → z.heap.get? b = some o := by
   intro z ws hw h b o e
   have lb := Heap.lt_size e
   refine h b o (fun hb => ?_) (Heap.get?_push_of_some _ (Heap.get?_push_of_some _ e))
   rcases hw b hb with rfl | rfl
   · exact Nat.lt_irrefl _ lb
   · rw [Heap.size_push] at lb; exact Nat.lt_irrefl _ (Nat.lt_trans (Nat.lt_succ_self _) lb)
 by_cases h0 : 0 < xs.size
 · refine wpAny_pure ⟨plainId_quiet F.plain_max_loop _, mx_first W _ (CmpOf.ints_gt (numAt xs) (fun _ _ => intItems_at)) _ hB (by simpa [intItems] using h0) st' (Heap.get?_push_size _ rfl) fun v z hv mv => ?_⟩
   obtain ⟨t, rfl⟩ := intItems_at hv
   obtain ⟨h1, h2⟩ := argBest_gt (numAt xs) (xs.size - 1)
   have hsz : (intItems xs).size = xs.size := by simp [intItems]
   rw [hsz]
   have ez : z = { s with heap := z.heap, toks := z.toks } := by
     obtain ⟨zh, zg, zd, zt, zo⟩ := z
     have g1 : zg = s.gens := mv.gens
     have g2 : zd = s.drawn := mv.drawn
     have g3 : zo = s.os := mv.os
     rw [g1, g2, g3]
   show Q _ z
   rw [ez]
   refine q1 _ t _ _ (back (ws := [(s.heap.push { cls := .type "list_iterator", data := .fields #[.ref l, .int 0 0] }).objs.size, s.heap.objs.size]) (by simp [or_comm]) mv.heap) ?_ fun a ha => ?_
   · rw [hns, numAt_eq]; exact getD_mem (by rw [List.length_map, Array.length_toList]; omega)
   · rw [hns] at ha
     obtain ⟨j, hj, rfl⟩ := mem_getD ha
     rw [List.length_map, Array.length_toList] at hj
     rw [← numAt_eq]; exact h2 j (by omega)
 · have x0 : xs = #[] := by
     have : xs.size = 0 := by omega
     exact Array.eq_empty_of_size_eq_zero this
   subst x0
   refine wpAny_pure ⟨plainId_quiet F.plain_max_loop _, mx_none W (by simp [intItems]) _ hB st' (Heap.get?_push_size _ rfl) fun z mv => ?_⟩
   have ez : z = { s with heap := z.heap, toks := z.toks } := by
     obtain ⟨zh, zg, zd, zt, zo⟩ := z
     have g1 : zg = s.gens := mv.gens
     have g2 : zd = s.drawn := mv.drawn
     have g3 : zo = s.os := mv.os
     rw [g1, g2, g3]
   show Q d z
   rw [ez]
   exact q0 (by rw [hns]; rfl) _ _ (back (ws := [s.heap.objs.size]) (by simp) mv.heap)
def rMaxD (K : W.Frag) (c : Int) (x : V) (H : Hp) (Q : VK) : Prop := ∃ l ns, x = .ref l ∧ SqL K H l (ns.map V.int) ∧ (ns = [] → Q (.int c) H) ∧ ∀ M ∈ ns, (∀ a ∈ ns, a ≤ M) → Q (.int M) H
theorem k_maxD (K : W.Frag) {e : Expr} {te : TE} {c : Int} {jc : Nat} {p p2 kpos pos : Pos} (hc : X.calm = true) (he : PE X e te) (hm : X.mg "max" = none) (h : X.K = K := by rfl) (hg : Gl X "max" := by rfl) (hp : plainE e = true := by rfl) :
   PE X (.Call (.Name "max" p) [e] [⟨some "default", .Constant (.int c) jc p2, kpos⟩] pos) (tUn (rMaxD K c) te) := by
 subst h
 intro pins s σ H Q I hw
 refine wpAny_Call_Name_kw (ld_blt I hg hm boot_max ?_)
 refine callWith_kw ?_ (by rw [star_of hp]; rfl) (by rw [star_of hp]; rfl)
 rw [star_of hp]
 show wpAny _ _ (spliced ((false, eval e X.env) :: backTo pos (starEach [] X.env))) _ _ s
 refine Calls.spliced_cons (thn (he pins s σ H _ I hw) fun u s1 ⟨xv, H1, I1, r1, q1⟩ => Calls.spliced_nil ?_)
 have hkv := pk_cons (nm := some "default") (kpos := kpos) (qG (X := X) (i := c) (j := jc) (pos := p2)) (pk_nil (X := X)) pos pins s1 σ H1 (fun zs H2 => zs = [.int c] ∧ H2 = H1) I1 ⟨rfl, rfl⟩
 refine thn hkv fun ws s2 ⟨zs, H2, I2, rz, e1, e2⟩ => ?_
 subst e1 e2
 obtain ⟨w1, rfl, rw1⟩ := rz.one
 obtain ⟨l, ns, rfl, hl, q0, q2⟩ := q1
 cases r1
 obtain ⟨its, rv, pl, hz⟩ := I2.list hl
 refine max_default (I2.ok.hd hc) pl.isList (ints_are rv) (fun h0 h' tk kp => ⟨_, _, I2.kept kp, rw1, q0 h0⟩) (fun M t h' tk kp hM hmx => ⟨.int M, _, I2.kept kp, ⟨t, rfl⟩, q2 M hM hmx⟩)
end
end L2
namespace L2
open PySem PySem.Spec PyProof.Rows PySem.W
theorem sortI_nodup {ns : List Int} (h : ns.Nodup) : (sortI ns).Nodup := (sortI_perm ns).nodup_iff.mpr h
end L2
namespace L2
open PySem PySem.Spec PyProof.Rows PySem.W
theorem pass_none {X : Cx} : Passes (CXF X.prog X.w) X E0 := by
 rintro pins σ H s e s' I ⟨a, cls, H', _, _, _, _, _, h⟩
 exact h.elim
end L2
namespace L2
open PySem PySem.Spec PyProof.Rows PySem.W
theorem has_str_inv {H : Hp} {v : V} {x : Str} (h : Has H v (.str x)) : v = .str x := by unfold Has at h; exact h
theorem has_int_inv {H : Hp} {v : V} {x : Int} (h : Has H v (.int x)) : v = .int x := by unfold Has at h; exact h
theorem has_tup3 {H : Hp} {v : V} {a b c : PyData} (h : Has H v (.tuple [a, b, c])) : ∃ p x y z, v = .ref p ∧ H p = some (.tup [x, y, z]) ∧ Has H x a ∧ Has H y b ∧ Has H z c := by
 unfold Has at h
 obtain ⟨p, xs, rfl, hp, hl⟩ := h
 unfold HasL at hl
 obtain ⟨x, r, rfl, hx, hl⟩ := hl
 unfold HasL at hl
 obtain ⟨y, r, rfl, hy, hl⟩ := hl
 unfold HasL at hl
 obtain ⟨z, r, rfl, hz, hl⟩ := hl
 unfold HasL at hl
 subst hl
 exact ⟨p, x, y, z, rfl, hp, hx, hy, hz⟩
inductive JStep where
 | w (m : Msg)
 | t (a b : Int)
def jD : JStep → PyData
 | .w m => .tuple [.str "write", .none, mD m]
 | .t a b => .tuple [.str "trim", .int a, .int b]
theorem noLst_j (x : JStep) : noLst (jD x) = true := by
 cases x with
 | w m => simp [jD, noLst, noLstA, mD]
 | t a b => simp [jD, noLst, noLstA]
theorem noLst_js : ∀ xs : List JStep, noLstA (xs.map jD) = true
 | [] => rfl
 | x :: xs => by rw [List.map_cons]; show (noLst (jD x) && noLstA (xs.map jD)) = true; rw [noLst_j, noLst_js xs]; rfl
def StL (H : Hp) (ys : List V) (xs : List JStep) : Prop := HasL H ys (xs.map jD)
theorem StL.nil {H : Hp} : StL H [] [] := hasL_nil
theorem StL.tups {H H' : Hp} {ys : List V} {xs : List JStep} (h : StL H ys xs) (e : Tups H H') : StL H' ys xs := HasL.tups e (noLst_js xs) h
theorem StL.same {H H' : Hp} {ys : List V} {xs : List JStep} (h : StL H ys xs) (e : Same H H') : StL H' ys xs := h.tups e.tups
theorem StL.step {ps ps' : List Addr} {H H' : Hp} {ys : List V} {xs : List JStep} (h : StL H ys xs) (s : Stp ps H ps' H') : StL H' ys xs := h.tups s.tup
theorem StL.len {H : Hp} {ys : List V} {xs : List JStep} (h : StL H ys xs) : ys.length = xs.length := by have := HasL.length h; rwa [List.length_map] at this
theorem StL.snoc {H : Hp} {ys : List V} {xs : List JStep} {v : V} {x : JStep} (h : StL H ys xs) (hv : Has H v (jD x)) : StL H (ys ++ [v]) (xs ++ [x]) := by
 unfold StL
 rw [List.map_append]
 exact HasL.append h (yZ hv hasL_nil)
theorem jw_has {H : Hp} {q c : Addr} {m : Msg} (hq : H q = some (.tup [.str "write", .non, .ref c])) (hc : H c = some (mT m)) : Has H (.ref q) (jD (.w m)) := has_tup hq (yZ (has_str _) (yZ has_none (yZ (msg_has hc) hasL_nil)))
theorem jt_has {H : Hp} {q : Addr} {a b : Int} (hq : H q = some (.tup [.str "trim", .int a, .int b])) : Has H (.ref q) (jD (.t a b)) := has_tup hq (yZ (has_str _) (yZ (has_int _) (yZ (has_int _) hasL_nil)))
structure JS where
 g : Int
 on : List Msg
 row : List Msg
 tr : Int
 st : List JStep
 sb : List JStep
def js0 : JS := ⟨0, [], [], 0, [], []⟩
def JS.told (s : JS) : Int := s.g + (s.row.length : Int)
def doJ (s : JS) : JStep → JS
 | .w m => { s with row := s.row ++ [m] }
 | .t _ b => { s with tr := b }
def onJ (s : JS) (x : JStep) : JS := { doJ s x with st := s.st ++ [x], sb := [] }
structure JA where
 p : Addr
 o : Addr
 r : Addr
 t : Addr
 b : Addr
def JA.fp (a : JA) : List Addr := [a.p, a.o, a.r, a.t, a.b]
def jF (g tr : Int) (o r t b : Addr) : List (Str × V) := [("ground", .int g), ("ground_ones", .ref o), ("row", .ref r), ("trimmed", .int tr), ("steps", .ref t), ("steps_back", .ref b)]
section
variable {g tr : Int} {o r t b : Addr}
theorem jF_ground : (jF g tr o r t b).lookup ("ground" : Str) = some (V.int g) := lk_hit
theorem jF_ones : (jF g tr o r t b).lookup ("ground_ones" : Str) = some (V.ref o) := (lk_miss (by decide +kernel)).trans lk_hit
theorem jF_row : (jF g tr o r t b).lookup ("row" : Str) = some (V.ref r) := (lk_miss (by decide +kernel)).trans ((lk_miss (by decide +kernel)).trans lk_hit)
theorem jF_tr : (jF g tr o r t b).lookup ("trimmed" : Str) = some (V.int tr) := (lk_miss (by decide +kernel)).trans ((lk_miss (by decide +kernel)).trans ((lk_miss (by decide +kernel)).trans lk_hit))
theorem jF_steps : (jF g tr o r t b).lookup ("steps" : Str) = some (V.ref t) := (lk_miss (by decide +kernel)).trans ((lk_miss (by decide +kernel)).trans ((lk_miss (by decide +kernel)).trans ((lk_miss (by decide +kernel)).trans lk_hit)))
theorem jF_back : (jF g tr o r t b).lookup ("steps_back" : Str) = some (V.ref b) := (lk_miss (by decide +kernel)).trans ((lk_miss (by decide +kernel)).trans ((lk_miss (by decide +kernel)).trans ((lk_miss (by decide +kernel)).trans ((lk_miss (by decide +kernel)).trans lk_hit))))
theorem jF_no {f : Str} (h1 : ¬ f = "ground") (h2 : ¬ f = "ground_ones") (h3 : ¬ f = "row") (h4 : ¬ f = "trimmed") (h5 : ¬ f = "steps") (h6 : ¬ f = "steps_back") : (jF g tr o r t b).lookup f = none :=
 (lk_miss h1).trans ((lk_miss h2).trans ((lk_miss h3).trans ((lk_miss h4).trans ((lk_miss h5).trans (lk_miss h6)))))
theorem jF_make : putF "steps_back" (.ref b) (putF "steps" (.ref t) (putF "trimmed" (.int tr) (putF "row" (.ref r) (putF "ground_ones" (.ref o) (putF "ground" (.int g) []))))) = jF g tr o r t b := by
 show putF "steps_back" (.ref b) (putF "steps" (.ref t) (putF "trimmed" (.int tr) (putF "row" (.ref r) (putF "ground_ones" (.ref o) [("ground", .int g)])))) = _
 rw [yq (by decide +kernel)]
 show putF "steps_back" (.ref b) (putF "steps" (.ref t) (putF "trimmed" (.int tr) (putF "row" (.ref r) [("ground", .int g), ("ground_ones", .ref o)]))) = _
 rw [yq (by decide +kernel), yq (by decide +kernel)]
 show putF "steps_back" (.ref b) (putF "steps" (.ref t) (putF "trimmed" (.int tr) [("ground", .int g), ("ground_ones", .ref o), ("row", .ref r)])) = _
 rw [yq (by decide +kernel), yq (by decide +kernel), yq (by decide +kernel)]
 show putF "steps_back" (.ref b) (putF "steps" (.ref t) [("ground", .int g), ("ground_ones", .ref o), ("row", .ref r), ("trimmed", .int tr)]) = _
 rw [yq (by decide +kernel), yq (by decide +kernel), yq (by decide +kernel), yq (by decide +kernel)]
 show putF "steps_back" (.ref b) [("ground", .int g), ("ground_ones", .ref o), ("row", .ref r), ("trimmed", .int tr), ("steps", .ref t)] = _
 rw [yq (by decide +kernel), yq (by decide +kernel), yq (by decide +kernel), yq (by decide +kernel), yq (by decide +kernel)]
 rfl
theorem jF_setTr {x : Int} : putF "trimmed" (.int x) (jF g tr o r t b) = jF g x o r t b := by
 unfold jF
 rw [yq (by decide +kernel), yq (by decide +kernel), yq (by decide +kernel), pf_hit]
theorem jF_setBack {x : Addr} : putF "steps_back" (.ref x) (jF g tr o r t b) = jF g tr o r t x := by
 unfold jF
 rw [yq (by decide +kernel), yq (by decide +kernel), yq (by decide +kernel), yq (by decide +kernel), yq (by decide +kernel), pf_hit]
theorem jF_len : (jF g tr o r t b).length < 1000 := by show 6 < 1000; decide
end
structure JAt (C : Addr) (H : Hp) (a : JA) (s : JS) : Prop where
 ob : ∃ dx, H a.p = some (.ins C dx (jF s.g s.tr a.o a.r a.t a.b))
 on : ∃ ys, H a.o = some (.lst ys) ∧ Ms H ys s.on
 ro : ∃ ys, H a.r = some (.lst ys) ∧ Ms H ys s.row
 ss : ∃ ys, H a.t = some (.lst ys) ∧ StL H ys s.st
 sk : ∃ ys, H a.b = some (.lst ys) ∧ StL H ys s.sb
 ap : a.o ≠ a.r ∧ a.o ≠ a.t ∧ a.o ≠ a.b ∧ a.r ≠ a.t ∧ a.r ≠ a.b ∧ a.t ≠ a.b
section
variable {C : Addr} {H H' : Hp} {a : JA} {s : JS}
theorem JAt.live (h : JAt C H a s) : ∀ c ∈ a.fp, ∃ o, H c = some o := by
 obtain ⟨⟨dx, h1⟩, ⟨y2, h2, _⟩, ⟨y3, h3, _⟩, ⟨y4, h4, _⟩, ⟨y5, h5, _⟩, _⟩ := h
 intro c hc
 simp only [JA.fp, List.mem_cons, List.not_mem_nil, or_false] at hc
 rcases hc with rfl | rfl | rfl | rfl | rfl
 · exact ⟨_, h1⟩
 · exact ⟨_, h2⟩
 · exact ⟨_, h3⟩
 · exact ⟨_, h4⟩
 · exact ⟨_, h5⟩
theorem JAt.step {ps ps' : List Addr} (h : JAt C H a s) (st : Stp ps H ps' H') (hd : ∀ c ∈ a.fp, c ∉ ps) : JAt C H' a s := by
 obtain ⟨⟨dx, h1⟩, ⟨y2, h2, m2⟩, ⟨y3, h3, m3⟩, ⟨y4, h4, m4⟩, ⟨y5, h5, m5⟩, h6⟩ := h
 exact ⟨⟨dx, st.keep h1 (hd _ (by simp [JA.fp]))⟩, ⟨y2, st.keep h2 (hd _ (by simp [JA.fp])), m2.step st⟩, ⟨y3, st.keep h3 (hd _ (by simp [JA.fp])), m3.step st⟩, ⟨y4, st.keep h4 (hd _ (by simp [JA.fp])), m4.step st⟩, ⟨y5, st.keep h5 (hd _ (by simp [JA.fp])), m5.step st⟩, h6⟩
theorem JAt.same (h : JAt C H a s) (e : Same H H') : JAt C H' a s := h.step (e.step []) fun _ _ => List.not_mem_nil
theorem JAt.free (h : JAt C H a s) {c : Addr} (hc : H c = none) : c ∉ a.fp := fun z => by
 obtain ⟨o, ho⟩ := h.live c z
 rw [ho] at hc; cases hc
theorem JAt.np (h : JAt C H a s) : a.p ≠ a.o ∧ a.p ≠ a.r ∧ a.p ≠ a.t ∧ a.p ≠ a.b := by
 obtain ⟨⟨dx, h1⟩, ⟨y2, h2, _⟩, ⟨y3, h3, _⟩, ⟨y4, h4, _⟩, ⟨y5, h5, _⟩, _⟩ := h
 exact ⟨ne_of h1 h2 (by intro z; cases z), ne_of h1 h3 (by intro z; cases z), ne_of h1 h4 (by intro z; cases z), ne_of h1 h5 (by intro z; cases z)⟩
end
structure JournalC (K : W.Frag) (mg : Str → Option Value) (C : Addr) : Prop where
 cl_Journal : Cls K C
 mg_Journal : mg "Journal" = some (.ref C)
 n_ground : NoAttr K C "ground"
 n_ground_ones : NoAttr K C "ground_ones"
 n_row : NoAttr K C "row"
 n_trimmed : NoAttr K C "trimmed"
 n_steps : NoAttr K C "steps"
 n_steps_back : NoAttr K C "steps_back"
structure JOk (s : JS) : Prop where
 sz : s.on.length + s.row.length < 60
 sz2 : s.st.length + s.sb.length < 500
 rise : Rise (s.on ++ s.row)
def spInitJ (C : Addr) : Sp := fun vs H Q _ => ∃ (p dx : Addr), vs = [.ref p] ∧ H p = some (.ins C dx []) ∧ ∀ a H', a.p = p → JAt C H' a js0 → Stp [p] H a.fp H' → Q .non H'
def spToldJ (C : Addr) : Sp := fun vs H Q _ => ∃ a s, vs = [.ref (JA.p a)] ∧ JAt C H a s ∧ Q (.int s.told) H
def spUnkX (C CN : Addr) : Sp := fun vs H Q E => ∃ a s n, vs = [.ref (JA.p a), .int n] ∧ JAt C H a s ∧ ((s.tr ≤ n ∧ n ≤ s.told ∧ Q .non H) ∨ (¬ (s.tr ≤ n ∧ n ≤ s.told) ∧ E (.ref CN) none H))
def spDoJ (C : Addr) : Sp := fun vs H Q _ => ∃ a s v x, vs = [.ref (JA.p a), v] ∧ JAt C H a s ∧ s.row.length < 1000 ∧ Has H v (jD x) ∧ ∀ H', JAt C H' a (doJ s x) → Stp a.fp H a.fp H' → Q .non H'
def spOnJ (C : Addr) : Sp := fun vs H Q _ => ∃ a s v x, vs = [.ref (JA.p a), v] ∧ JAt C H a s ∧ s.row.length < 1000 ∧ s.st.length < 1000 ∧ Has H v (jD x) ∧ ∀ a' H', a'.p = a.p → JAt C H' a' (onJ s x) → Stp a.fp H a'.fp H' → Q .non H'
def spWriteJ (C : Addr) : Sp := fun vs H Q _ => ∃ a s t x, vs = [.ref (JA.p a), .str t, .str x] ∧ JAt C H a s ∧ s.row.length < 1000 ∧ s.st.length < 1000 ∧ ∀ a' H', a'.p = a.p → JAt C H' a' (onJ s (.w ⟨s.told + 1, t, x⟩)) → Stp a.fp H a'.fp H' → Q (.int (s.told + 1)) H'
def spTrimX (C CN : Addr) : Sp := fun vs H Q E => ∃ a s n, vs = [.ref (JA.p a), .int n] ∧ JAt C H a s ∧ s.row.length < 1000 ∧ s.st.length < 1000 ∧
 ((s.tr ≤ n ∧ n ≤ s.told ∧ ∀ a' H', a'.p = a.p → JAt C H' a' (onJ s (.t s.tr n)) → Stp a.fp H a'.fp H' → Q (.int (n - s.tr)) H') ∨ (¬ (s.tr ≤ n ∧ n ≤ s.told) ∧ E (.ref CN) none H))
def spKeptJ (C : Addr) : Sp := fun vs H Q _ => ∃ a s, vs = [.ref (JA.p a)] ∧ JAt C H a s ∧ s.g ≤ s.tr ∧ ∀ l ys, H l = none → Ms (upd H l (.lst ys)) ys (s.row.drop (s.tr - s.g).toNat) → Q (.ref l) (upd H l (.lst ys))
def spLastAtJ (C : Addr) : Sp := fun vs H Q _ => ∃ a s n, vs = [.ref (JA.p a), .int n] ∧ JAt C H a s ∧ s.g ≤ n ∧ JOk s ∧ ∀ l ys ls H', Same H H' → H l = none → H' l = some (.lst ys) → Ms H' ys ls → Lasts (s.on ++ s.row.take (n - s.g).toNat) ls → Q (.ref l) H'
def spLastJ (C : Addr) : Sp := fun vs H Q _ => ∃ a s, vs = [.ref (JA.p a)] ∧ JAt C H a s ∧ JOk s ∧ ∀ l ys ls H', Same H H' → H l = none → H' l = some (.lst ys) → Ms H' ys ls → Lasts (s.on ++ s.row) ls → Q (.ref l) H'
end L2
namespace L2
open PySem PySem.Spec PyProof.Rows PySem.W
section
variable {g tr : Int} {o r t b : Addr}
theorem jF_setG {x : Int} : putF "ground" (.int x) (jF g tr o r t b) = jF x tr o r t b := by
 unfold jF
 rw [pf_hit]
theorem jF_setOn {x : Addr} : putF "ground_ones" (.ref x) (jF g tr o r t b) = jF g tr x r t b := by
 unfold jF
 rw [yq (by decide +kernel), pf_hit]
theorem jF_setRow {x : Addr} : putF "row" (.ref x) (jF g tr o r t b) = jF g tr o x t b := by
 unfold jF
 rw [yq (by decide +kernel), yq (by decide +kernel), pf_hit]
end
section
variable {C dx l : Addr} {H : Hp} {a : JA} {s : JS} {n : Int} {ys : List V} {ms : List Msg} {xs : List JStep}
theorem JAt.putG (h : JAt C H a s) (h1 : H a.p = some (.ins C dx (jF s.g s.tr a.o a.r a.t a.b))) : JAt C (upd H a.p (.ins C dx (jF n s.tr a.o a.r a.t a.b))) a { s with g := n } ∧ Stp a.fp H a.fp (upd H a.p (.ins C dx (jF n s.tr a.o a.r a.t a.b))) := by
 obtain ⟨npo, npr, npt, npb⟩ := h.np
 obtain ⟨_, ⟨y2, h2, m2⟩, ⟨y3, h3, m3⟩, ⟨y4, h4, m4⟩, ⟨y5, h5, m5⟩, hap⟩ := h
 have st := Stp.put (ps := [a.p]) (o := .ins C dx (jF n s.tr a.o a.r a.t a.b)) h1 (fun _ z => by cases z) (by simp)
 exact ⟨⟨⟨dx, qY⟩, ⟨y2, st.keep h2 (by simp [npo.symm]), m2.step st⟩, ⟨y3, st.keep h3 (by simp [npr.symm]), m3.step st⟩, ⟨y4, st.keep h4 (by simp [npt.symm]), m4.step st⟩, ⟨y5, st.keep h5 (by simp [npb.symm]), m5.step st⟩, hap⟩, st.up (by simp [JA.fp])⟩
theorem JAt.putTr (h : JAt C H a s) (h1 : H a.p = some (.ins C dx (jF s.g s.tr a.o a.r a.t a.b))) : JAt C (upd H a.p (.ins C dx (jF s.g n a.o a.r a.t a.b))) a { s with tr := n } ∧ Stp a.fp H a.fp (upd H a.p (.ins C dx (jF s.g n a.o a.r a.t a.b))) := by
 obtain ⟨npo, npr, npt, npb⟩ := h.np
 obtain ⟨_, ⟨y2, h2, m2⟩, ⟨y3, h3, m3⟩, ⟨y4, h4, m4⟩, ⟨y5, h5, m5⟩, hap⟩ := h
 have st := Stp.put (ps := [a.p]) (o := .ins C dx (jF s.g n a.o a.r a.t a.b)) h1 (fun _ z => by cases z) (by simp)
 exact ⟨⟨⟨dx, qY⟩, ⟨y2, st.keep h2 (by simp [npo.symm]), m2.step st⟩, ⟨y3, st.keep h3 (by simp [npr.symm]), m3.step st⟩, ⟨y4, st.keep h4 (by simp [npt.symm]), m4.step st⟩, ⟨y5, st.keep h5 (by simp [npb.symm]), m5.step st⟩, hap⟩, st.up (by simp [JA.fp])⟩
theorem JAt.mk5 (h : JAt C H a s) (nl : H l = none) : a.p ≠ l ∧ a.o ≠ l ∧ a.r ≠ l ∧ a.t ≠ l ∧ a.b ≠ l := by
 obtain ⟨⟨dx, h1⟩, ⟨y2, h2, _⟩, ⟨y3, h3, _⟩, ⟨y4, h4, _⟩, ⟨y5, h5, _⟩, _⟩ := h
 exact ⟨qy h1 nl, qy h2 nl, qy h3 nl, qy h4 nl, qy h5 nl⟩
theorem st_in {H' : Hp} {f f' : List Addr} (z : Stp f H (l :: f) H') (h : ∀ c ∈ f', c = l ∨ c ∈ f) : Stp f H f' H' := ⟨z.1, z.2, fun c hc => z.3 c (by rcases h c hc with e | e <;> simp [e])⟩
theorem JAt.putOn (h : JAt C H a s) (h1 : H a.p = some (.ins C dx (jF s.g s.tr a.o a.r a.t a.b))) (nl : H l = none) (m : Ms H ys ms) : JAt C (upd (upd H l (.lst ys)) a.p (.ins C dx (jF s.g s.tr l a.r a.t a.b))) { a with o := l } { s with on := ms } ∧ Stp a.fp H ({ a with o := l } : JA).fp (upd (upd H l (.lst ys)) a.p (.ins C dx (jF s.g s.tr l a.r a.t a.b))) := by
 obtain ⟨npo, npr, npt, npb⟩ := h.np
 obtain ⟨q1, q2, q3, q4, q5⟩ := h.mk5 nl
 obtain ⟨_, ⟨y2, h2, m2⟩, ⟨y3, h3, m3⟩, ⟨y4, h4, m4⟩, ⟨y5, h5, m5⟩, a1, a2, a3, a4, a5, a6⟩ := h
 have s1 := Same.new (o := .lst ys) nl
 have st := Stp.put (ps := [a.p]) (o := .ins C dx (jF s.g s.tr l a.r a.t a.b)) (s1 _ _ h1) (fun _ z => by cases z) (by simp)
 have z := (Stp.make (ps := a.fp) (o := .lst ys) nl).trans (st.up (qs := l :: a.fp) (by simp [JA.fp]))
 exact ⟨⟨⟨dx, qY⟩, ⟨ys, st.keep qY (by simp [q1.symm]), (m.same s1).step st⟩, ⟨y3, st.keep (s1 _ _ h3) (by simp [npr.symm]), (m3.same s1).step st⟩, ⟨y4, st.keep (s1 _ _ h4) (by simp [npt.symm]), (m4.same s1).step st⟩, ⟨y5, st.keep (s1 _ _ h5) (by simp [npb.symm]), (m5.same s1).step st⟩, q3.symm, q4.symm, q5.symm, a4, a5, a6⟩, st_in z fun c hc => by
   simp only [JA.fp, List.mem_cons, List.not_mem_nil, or_false] at hc ⊢; rcases hc with e | e | e | e | e <;> simp [e]⟩
theorem JAt.putRow (h : JAt C H a s) (h1 : H a.p = some (.ins C dx (jF s.g s.tr a.o a.r a.t a.b))) (nl : H l = none) (m : Ms H ys ms) : JAt C (upd (upd H l (.lst ys)) a.p (.ins C dx (jF s.g s.tr a.o l a.t a.b))) { a with r := l } { s with row := ms } ∧ Stp a.fp H ({ a with r := l } : JA).fp (upd (upd H l (.lst ys)) a.p (.ins C dx (jF s.g s.tr a.o l a.t a.b))) := by
 obtain ⟨npo, npr, npt, npb⟩ := h.np
 obtain ⟨q1, q2, q3, q4, q5⟩ := h.mk5 nl
 obtain ⟨_, ⟨y2, h2, m2⟩, ⟨y3, h3, m3⟩, ⟨y4, h4, m4⟩, ⟨y5, h5, m5⟩, a1, a2, a3, a4, a5, a6⟩ := h
 have s1 := Same.new (o := .lst ys) nl
 have st := Stp.put (ps := [a.p]) (o := .ins C dx (jF s.g s.tr a.o l a.t a.b)) (s1 _ _ h1) (fun _ z => by cases z) (by simp)
 have z := (Stp.make (ps := a.fp) (o := .lst ys) nl).trans (st.up (qs := l :: a.fp) (by simp [JA.fp]))
 exact ⟨⟨⟨dx, qY⟩, ⟨y2, st.keep (s1 _ _ h2) (by simp [npo.symm]), (m2.same s1).step st⟩, ⟨ys, st.keep qY (by simp [q1.symm]), (m.same s1).step st⟩, ⟨y4, st.keep (s1 _ _ h4) (by simp [npt.symm]), (m4.same s1).step st⟩, ⟨y5, st.keep (s1 _ _ h5) (by simp [npb.symm]), (m5.same s1).step st⟩, q2, a2, a3, q4.symm, q5.symm, a6⟩, st_in z fun c hc => by
   simp only [JA.fp, List.mem_cons, List.not_mem_nil, or_false] at hc ⊢; rcases hc with e | e | e | e | e <;> simp [e]⟩
end
def spCountsJ (C : Addr) : Sp := fun vs H Q _ => ∃ a s, vs = [.ref (JA.p a)] ∧ JAt C H a s ∧ ∀ q, H q = none → Q (.ref q) (upd H q (.tup [.int (s.st.length : Int), .int (s.sb.length : Int)]))
def spTrimmedJ (C : Addr) : Sp := fun vs H Q _ => ∃ n lo lk yo yk mo mk, vs = [.int n, .ref lo, .ref lk] ∧ H lo = some (.lst yo) ∧ Ms H yo mo ∧ H lk = some (.lst yk) ∧ Ms H yk mk ∧ mo.length < 1000 ∧ mk.length < 1000 ∧ ∀ a H', JAt C H' a ⟨n, mo, mk, n, [], []⟩ → Stp [] H a.fp H' → Q (.ref a.p) H'
theorem rows_snoc' {all : List Msg} (hR : Rows all) {m : Msg} (h : m.n = (all.length : Int) + 1) : Rows (all ++ [m]) := by
 intro i hi
 rw [List.length_append] at hi
 have hi' : i < all.length + 1 := hi
 by_cases h' : i < all.length
 · rw [List.getElem_append_left h']
   exact hR i h'
 · rw [List.getElem_append_right (by omega)]
   have e : i - all.length = 0 := by omega
   simp only [e, List.getElem_cons_zero]
   omega
end L2
namespace L2
open PySem PySem.Spec PyProof.Rows PySem.W
def yB (ms : List Msg) : List Msg := ms.filter (isTopB ms)
theorem lastF_lasts {ms : List Msg} (h : Rise ms) : Lasts ms (yB ms) := ⟨List.Pairwise.filter _ h, isTopB_mem⟩
def twD (m n : Int) : PyData := .tuple [.int m, .int n]
theorem tw_has {H : Hp} {q : Addr} {m n : Int} (h : H q = some (.tup [.int m, .int n])) : Has H (.ref q) (twD m n) := has_tup h (yZ (has_int _) (yZ (has_int _) hasL_nil))
end L2
namespace L2
open PySem PySem.Spec PyProof.Rows PySem.W
def Ris (xs : Array Nat) : Prop := ∀ (i j : Nat) (hi : i < xs.size) (hj : j < xs.size), i < j → xs[i] < xs[j]
theorem Ris.le {xs : Array Nat} (h : Ris xs) {i j : Nat} (hi : i < xs.size) (hj : j < xs.size) (e : i ≤ j) : xs[i] ≤ xs[j] := by
 rcases Nat.lt_or_eq_of_le e with z | z
 · exact Nat.le_of_lt (h i j hi hj z)
 · subst z; exact Nat.le_refl _
theorem below_go {xs : Array Nat} {j : Nat} (hr : Ris xs) : ∀ (fuel lo hi : Nat), hi - lo ≤ fuel → lo ≤ hi → hi ≤ xs.size → (∀ i (h : i < xs.size), i < lo → xs[i] < j) → (∀ i (h : i < xs.size), hi ≤ i → j ≤ xs[i]) →
   SetTable.below.go xs j fuel lo hi ≤ xs.size ∧ (∀ i (h : i < xs.size), i < SetTable.below.go xs j fuel lo hi → xs[i] < j) ∧ (∀ i (h : i < xs.size), SetTable.below.go xs j fuel lo hi ≤ i → j ≤ xs[i])
 | 0, lo, hi, hf, hl, hs, h1, h2 => by
   have e : hi = lo := by omega
   subst e
   exact ⟨hs, h1, h2⟩
 | fuel + 1, lo, hi, hf, hl, hs, h1, h2 => by
   unfold SetTable.below.go
   by_cases z : lo < hi
   · rw [if_pos z]
     have hm : (lo + hi) / 2 < xs.size := by omega
     dsimp only
     rw [Array.getD_eq_getD_getElem?, Array.getElem?_eq_getElem hm, Option.getD_some]
     by_cases y : xs[(lo + hi) / 2] < j
     · rw [if_pos y]
       exact below_go hr fuel _ _ (by omega) (by omega) hs (fun i h hi => Nat.lt_of_le_of_lt (hr.le h hm (by omega)) y) h2
     · rw [if_neg y]
       exact below_go hr fuel _ _ (by omega) (by omega) (by omega) h1 (fun i h hi => Nat.le_trans (Nat.not_lt.mp y) (hr.le hm h hi))
   · rw [if_neg z]
     have e : hi = lo := by omega
     subst e
     exact ⟨hs, h1, h2⟩
theorem below_spec {xs : Array Nat} (hr : Ris xs) (j : Nat) : SetTable.below xs j ≤ xs.size ∧ (∀ i (h : i < xs.size), i < SetTable.below xs j → xs[i] < j) ∧ (∀ i (h : i < xs.size), SetTable.below xs j ≤ i → j ≤ xs[i]) :=
 below_go hr xs.size 0 xs.size (by omega) (Nat.zero_le _) (Nat.le_refl _) (fun i h z => by omega) (fun i h z => by omega)
theorem ris_list {xs : Array Nat} (h : xs.toList.Pairwise (· < ·)) : Ris xs := fun i j hi hj e => by
 have := List.pairwise_iff_getElem.mp h i j (by simpa using hi) (by simpa using hj) e
 simpa using this
theorem list_ris {xs : Array Nat} (h : Ris xs) : xs.toList.Pairwise (· < ·) := List.pairwise_iff_getElem.mpr fun i j hi hj e => by
 have := h i j (by simpa using hi) (by simpa using hj) e
 simpa using this
theorem ins_ris {xs : Array Nat} (hr : Ris xs) {j : Nat} (hj : xs[SetTable.below xs j]? ≠ some j) : Ris (SetTable.insertAt xs (SetTable.below xs j) j) := by
 obtain ⟨h0, h1, h2⟩ := below_spec hr j
 refine ris_list ?_
 rw [SetTable.toList_insertAt]
 generalize SetTable.below xs j = p at *
 have hl := list_ris hr
 refine List.pairwise_append.mpr ⟨hl.sublist (List.take_sublist _ _), List.pairwise_cons.mpr ⟨fun y hy => ?_, hl.sublist (List.drop_sublist _ _)⟩, fun x hx y hy => ?_⟩
 · obtain ⟨i, hi, e⟩ := List.getElem_of_mem hy
   rw [List.getElem_drop, Array.getElem_toList] at e
   rw [List.length_drop, Array.length_toList] at hi
   have z := h2 (p + i) (by omega) (by omega)
   rcases Nat.lt_or_eq_of_le z with w | w
   · rw [← e]; exact w
   · exfalso
     have hp := h2 p (by omega) (Nat.le_refl _)
     have hq := hr.le (i := p) (j := p + i) (by omega) (by omega) (by omega)
     refine hj ?_
     rw [Array.getElem?_eq_getElem (by omega)]
     congr 1; omega
 · obtain ⟨i, hi, e⟩ := List.getElem_of_mem hx
   rw [List.length_take, Array.length_toList] at hi
   rw [List.getElem_take, Array.getElem_toList] at e
   have hxj : x < j := by rw [← e]; exact h1 i (by omega) (by omega)
   rcases List.mem_cons.mp hy with rfl | hy
   · exact hxj
   · obtain ⟨k, hk, e2⟩ := List.getElem_of_mem hy
     rw [List.getElem_drop, Array.getElem_toList] at e2
     rw [List.length_drop, Array.length_toList] at hk
     have := h2 (p + k) (by omega) (by omega)
     omega
structure OkT (t : SetTable) (n : Nat) : Prop where
 fits : t.fits n = true
 ris : Ris t.place
 nd : t.dummies = #[]
structure OkW (t : SetTable) (n : Nat) : Prop where
 fits : t.fits n = true
 ris : Ris t.place
theorem has_empty (j : Nat) : SetTable.has #[] j = false := rfl
theorem probe_empty {t : SetTable} (hd : t.dummies = #[]) {f : Nat → Int} {h : Int} : ∀ (fuel : Nat) (p : SetTable.Probe) (j : Nat) (d : Option Nat), p.dummy = none → SetTable.probe.go t f h fuel p = some (.empty j d) → d = none ∧ t.place[SetTable.below t.place j]? ≠ some j
 | 0, p, j, d, _, e => by unfold SetTable.probe.go at e; cases e
 | fuel + 1, p, j, d, hp, e => by
   unfold SetTable.probe.go at e
   have adv : (t.advance p).dummy = none := by
     unfold SetTable.advance
     split <;> exact hp
   cases hs : t.slot p.j with
   | empty =>
     rw [hs] at e
     dsimp only at e
     have e' := Option.some.inj e
     injection e' with e1 e2
     subst e1
     refine ⟨by rw [← e2]; exact hp, fun z => ?_⟩
     unfold SetTable.slot at hs
     dsimp only at hs
     rw [z] at hs
     simp at hs
   | dummy =>
     exfalso
     unfold SetTable.slot at hs
     dsimp only at hs
     rw [hd, has_empty] at hs
     split at hs
     · cases hs
     · simp at hs
   | live i =>
     rw [hs] at e
     dsimp only at e
     split at e
     · cases e
     · exact probe_empty hd fuel _ j d adv e
theorem free_slot {t : SetTable} (hd : t.dummies = #[]) {h : Int} {j : Nat} {b : Bool} (e : t.freeSlot h = some (j, b)) : b = false ∧ t.place[SetTable.below t.place j]? ≠ some j := by
 unfold SetTable.freeSlot at e
 split at e
 · rename_i j' d e'
   obtain ⟨rfl, h2⟩ := probe_empty hd _ _ j' d rfl e'
   cases e
   exact ⟨rfl, h2⟩
 · cases e
theorem range_ris (n : Nat) : Ris (Array.range n) := fun i j hi hj e => by simpa using e
theorem okT_standIn (t : SetTable) (n : Nat) : OkT (t.standIn n) n := ⟨SetTable.standIn_fits t n, range_ris n, rfl⟩
theorem okT_or {t : SetTable} {n : Nat} (hr : Ris t.place) (hd : t.dummies = #[]) : OkT (t.orStandIn n) n := by
 unfold SetTable.orStandIn
 split
 · rename_i h; exact ⟨h, hr, hd⟩
 · exact okT_standIn t n
theorem orStandIn_led (t : SetTable) (n : Nat) : (t.orStandIn n).led = t.led := by
 unfold SetTable.orStandIn
 split <;> rfl
theorem layNew_ok {t : SetTable} {es : Array (Int × Value)} (ok : OkT t es.size) (h : Int) (x : Value) : OkT (layNew t es h x).2.1 (layNew t es h x).1.size ∧ (layNew t es h x).2.1.led = t.led := by
 unfold layNew
 split
 · rename_i j b e
   obtain ⟨rfl, h2⟩ := free_slot ok.nd e
   refine ⟨okT_or (ins_ris ok.ris h2) ?_, orStandIn_led _ _⟩
   show (if SetTable.has t.dummies j = true then _ else t.dummies) = #[]
   rw [ok.nd, has_empty, if_neg (by decide)]
 · exact ⟨by simpa using okT_standIn t (es.size + 1), rfl⟩
theorem range_pairs {f : Nat → Option Nat} (m : Nat) : ((List.range m).filterMap fun j => (f j).map (j, ·)).Pairwise (fun a b => a.1 < b.1) := by
 refine List.Pairwise.filterMap _ (R := (· < ·)) (fun a b hab c hc d hd => ?_) List.pairwise_lt_range
 obtain ⟨_, _, rfl⟩ := Option.map_eq_some_iff.mp hc
 obtain ⟨_, _, rfl⟩ := Option.map_eq_some_iff.mp hd
 exact hab
theorem laid_ris {mask finger moves : Nat} {led plain : Bool} {hs : Array Int} {t : SetTable} {o : Array Nat} (e : SetTable.laid mask finger moves led plain hs = some (t, o)) : Ris t.place ∧ t.dummies = #[] ∧ t.led = led := by
 unfold SetTable.laid at e
 cases h : SetTable.layClean mask hs with
 | none => rw [h] at e; cases e
 | some owner =>
   rw [h] at e
   have e' := Option.some.inj e
   injection e' with e1 e2
   subst e1
   refine ⟨ris_list ?_, rfl, rfl⟩
   show (((List.range (mask + 1)).filterMap fun j => (owner.getD j none).map (j, ·)).map (·.1)).Pairwise (· < ·)
   exact List.pairwise_map.mpr (range_pairs (mask + 1))
theorem relayAll_ok (t : SetTable) (es : Array (Int × Value)) (wanted : Nat) : OkT (relayAll t es wanted).2.1 (relayAll t es wanted).1.size ∧ (relayAll t es wanted).2.1.led = t.led := by
 unfold relayAll
 split
 · rename_i t' order e
   obtain ⟨h1, h2, h3⟩ := laid_ris e
   dsimp only
   split
   · rename_i hc
     exact ⟨⟨(Bool.and_eq_true_iff.mp hc).2, h1, h2⟩, h3⟩
   · exact ⟨okT_standIn t es.size, rfl⟩
 · exact ⟨okT_standIn t es.size, rfl⟩
theorem okT_plain {t : SetTable} {n : Nat} (h : OkT t n) : OkT { t with plain := false } n := ⟨h.fits, h.ris, h.nd⟩
theorem okT_fresh (led : Bool) : OkT (.fresh 0 0 led) 0 := ⟨rfl, fun i j hi _ _ => absurd hi (Nat.not_lt_zero _), rfl⟩
end L2
namespace L2
open PySem PySem.Spec PyProof.Rows PySem.W
section
variable {prog : Program} {w : World} {K : Type} [DecidableEq K] (knd : KeyKind prog w K)
def Apart (e f : Int × Value) : Prop := ∀ k, knd.is k e.2 = true → knd.is k f.2 = true → False
structure KObj (o : Obj) (es : Array (Int × Value)) (ep : Nat) (t : SetTable) (S : K → Prop) : Prop where
 ex : o.ExactSet
 data : o.data = .set es ep t
 el : ElemsOf knd es.toList
 mem : ∀ k, S k ↔ ∃ e ∈ es.toList, knd.is k e.2 = true
 apart : es.toList.Pairwise (Apart knd)
 few : es.size < scanBound
 ok : OkT t es.size
 led : t.led = !w.params.followText "set-order"
def KSet (h : Heap) (a : Addr) (S : K → Prop) (n : Nat) : Prop := ∃ o es ep t, h.get? a = some o ∧ KObj knd o es ep t S ∧ es.size ≤ n
structure KIt (o : Obj) (es : Array (Int × Value)) (ep : Nat) (t : SetTable) (S : K → Prop) : Prop where
 ex : o.ExactSet
 data : o.data = .set es ep t
 el : ElemsOf knd es.toList
 mem : ∀ k, S k ↔ ∃ e ∈ es.toList, knd.is k e.2 = true
 apart : es.toList.Pairwise (Apart knd)
 few : es.size < scanBound
 ok : OkW t es.size
 led : t.led = !w.params.followText "set-order"
def KSetI (h : Heap) (a : Addr) (S : K → Prop) (n : Nat) : Prop := ∃ o es ep t, h.get? a = some o ∧ KIt knd o es ep t S ∧ es.size ≤ n
variable {knd} {A : Around} {E : Value → Shared → Prop} {s : Shared}
theorem KObj.it {o : Obj} {es : Array (Int × Value)} {ep : Nat} {t : SetTable} {S : K → Prop} (x : KObj knd o es ep t S) : KIt knd o es ep t S := ⟨x.ex, x.data, x.el, x.mem, x.apart, x.few, ⟨x.ok.fits, x.ok.ris⟩, x.led⟩
theorem KSet.it {h : Heap} {a : Addr} {S : K → Prop} {n : Nat} (x : KSet knd h a S n) : KSetI knd h a S n := let ⟨o, es, ep, t, ho, r, z⟩ := x; ⟨o, es, ep, t, ho, r.it, z⟩
theorem KSetI.at' {h h' : Heap} {a : Addr} {S : K → Prop} {n : Nat} (x : KSetI knd h a S n) (e : ∀ o, h.get? a = some o → h'.get? a = some o) : KSetI knd h' a S n := let ⟨o, es, ep, t, ho, r⟩ := x; ⟨o, es, ep, t, e _ ho, r⟩
theorem apart_symm {e f : Int × Value} (h : Apart knd e f) : Apart knd f e := fun k a b => h k b a
theorem KSet.at' {h h' : Heap} {a : Addr} {S : K → Prop} {n : Nat} (x : KSet knd h a S n) (e : ∀ o, h.get? a = some o → h'.get? a = some o) : KSet knd h' a S n := let ⟨o, es, ep, t, ho, r⟩ := x; ⟨o, es, ep, t, e _ ho, r⟩
theorem KObj.store {h : Heap} {a : Addr} {o : Obj} {es : Array (Int × Value)} {ep : Nat} {t : SetTable} {S : K → Prop} (x : KObj knd o es ep t S) (ho : h.get? a = some o) {es' : Array (Int × Value)} {t' : SetTable} {S' : K → Prop}
   (hel : ElemsOf knd es'.toList) (hmem : ∀ k, S' k ↔ ∃ e ∈ es'.toList, knd.is k e.2 = true) (hap : es'.toList.Pairwise (Apart knd)) (hb : es'.size < scanBound) (hok : OkT t' es'.size) (hl : t'.led = !w.params.followText "set-order") :
   (h.update a (Obj.putSet es' t')).get? a = some { o with data := .set es' (ep + 1) t' } ∧ KObj knd { o with data := .set es' (ep + 1) t' } es' (ep + 1) t' S' := by
 have hg : (h.update a (Obj.putSet es' t')).get? a = some { o with data := .set es' (ep + 1) t' } := by
   have := Heap.get?_update_self (Obj.putSet es' t') ho (by rw [putSet_of es' t' x.data]; rfl)
   rw [putSet_of es' t' x.data] at this; exact this
 exact ⟨hg, x.ex, rfl, hel, hmem, hap, hb, hok, hl⟩
theorem kset_tail {g : Bool → Sem Unit} (hg : ∀ (b : Bool) (s₁ : Shared) (Q' : Unit → Shared → Prop), Q' () s₁ → wpAny (model prog w) A (g b) Q' E s₁)
   {a : Addr} {o : Obj} {es : Array (Int × Value)} {ep : Nat} {t : SetTable} {S : K → Prop} (ho : s.heap.get? a = some o) (x : KObj knd o es ep t S)
   {es1 : Array (Int × Value)} {t2 : SetTable} {S' : K → Prop} (hel1 : ElemsOf knd es1.toList) (hmem1 : ∀ k', S' k' ↔ ∃ e ∈ es1.toList, knd.is k' e.2 = true) (hap1 : es1.toList.Pairwise (Apart knd))
   (hb1 : es1.size < scanBound) (hok2 : OkT t2 es1.size) (hl : t2.led = !w.params.followText "set-order") {wasDummy : Bool} {R : Option Bool → Shared → Prop}
   (h : ∀ h', Heap.SameBut a s.heap h' → KSet knd h' a S' es1.size → R (some true) { s with heap := h' }) :
   wpAny (model prog w) A (do
       storeSet a es1 t2
       if (!wasDummy && t2.tooFull) = true then do
           g (relayAll t2 es1 (SetTable.grown es1.size)).2.2
           storeSet a (relayAll t2 es1 (SetTable.grown es1.size)).1 (relayAll t2 es1 (SetTable.grown es1.size)).2.1
           pure (some true)
         else pure (some true)) R E s := by
 refine wpAny_bind (wpAny_storeSet_of ho x.data ?_ (fits_of_scanBound hb1))
 obtain ⟨ho1, x1⟩ := x.store ho hel1 hmem1 hap1 hb1 hok2 hl
 have hsb1 := Heap.SameBut.update s.heap a (Obj.putSet es1 t2)
 split
 · have hp := relayAll_perm t2 es1 (SetTable.grown es1.size)
   have hfr := relayAll_ok t2 es1 (SetTable.grown es1.size)
   generalize hRl : relayAll t2 es1 (SetTable.grown es1.size) = Rl at hp hfr ⊢
   obtain ⟨es2, t3, gave2⟩ := Rl
   dsimp only at hp hfr ⊢
   have hel2 : ElemsOf knd es2.toList := hel1.perm hp
   have hmem2 : ∀ k', S' k' ↔ ∃ e ∈ es2.toList, knd.is k' e.2 = true := fun k' => (hmem1 k').trans ⟨fun ⟨e, he, q⟩ => ⟨e, hp.mem_iff.mpr he, q⟩, fun ⟨e, he, q⟩ => ⟨e, hp.mem_iff.mp he, q⟩⟩
   have hsz : es2.size = es1.size := by rw [← Array.length_toList, hp.length_eq, Array.length_toList]
   have hb2 : es2.size < scanBound := by rw [hsz]; exact hb1
   have hap2 : es2.toList.Pairwise (Apart knd) := (hp.pairwise_iff (fun {x y} h => apart_symm h)).mpr hap1
   refine wpAny_bind (hg _ _ _ ?_)
   refine wpAny_bind (wpAny_storeSet_of ho1 rfl ?_ (fits_of_scanBound hb2))
   obtain ⟨ho2, x2⟩ := x1.store ho1 hel2 hmem2 hap2 hb2 hfr.1 (hfr.2.trans hl)
   exact wpAny_pure (h _ (hsb1.trans (Heap.SameBut.update _ a _)) ⟨_, _, _, _, ho2, x2, Nat.le_of_eq hsz⟩)
 · exact wpAny_pure (h _ hsb1 ⟨_, _, _, _, ho1, x1, Nat.le_refl _⟩)
theorem kset_add {a : Addr} {S : K → Prop} {n : Nat} {k : K} {x : Value} {Q : Bool → Shared → Prop} (hkey : knd.is k x = true) (hsc : x.scannable = true) (hS : KSet knd s.heap a S n)
   (hroom : n + 1 < scanBound)
   (h : ∀ b h', Heap.SameBut a s.heap h' → KSet knd h' a (fun k' => S k' ∨ k' = k) (n + 1) → Q b { s with heap := h' }) :
   wpAny (model prog w) A (setAddHashed a x (knd.hash k)) Q E s := by
 obtain ⟨o, es, ep, t, ho, X, hn⟩ := hS
 have hb1 : es.size + 1 < scanBound := by omega
 unfold setAddHashed setAddHashedIn
 refine wpAny_holding (wpAny_bind (wpAny_setState_of ho X.data X.ok.fits ?_))
 dsimp only
 rw [byScan_of hsc X.few X.el]
 simp only [↓reduceIte]
 unfold setAddByScan
 refine wpAny_bind ?_
 refine wpAny_bind (wpAny_rule ?_)
 refine wpAny_bind (wpAny_setScan_of hkey ho X.data X.ok.fits X.el ?_)
 cases hr : List.findIdx? (fun e => knd.is k e.2) es.toList with
 | some j =>
   dsimp only
   obtain ⟨hj, hpj, _⟩ := List.findIdx?_eq_some_iff_getElem.mp hr
   have hSk : S k := (X.mem k).mpr ⟨es.toList[j], List.getElem_mem hj, hpj⟩
   refine wpAny_pure (wpAny_pure ?_)
   have e : s = { s with heap := s.heap } := by cases s; rfl
   have := h false s.heap (Heap.SameBut.refl a s.heap) ⟨o, es, ep, t, ho, ⟨X.ex, X.data, X.el, fun k' => by
     rw [← X.mem k']
     exact ⟨fun hk => hk.elim id (fun e => e ▸ hSk), .inl⟩, X.apart, X.few, X.ok, X.led⟩, by omega⟩
   rw [e]; exact this
 | none =>
   dsimp only
   have hno : ∀ e ∈ es.toList, knd.is k e.2 = false := fun e he => by simpa using List.findIdx?_eq_none_iff.mp hr e he
   have hgw : ∀ (b : Bool) {s₁ : Shared} {Q' : Unit → Shared → Prop}, Q' () s₁ → wpAny (model prog w) A (match b with | true => rule "set.scan.the-table-gave-way" | false => pure ()) Q' E s₁ :=
     fun b s₁ Q' hq => by cases b <;> first | exact wpAny_pure hq | exact wpAny_rule hq
   have hperm := layNew_perm t es (knd.hash k) x
   have hoks := layNew_ok X.ok (knd.hash k) x
   generalize hL : layNew t es (knd.hash k) x = L at hperm hoks ⊢
   obtain ⟨es1, t1, wasDummy, gave⟩ := L
   dsimp only at hperm hoks ⊢
   rw [Array.toList_push] at hperm
   have hel1 : ElemsOf knd es1.toList := (X.el.push hkey hsc).perm hperm
   have hmem1 : ∀ k', (S k' ∨ k' = k) ↔ ∃ e ∈ es1.toList, knd.is k' e.2 = true := fun k' => by
     rw [X.mem k']
     constructor
     · rintro (⟨e, he, hp⟩ | rfl)
       · exact ⟨e, hperm.mem_iff.mpr (List.mem_append_left _ he), hp⟩
       · exact ⟨(knd.hash k', x), hperm.mem_iff.mpr (List.mem_append_right _ (List.mem_singleton.mpr rfl)), hkey⟩
     · rintro ⟨e, he, hp⟩
       rcases List.mem_append.mp (hperm.mem_iff.mp he) with he | he
       · exact .inl ⟨e, he, hp⟩
       · rw [List.mem_singleton] at he; subst he
         exact .inr (knd.inj x k' k hp hkey)
   have hap1 : es1.toList.Pairwise (Apart knd) := (hperm.pairwise_iff (fun {x y} h => apart_symm h)).mpr (List.pairwise_append.mpr ⟨X.apart, List.pairwise_singleton _ _, fun e he f hf k' h1 h2 => by
     rw [List.mem_singleton] at hf; subst hf
     have : k' = k := knd.inj x k' k h2 hkey
     subst this
     rw [hno e he] at h1; cases h1⟩)
   have hsz1 : es1.size = es.size + 1 := by rw [← Array.length_toList, hperm.length_eq, List.length_append, Array.length_toList]; rfl
   have hb1' : es1.size < scanBound := by omega
   refine wpAny_bind (hgw _ ?_)
   have hend : ∀ h', Heap.SameBut a s.heap h' → KSet knd h' a (fun k' => S k' ∨ k' = k) es1.size → Q true { s with heap := h' } := by
     intro h' hsb ⟨o', es', ep', t', ho', X', hn'⟩
     exact h true h' hsb ⟨o', es', ep', t', ho', X', by omega⟩
   split
   · refine wpAny_bind ?_
     rw [hashByValue_scannable 8 hsc]
     refine wpAny_pure ?_
     refine kset_tail ?_ ho X hel1 hmem1 hap1 hb1' ?_ ?_ ?_
     · intro b s₁ Q' hq; cases b <;> first | exact wpAny_pure hq | exact wpAny_rule hq
     · split
       · exact hoks.1
       · exact okT_plain hoks.1
     · split
       · exact hoks.2.trans X.led
       · exact hoks.2.trans X.led
     · intro h' hsb hS'; dsimp only; exact wpAny_pure (hend h' hsb hS')
   · refine wpAny_bind (wpAny_pure ?_)
     simp only [↓reduceIte]
     refine kset_tail ?_ ho X hel1 hmem1 hap1 hb1' hoks.1 (hoks.2.trans X.led) ?_
     · intro b s₁ Q' hq; cases b <;> first | exact wpAny_pure hq | exact wpAny_rule hq
     · intro h' hsb hS'; dsimp only; exact wpAny_pure (hend h' hsb hS')
theorem kset_fresh {h : Heap} {a : Addr} (hg : h.get? a = some { cls := .type "set", dict := none, data := .set #[] 0 (.fresh 0 0 (!w.params.followText "set-order")) }) : KSet knd h a (fun _ => False) 0 :=
 ⟨_, #[], 0, _, hg, ⟨⟨rfl, rfl, rfl⟩, rfl, fun e he => by simp at he, fun k => by simp, by simp, by decide, okT_fresh _, rfl⟩, Nat.le_refl _⟩
end
section
variable {prog : Program} {w : World} {K : Type} [DecidableEq K] {knd : KeyKind prog w K} {A : Around} {R : Result → Shared → Prop} {I : Addr} {fp wr : List Addr} {G : Array GenState → Array GenState → Prop} {n : Nat} {P : Nat → Value → Prop} {St : Nat → Shared → Prop}
theorem kset_loop (W : WalksS prog w A.in1 I fp wr G n P St) (S : Addr) (hSf : S ∉ fp)
   (val : Nat → K) (hval : ∀ i v, P i v → knd.is (val i) v = true ∧ v.scannable = true) (hb : n + 1 < scanBound) :
   ∀ (k i : Nat) (s : Shared), n - i = k → i ≤ n → St i s →
     KSet knd s.heap S (fun k' => ∃ j, j < i ∧ val j = k') i →
     (∀ s', Moved (S :: wr) G s s' → KSet knd s'.heap S (fun k' => ∃ j, j < n ∧ val j = k') n → R (.ok (.ret .none)) s') →
     codeAny (model prog w) A (.builtin "set.update.loop" ⟨[.ref S, .ref I], []⟩) R s := by
 have hSw : S ∉ wr := fun h => hSf (W.sub _ h)
 have hsub : ∀ b ∈ wr, b ∈ S :: wr := fun b hb => List.mem_cons_of_mem _ hb
 intro k
 induction k with
 | zero =>
   intro i s hk hi hst hS hR
   have hin : i = n := by omega
   subst hin
   refine codeAny_builtin PyProof.Rows.F.entry_set_update_loop ?_
   rw [Around.under_plainId PyProof.Rows.F.plain_set_update_loop _]
   show wpAny _ A.in1 (pyNext (.ref I) >>= _) _ _ s
   refine wpAny_bind (W.done s _ _ hst fun s' hm => ?_)
   show wpAny _ A.in1 (ret Value.none) _ _ s'
   exact wpAny_pure (hR s' (hm.mono hsub) (hS.at' fun o e => hm.heap S _ hSw e))
 | succ k ih =>
   intro i s hk hi hst hS hR
   have hlt : i < n := by omega
   refine codeAny_builtin PyProof.Rows.F.entry_set_update_loop ?_
   rw [Around.under_plainId PyProof.Rows.F.plain_set_update_loop _]
   show wpAny _ A.in1 (pyNext (.ref I) >>= _) _ _ s
   refine wpAny_bind (W.item i s _ _ hlt hst fun v s' hP hst' hm => ?_)
   obtain ⟨hk', hsc⟩ := hval i v hP
   have hS' := hS.at' (h' := s'.heap) fun o e => hm.heap S _ hSw e
   show wpAny _ A.in1 (holding [v] (setAdd S v) >>= _) _ _ s'
   refine wpAny_bind (wpAny_holding ?_)
   unfold setAdd
   refine wpAny_holding ?_
   refine wpAny_bind (knd.pyHash (k := val i) hk' ?_)
   refine kset_add (knd := knd) (s := { s' with toks := s'.toks + 1 }) hk' hsc hS' (by omega) fun b h' hsb hS2 => ?_
   have hSi : KSet knd h' S (fun k' => ∃ j, j < i + 1 ∧ val j = k') (i + 1) := by
     obtain ⟨o, es, ep, t, ho, X, hn⟩ := hS2
     refine ⟨o, es, ep, t, ho, ⟨X.ex, X.data, X.el, fun k' => ?_, X.apart, X.few, X.ok, X.led⟩, hn⟩
     rw [← X.mem k']
     constructor
     · rintro ⟨j, hj, e⟩
       by_cases z : j = i
       · subst z; exact .inr e.symm
       · exact .inl ⟨j, by omega, e⟩
     · rintro (⟨j, hj, e⟩ | e)
       · exact ⟨j, by omega, e⟩
       · exact ⟨i, Nat.lt_succ_self _, e.symm⟩
   refine wpAny_pure ⟨plainId_quiet PyProof.Rows.F.plain_set_update_loop _, ih (i + 1) _ (by omega) hlt (W.frame _ s' _ _ hst' (Nat.le_succ _) fun b hb o e => ?_) hSi fun s'' hm'' hS'' => ?_⟩
   · rw [hsb.2 b (fun h : b = S => hSf (by rw [← h]; exact hb))]; exact e
   · refine hR s'' (Moved.trans W.gtrans ((hm.mono hsub).then_heap (Nat.le_succ _) fun b o hb e => ?_) hm'') hS''
     rw [hsb.2 b (fun h : b = S => hb (by rw [h]; exact List.mem_cons_self))]; exact e
end
section
variable {prog : Program} {w : World} {K : Type} [DecidableEq K] {knd : KeyKind prog w K} {A : Around} {E : Value → Shared → Prop} {s : Shared}
theorem kset_new (a : Value) {Q₁ : Value → Shared → Prop}
   (h : Q₁ (.ref s.heap.objs.size) { s with heap := s.heap.push { cls := .type "set", dict := none, data := .set #[] 0 (.fresh 0 0 (!w.params.followText "set-order")) } }) :
   codeAny (model prog w) A (.call (.builtin "set.__new__") ⟨[.type "set", a], []⟩) (wants Q₁ E) s := by
 refine codeAny_of_tree ?_
 show wpAny _ A.in1 (do checkBuiltinCall "set.__new__" ⟨[.type "set", a], []⟩; again (.builtin "set.__new__" ⟨[.type "set", a], []⟩)) _ _ s
 refine wpAny_bind (wpAny_of_eq (PySem.F.newCall_set_1 a) (wpAny_pure ⟨plainId_quiet PySem.F.plain_set_new _, codeAny_builtin PySem.F.entry_set_new ?_⟩))
 rw [Around.under_plainId PySem.F.plain_set_new _]
 unfold Builtin.«set.__new__» Builtin.Frozenset.newClass
 have hsub := sub_set_self
 obtain ⟨hp, g, d, tk, os⟩ := s
 dsimp only
 wp_walk
 refine wpAny_askSetting (wpAny_pure ?_)
 dsimp only
 simp only [newObj]
 refine wpAny_bind (wpAny_alloc (wpAny_pure ?_))
 exact wpAny_pure h
theorem kset_list {l : Addr} {items : Array Value} {val : Nat → K} {Q : Value → Shared → Prop}
   (hh : A.handled = none) (hl : s.heap.IsList l items) (hval : ∀ (i : Nat) v, items[i]? = some v → knd.is (val i) v = true ∧ v.scannable = true) (hb : items.size + 1 < scanBound)
   (h : ∀ (h' : Heap) (tk : Nat), KSet knd h' s.heap.objs.size (fun k' => ∃ j, j < items.size ∧ val j = k') items.size →
     (∀ b o, b < s.heap.objs.size → s.heap.get? b = some o → h'.get? b = some o) → Q (.ref s.heap.objs.size) { s with heap := h', toks := tk }) :
   wpAny (model prog w) A (call (.type "set") [.ref l]) Q E s := by
 obtain ⟨c, tl, hmro⟩ := PySem.F.called_set.mro
 have hmade := PySem.F.called_set.made
 have hsub := PySem.F.called_set.sub
 refine wpAny_call (codeAny_of_tree ?_)
 show wpAny _ _ (callAny (.type "set") _) _ _ _
 refine wpAny_pure ⟨Code.quiet_builtin _ (by decide +kernel), codeAny_builtin PySem.F.entry_type_call ?_⟩
 rw [Around.under_plain (weight_type_call_type "set" [.ref l] []) rfl]
 have h1 := PySem.F.called_set.notType
 have h2 := PySem.F.called_set.canCreate
 have hct := PySem.F.typeCall_set_1 (.ref l)
 repeat (any_goals (first | assumption | wp_step))
 refine codeAny_mono (kset_new (.ref l) (E := E) (Q₁ := fun obj s₁ => obj = .ref s.heap.objs.size ∧ s₁ = { s with heap := s.heap.push { cls := .type "set", dict := none, data := .set #[] 0 (.fresh 0 0 (!w.params.followText "set-order")) } }) ⟨rfl, rfl⟩) fun r s₁ hr => ?_
 cases r with
 | error e => exact hr
 | ok fl =>
   cases fl with
   | ret obj =>
     obtain ⟨rfl, rfl⟩ := hr
     generalize hled : (!w.params.followText "set-order") = led
     have hS : (s.heap.push { cls := .type "set", dict := none, data := .set #[] 0 (.fresh 0 0 led) }).get? s.heap.objs.size = some { cls := .type "set", dict := none, data := .set #[] 0 (.fresh 0 0 led) } := Heap.get?_push_size _ rfl
     have hT : Shared.TypeIs { s with heap := s.heap.push { cls := .type "set", dict := none, data := .set #[] 0 (.fresh 0 0 led) } } (.ref s.heap.objs.size) "set" := ⟨_, hS, rfl⟩
     have hli := PySem.F.called_set.init.lookup
     have hbi := PySem.F.called_set.init.bind (.ref s.heap.objs.size)
     repeat (any_goals (first | assumption | wp_step))
     refine codeAny_mono (codeAny_call_builtin (R := wants (fun r s₂ => r = .none ∧ ∃ h' tk, s₂ = { s with heap := h', toks := tk } ∧
         KSet knd h' s.heap.objs.size (fun k' => ∃ j, j < items.size ∧ val j = k') items.size ∧
         (∀ b o, b < s.heap.objs.size → s.heap.get? b = some o → h'.get? b = some o)) E) PySem.F.called_set.init.plain PySem.F.entry_set_init (check_set_init_1 hT ?_)) fun r₂ s₂ hr₂ => ?_
     · obtain ⟨ol, hol, hcl, nl, hdl⟩ := hl
       obtain ⟨ocls, odict, odata, oslots⟩ := ol
       simp only at hcl hdl
       subst hcl; subst hdl
       have hol' : (s.heap.push { cls := .type "set", dict := none, data := .set #[] 0 (.fresh 0 0 led) }).get? l = some { cls := .type "list", dict := odict, data := .seq items nl, slots := oslots } := Heap.get?_push_of_some _ hol
       have hsls := PySem.F.sub_list_set
       have hslf := PySem.F.sub_list_frozenset
       have hne : (Value.type "list" == Value.type "dict") = false := by decide
       have hl1 : (s.heap.push { cls := .type "set", dict := none, data := .set #[] 0 (.fresh 0 0 led) }).IsList l items := ⟨_, hol', rfl, nl, rfl⟩
       unfold Builtin.«set.__init__» noKeywords Builtin.Frozenset.updateFrom
       generalize hPI : pyIter = PI
       wp_walk
       subst hPI
       refine wpAny_pyIter_list hl1 ?_
       refine wpAny_bind (wpAny_runValue ?_)
       have hlS : l < s.heap.objs.size := Heap.lt_size hol
       have hh3 : A.in1.in1.in1.handled = none := by simp [hh]
       have hneI : l ≠ (s.heap.push { cls := .type "set", dict := none, data := .set #[] 0 (.fresh 0 0 led) }).objs.size := by
         rw [Heap.size_push]; exact Nat.ne_of_lt (Nat.lt_succ_of_lt hlS)
       have hSf : s.heap.objs.size ∉ [(s.heap.push { cls := .type "set", dict := none, data := .set #[] 0 (.fresh 0 0 led) }).objs.size, l] := by
         rw [Heap.size_push]; simp only [List.mem_cons, List.mem_singleton, List.not_mem_nil, or_false, not_or]
         exact ⟨Nat.ne_of_lt (Nat.lt_succ_self _), Nat.ne_of_gt hlS⟩
       refine kset_loop (knd := knd) ((Walks.list hh3 _ l hneI items).toS) s.heap.objs.size
         hSf val hval hb (items.size - 0) 0 _ (by omega) (Nat.zero_le _)
         ⟨⟨_, Heap.get?_push_size _ rfl, rfl, rfl⟩, (hl1.push _)⟩ ?hS0 ?hR
       case hS0 =>
         have hget : ((s.heap.push { cls := .type "set", dict := none, data := .set #[] 0 (.fresh 0 0 led) }).push { cls := .type "list_iterator", data := .fields #[.ref l, .int 0 0] }).get? s.heap.objs.size
             = some { cls := .type "set", dict := none, data := .set #[] 0 (.fresh 0 0 led) } := Heap.get?_push_of_some _ hS
         rw [← hled] at hget
         obtain ⟨o, es, ep, t, ho, X, hn⟩ := kset_fresh (knd := knd) hget
         rw [hled] at ho
         exact ⟨o, es, ep, t, ho, ⟨X.ex, X.data, X.el, fun k' => by rw [← X.mem k']; exact ⟨fun ⟨j, hj, _⟩ => absurd hj (Nat.not_lt_zero _), False.elim⟩, X.apart, X.few, X.ok, X.led⟩, hn⟩
       case hR =>
         intro s' hm hS'
         obtain ⟨h', g', d', tk', os'⟩ := s'
         have eg : g' = s.gens := hm.gens
         have ed : d' = s.drawn := hm.drawn
         have eo : os' = s.os := hm.os
         subst eg; subst ed; subst eo
         show wpAny _ _ _ _ _ _
         refine wpAny_pure ?_
         show wpAny _ _ (ret Value.none) _ _ _
         refine wpAny_pure ⟨rfl, h', tk', rfl, hS', fun b o hb e => ?_⟩
         have hb1 : b ≠ s.heap.objs.size := Nat.ne_of_lt hb
         have hb2 : b ≠ (s.heap.push { cls := .type "set", dict := none, data := .set #[] 0 (.fresh 0 0 led) }).objs.size := by
           rw [Heap.size_push]; exact Nat.ne_of_lt (Nat.lt_succ_of_lt hb)
         exact hm.heap b o (by simp only [List.mem_cons, List.mem_singleton, List.not_mem_nil, or_false, not_or]; exact ⟨hb1, hb2⟩) (Heap.get?_push_of_some _ (Heap.get?_push_of_some _ e))
     · cases r₂ with
       | error e => exact hr₂
       | ok fl₂ =>
         cases fl₂ with
         | ret r =>
           obtain ⟨rfl, h', tk, rfl, hS', hk'⟩ := hr₂
           repeat (any_goals (first | assumption | wp_step))
           exact h _ _ hS' hk'
         | _ => exact hr₂.elim
   | _ => exact hr.elim
end
end L2
namespace L2
open PySem PySem.Spec PyProof.Rows PySem.W
theorem erase_perm {α : Type} {l : List α} {i : Nat} (h : i < l.length) : List.Perm (l[i] :: l.eraseIdx i) l := by
 rw [List.eraseIdx_eq_take_drop_succ]
 refine List.perm_middle.symm.trans ?_
 rw [List.getElem_cons_drop, List.take_append_drop]
theorem pick_go {α : Type} (next : Nat → Nat) : ∀ (fuel k : Nat) (left : List α) (out : Array α), left.length = fuel → List.Perm (pickOrder.go next fuel k left out).toList (out.toList ++ left)
 | 0, k, left, out, h => by
   rw [List.eq_nil_of_length_eq_zero h, List.append_nil]
   unfold pickOrder.go
   exact .rfl
 | fuel + 1, k, left, out, h => by
   unfold pickOrder.go
   have hl : next k % left.length < left.length := Nat.mod_lt _ (by omega)
   rw [List.getElem?_eq_getElem hl]
   dsimp only
   refine (pick_go next fuel (k + 1) _ _ (by rw [List.length_eraseIdx_of_lt hl]; omega)).trans ?_
   rw [Array.toList_push, List.append_assoc]
   exact List.Perm.append_left _ (erase_perm hl)
theorem pick_perm {α : Type} (next : Nat → Nat) (xs : Array α) : List.Perm (pickOrder next xs).toList xs.toList := by
 have := pick_go next xs.size 0 xs.toList #[] (by simp)
 simpa [pickOrder] using this
section
variable {prog : Program} {w : World} {K : Type} [DecidableEq K] {knd : KeyKind prog w K} {A : Around} {E : Value → Shared → Prop} {s : Shared}
theorem wp_byText {Q : Bool → Shared → Prop} (h : Q (w.params.followText "set-order") s) : wpAny (model prog w) A setsByText Q E s := by
 unfold setsByText
 exact wpAny_bind (wpAny_askSetting (wpAny_pure h))
theorem wp_choose {src : Source} {n : Nat} {Q : Nat → Shared → Prop} (hn : n ≠ 0) (h : ∀ i d, i < n → Q i { s with drawn := d }) : wpAny (model prog w) A (choose src n) Q E s := fun Γ p hΓ => by
 unfold choose
 rw [Sem.wp_choose]
 refine ⟨hn, ?_⟩
 rw [Sem.wp_pure]
 exact h _ _ (Nat.mod_lt _ (Nat.pos_of_ne_zero hn))
theorem wp_drawOrder {α : Type} : ∀ (n : Nat) (xs : List α) (s : Shared) {Q : List α → Shared → Prop}, xs.length = n → (∀ ys d, List.Perm ys xs → Q ys { s with drawn := d }) → wpAny (model prog w) A (drawOrder n xs) Q E s
 | 0, xs, s, Q, hn, h => by
   rw [List.eq_nil_of_length_eq_zero hn] at h ⊢
   unfold drawOrder
   exact wpAny_pure (h [] s.drawn .rfl)
 | n + 1, [], s, Q, hn, h => by simp at hn
 | n + 1, x :: xs, s, Q, hn, h => by
   unfold drawOrder
   refine wpAny_bind (wp_choose (by simp) fun i d hi => ?_)
   rw [List.getElem?_eq_getElem hi]
   dsimp only
   refine wpAny_bind (wp_drawOrder n _ { s with drawn := d } (by rw [List.length_eraseIdx_of_lt hi]; simpa using hn) fun ys d' hp => ?_)
   exact wpAny_pure (h _ d' ((List.Perm.cons _ hp).trans (erase_perm hi)))
theorem set_iter_entry : entryFor table "set.__iter__" = some Builtin.«frozenset.__iter__» := entryFor_alias (id' := "frozenset.__iter__") (by kernel_rfl) rfl (by decide +kernel) (by kernel_rfl)
theorem set_it_next : Slot "set_iterator" "__next__" "set_iterator.__next__" :=
 .of (owner := "set_iterator") (n := "__next__") (by rw [typeLookup_type, builtinLookup_eq_fast]; kernel_rfl) (by decide +kernel) (by decide +kernel) (by decide +kernel)
   (by first | exact .inl (by decide +kernel) | exact .inr (by decide +kernel)) (by rw [isSubtype_type]; kernel_rfl)
theorem set_it_entry : entryFor table "set_iterator.__next__" = some Builtin.«set_iterator.__next__» := entryFor_of_tree (by kernel_rfl)
theorem owner_set_it : Manifest.owners.lookup (String.ofList ['r', 'o', 't', 'a', 'r', 'e', 't', 'i', '_', 't', 'e', 's'].reverse) = some Manifest.sig_set_iterator := by kernel_rfl
theorem set_it_args (a : Value) : argsOk "set_iterator.__next__" ⟨[a], []⟩ := by
 unfold argsOk; rw [signature?_of (id := "set_iterator.__next__") (n := ['_', '_', 't', 'x', 'e', 'n', '_', '_']) (o := ['r', 'o', 't', 'a', 'r', 'e', 't', 'i', '_', 't', 'e', 's']) (by kernel_rfl) owner_set_it]; kernel_rfl
theorem set_it_iter : Slot "set_iterator" "__iter__" "set_iterator.__iter__" :=
 .of (owner := "set_iterator") (n := "__iter__") (by rw [typeLookup_type, builtinLookup_eq_fast]; kernel_rfl) (by decide +kernel) (by decide +kernel) (by decide +kernel)
   (by first | exact .inl (by decide +kernel) | exact .inr (by decide +kernel)) (by rw [isSubtype_type]; kernel_rfl)
theorem set_it_ientry : entryFor table "set_iterator.__iter__" = some Builtin.«dict_keyiterator.__iter__» := entryFor_alias (id' := "dict_keyiterator.__iter__") (by kernel_rfl) rfl (by decide +kernel) (by kernel_rfl)
theorem set_it_iargs (a : Value) : argsOk "set_iterator.__iter__" ⟨[a], []⟩ := by
 unfold argsOk; rw [signature?_of (id := "set_iterator.__iter__") (n := ['_', '_', 'r', 'e', 't', 'i', '_', '_']) (o := ['r', 'o', 't', 'a', 'r', 'e', 't', 'i', '_', 't', 'e', 's']) (by kernel_rfl) owner_set_it]; kernel_rfl
def slotAt (t : SetTable) : Nat → Nat
 | 0 => 0
 | i + 1 => (t.place[i]?).getD 0 + 1
theorem slot_below {t : SetTable} (hr : Ris t.place) {i : Nat} (hi : i ≤ t.place.size) : SetTable.below t.place (slotAt t i) = i := by
 obtain ⟨h0, h1, h2⟩ := below_spec hr (slotAt t i)
 cases i with
 | zero =>
   by_cases z : SetTable.below t.place (slotAt t 0) = 0
   · exact z
   · exfalso
     have := h1 0 (by omega) (by omega)
     exact absurd this (Nat.not_lt_zero _)
 | succ i =>
   have hs : slotAt t (i + 1) = t.place[i]'(by omega) + 1 := by
     show (t.place[i]?).getD 0 + 1 = _
     rw [Array.getElem?_eq_getElem (by omega)]; rfl
   have a : ¬ SetTable.below t.place (slotAt t (i + 1)) ≤ i := fun z => by
     have := h2 i (by omega) z
     omega
   have b : ¬ i + 1 < SetTable.below t.place (slotAt t (i + 1)) := fun z => by
     have := h1 (i + 1) (by omega) z
     have := hr i (i + 1) (by omega) (by omega) (Nat.lt_succ_self _)
     omega
   omega
def SDrawn (es : Array (Int × Value)) (t : SetTable) : Bool := !t.plain && decide (es.size > 1)
def SIt (w : World) (I a T : Addr) (o : Obj) (es : Array (Int × Value)) (ep : Nat) (t : SetTable) (ord : List (Int × Value)) (i : Nat) (h : Heap) : Prop :=
 h.get? a = some o ∧ ∃ first oI, h.get? I = some oI ∧ oI.cls = .type "set_iterator" ∧ oI.data = .fields #[first, .int i 0, .ref a, .int es.size 0, .int ep 0] ∧
   ((w.params.followText "set-order" = true ∧ (∃ sl : Nat, first = .int sl 0) ∧ ord = (pickOrder (w.params.setOrder a ep) es).toList) ∨
    (w.params.followText "set-order" = false ∧ SDrawn es t = false ∧ first = .int (slotAt t i) 0 ∧ ord = es.toList) ∨
    (w.params.followText "set-order" = false ∧ SDrawn es t = true ∧ first = .ref T ∧ ∃ oT places c, h.get? T = some oT ∧ oT.data = .seq (places.map fun (i : Nat) => rawInt i).toArray c ∧ List.Perm places (List.range es.size) ∧ ord = places.filterMap fun i => es[i]?))
theorem perm_pick {es : Array (Int × Value)} {places : List Nat} (h : List.Perm places (List.range es.size)) : List.Perm (places.filterMap fun i => es[i]?) es.toList := (h.filterMap _).trans (by rw [filterMap_getElem?_range])
theorem pyIter_set {a : Addr} {o : Obj} {es : Array (Int × Value)} {ep : Nat} {t : SetTable} {S : K → Prop} (ho : s.heap.get? a = some o) (X : KIt knd o es ep t S) {Q : Value → Shared → Prop}
   (h : ∀ I T ord h' d, s.heap.objs.size ≤ I → s.heap.objs.size ≤ T → T ≠ I → List.Perm ord es.toList → SIt w I a T o es ep t ord 0 h' → (∀ b u, s.heap.get? b = some u → h'.get? b = some u) → Q (.ref I) { s with heap := h', drawn := d }) :
   wpAny (model prog w) A (pyIter (.ref a)) Q E s := by
 have hT : s.TypeIs (.ref a) "set" := ⟨o, ho, X.ex.1⟩
 refine wpAny_pyIter_slot hT PySem.F.slot_set_iter (wpAny_call_entry PySem.F.slot_set_iter hT set_iter_entry ?_ (PySem.F.args_set_iter_1 _))
 unfold Builtin.«frozenset.__iter__»
 refine wpAny_bind ?_
 show wpAny _ _ (pure a) _ _ s
 refine wpAny_pure ?_
 refine wpAny_bind ?_
 unfold Builtin.Frozenset.sizeOf
 refine wpAny_bind (wpAny_setEntries_of ho X.data X.ok.fits (wpAny_pure ?_))
 unfold setDrawn
 refine wpAny_bind (wpAny_bind (wpAny_setState_of ho X.data X.ok.fits ?_))
 dsimp only
 refine wpAny_bind (wp_byText ?_)
 refine wpAny_pure ?_
 show wpAny _ _ (if (!w.params.followText "set-order" && SDrawn es t) = true then _ else _) _ _ s
 by_cases hb : w.params.followText "set-order" = true
 · rw [hb]
   simp only [Bool.not_true, Bool.false_and, Bool.false_eq_true, if_false]
   refine wpAny_bind (wpAny_pure ?_)
   refine wpAny_bind (wpAny_setEpoch_of ho X.data X.ok.fits ?_)
   unfold newFields
   refine wpAny_bind (wpAny_newObj_type (wpAny_pure ⟨_, rfl, "set_iterator", _, ⟨_, Heap.get?_push_size _ rfl, rfl⟩, set_it_next.lookup, ?_⟩))
   exact h _ (s.heap.objs.size + 1) _ _ s.drawn (Nat.le_refl _) (Nat.le_succ _) (Nat.ne_of_gt (Nat.lt_succ_self _)) (pick_perm _ _) ⟨Heap.get?_push_of_some _ ho, _, _, Heap.get?_push_size _ rfl, rfl, rfl, .inl ⟨hb, ⟨0, rfl⟩, rfl⟩⟩ fun b u e => Heap.get?_push_of_some _ e
 have hb' : w.params.followText "set-order" = false := Bool.eq_false_iff.mpr hb
 rw [hb']
 cases hd : SDrawn es t with
 | false =>
   simp only [Bool.not_false, Bool.and_false, Bool.false_eq_true, if_false]
   refine wpAny_bind (wpAny_pure ?_)
   refine wpAny_bind (wpAny_setEpoch_of ho X.data X.ok.fits ?_)
   unfold newFields
   refine wpAny_bind (wpAny_newObj_type (wpAny_pure ⟨_, rfl, "set_iterator", _, ⟨_, Heap.get?_push_size _ rfl, rfl⟩, set_it_next.lookup, ?_⟩))
   exact h _ (s.heap.objs.size + 1) _ _ s.drawn (Nat.le_refl _) (Nat.le_succ _) (Nat.ne_of_gt (Nat.lt_succ_self _)) .rfl ⟨Heap.get?_push_of_some _ ho, _, _, Heap.get?_push_size _ rfl, rfl, rfl, .inr (.inl ⟨hb', hd, rfl, rfl⟩)⟩ fun b u e => Heap.get?_push_of_some _ e
 | true =>
   simp only [Bool.not_false, Bool.and_true, if_true]
   refine wpAny_bind (wp_drawOrder es.size (List.range es.size) s (by simp) fun places d hp => ?_)
   unfold newTuple
   have hl : places.length = es.size := by rw [hp.length_eq]; simp
   refine wpAny_bind (wpAny_newObj_type ?_ ?_)
   · refine wpAny_bind (wpAny_setEpoch_of (Heap.get?_push_of_some _ ho) X.data X.ok.fits ?_)
     unfold newFields
     refine wpAny_bind (wpAny_newObj_type (wpAny_pure ⟨_, rfl, "set_iterator", _, ⟨_, Heap.get?_push_size _ rfl, rfl⟩, set_it_next.lookup, ?_⟩))
     refine h _ s.heap.objs.size _ _ d (by rw [Heap.size_push]; exact Nat.le_succ _) (Nat.le_refl _) (by rw [Heap.size_push]; exact Nat.ne_of_lt (Nat.lt_succ_self _)) (perm_pick hp) ⟨Heap.get?_push_of_some _ (Heap.get?_push_of_some _ ho), _, _, Heap.get?_push_size _ rfl, rfl, rfl, .inr (.inr ⟨hb', hd, rfl, _, places, _, Heap.get?_push_of_some _ (Heap.get?_push_size _ rfl), rfl, hp, rfl⟩)⟩ fun b u e => Heap.get?_push_of_some _ (Heap.get?_push_of_some _ e)
   · have hf := X.few
     unfold scanBound at hf
     show ((places.map fun (i : Nat) => rawInt (i : Int)).toArray).size ≤ sizeLine
     rw [List.size_toArray, List.length_map, hl, sizeLine_eq]; omega
def SMode (w : World) (a : Addr) (es : Array (Int × Value)) (ep : Nat) (t : SetTable) (ord : List (Int × Value)) (i sl : Nat) : Prop :=
 (w.params.followText "set-order" = true ∧ ord = (pickOrder (w.params.setOrder a ep) es).toList) ∨ (w.params.followText "set-order" = false ∧ SDrawn es t = false ∧ sl = slotAt t i ∧ ord = es.toList)
theorem wp_setWalkT {a : Addr} {o : Obj} {es : Array (Int × Value)} {ep : Nat} {t : SetTable} {S : K → Prop} (ho : s.heap.get? a = some o) (X : KIt knd o es ep t S) (hb : w.params.followText "set-order" = true) {Q : Array (Int × Value) → Shared → Prop}
   (h : Q (pickOrder (w.params.setOrder a ep) es) s) : wpAny (model prog w) A (setWalk a) Q E s := by
 unfold setWalk
 refine wpAny_bind (wpAny_setState_of ho X.data X.ok.fits ?_)
 dsimp only
 refine wpAny_bind (wp_byText ?_)
 rw [hb]
 simp only [if_true]
 exact wpAny_bind (wpAny_askSetting (wpAny_pure h))
theorem wp_setNext {a : Addr} {o : Obj} {es : Array (Int × Value)} {ep : Nat} {t : SetTable} {S : K → Prop} {ord : List (Int × Value)} {i sl : Nat} (ho : s.heap.get? a = some o) (X : KIt knd o es ep t S) (hm : SMode w a es ep t ord i sl) (hil : i ≤ es.size) {Q : Option (Value × Nat) → Shared → Prop}
   (h0 : ord[i]? = none → Q none s) (h1 : ∀ e sl', ord[i]? = some e → SMode w a es ep t ord (i + 1) sl' → Q (some (e.2, sl')) s) : wpAny (model prog w) A (setNext a sl i ep) Q E s := by
 unfold setNext
 refine wpAny_bind (wpAny_setState_of ho X.data X.ok.fits ?_)
 dsimp only
 refine wpAny_bind (wp_byText ?_)
 rcases hm with ⟨hb, hord⟩ | ⟨hb, hdr, hsl, hord⟩
 · rw [hb]
   simp only [if_true, bne_self_eq_false, Bool.false_eq_true, if_false]
   refine wpAny_bind (wp_setWalkT ho X hb (wpAny_pure ?_))
   have e : (pickOrder (w.params.setOrder a ep) es)[i]? = ord[i]? := by rw [hord, Array.getElem?_toList]
   rw [e]
   cases hq : ord[i]? with
   | none => exact h0 hq
   | some x => exact h1 x sl hq (.inl ⟨hb, hord⟩)
 · rw [hb]
   simp only [Bool.false_eq_true, if_false]
   show wpAny _ _ (if SDrawn es t = true then _ else _) _ _ s
   rw [hdr]
   simp only [Bool.false_eq_true, if_false]
   have hled : t.led = true := by rw [X.led, hb]; rfl
   show wpAny _ _ ((if (!t.led && !es.isEmpty) = true then unsupported "set:maker-not-led" else pure ()) >>= _) _ _ s
   rw [hled]
   simp only [Bool.not_true, Bool.false_and, Bool.false_eq_true, if_false]
   refine wpAny_bind (wpAny_pure ?_)
   have hps : t.place.size = es.size := by
     have := X.ok.fits
     simp only [SetTable.fits, Bool.and_eq_true, beq_iff_eq] at this
     exact this.1
   rw [hsl, slot_below X.ok.ris (by omega)]
   refine wpAny_pure ?_
   have e : ord[i]? = es[i]? := by rw [hord, Array.getElem?_toList]
   by_cases z : i < es.size
   · have hz : es[i]? = some es[i] := Array.getElem?_eq_getElem z
     have hz2 : t.place[i]? = some (t.place[i]'(by omega)) := Array.getElem?_eq_getElem (by omega)
     have := h1 es[i] (t.place[i]'(by omega) + 1) (by rw [e, hz]) (.inr ⟨hb, hdr, by show _ = (t.place[i]?).getD 0 + 1; rw [hz2]; rfl, hord⟩)
     rw [hz, hz2]
     exact this
   · have hz : es[i]? = none := Array.getElem?_eq_none (by omega)
     rw [hz]
     exact h0 (by rw [e, hz])
theorem stop_set {I : Addr} {oI : Obj} {vs : Array Value} (hh : A.handled = none) (hoI : s.heap.get? I = some oI) (hd : oI.data = .fields vs) (hv : 2 < vs.size) {Q : Option Value → Shared → Prop} (hQ : ∀ h', Heap.ExtBut I s.heap h' → Q none { s with heap := h' }) :
   wpAny (model prog w) A.in1 (do
       setField (Value.ref I) 2 Value.none
       let x ← newExc (Value.type "StopIteration") []
       raiseNew x : Sem Fin)
     (fun fin s' => ∃ v, fin = Fin.done (Flow.ret v) ∧ wpAny (model prog w) A (pure (some v)) Q E s')
     (fun e s' => wpAny (model prog w) A (do
         let b ← isInstance e (Value.type "StopIteration")
         if b = true then pure none else throw e) Q E s') s := by
 refine wpAny_bind (wpAny_setField hoI hd hv ?_)
 refine wpAny_bind ?_
 simp only [newExc, newTuple]
 refine wpAny_bind (wpAny_newObj_type ?_ (by size_fits))
 refine wpAny_bind (m := firstArgMember _ _) (wpAny_of_eq (a := Value.none) (by first | rfl | (simp only [firstArgMember]; rfl)) ?_)
 refine wpAny_newObj_type ?_ (by size_fits)
 simp only [raiseNew]
 refine wpAny_bind (wpAny_handled ?_)
 rw [show A.in1.handled = none from hh]
 refine wpAny_bind (wpAny_pure (wpAny_throw ?_))
 refine wpAny_bind (wpAny_isInstance (T := "StopIteration") (b := true) ⟨_, Heap.get?_push_size _ rfl, rfl⟩ isSubtype_stop ?_)
 exact wpAny_pure (hQ _ (((Heap.SameBut.update ..).extBut.push _).push _))
theorem pick_at {es : Array (Int × Value)} : ∀ {places : List Nat} {i : Nat}, (∀ p ∈ places, p < es.size) → (places.filterMap fun j => es[j]?)[i]? = (places[i]?).bind fun j => es[j]?
 | [], i, _ => by simp
 | p :: r, i, h => by
   have hp : p < es.size := h p (by simp)
   rw [List.filterMap_cons_some (Array.getElem?_eq_getElem hp)]
   cases i with
   | zero => simp [Array.getElem?_eq_getElem hp]
   | succ i => simpa using pick_at (places := r) (i := i) fun q hq => h q (by simp [hq])
theorem pyNext_set {I a T : Addr} {o : Obj} {es : Array (Int × Value)} {ep : Nat} {t : SetTable} {S : K → Prop} {ord : List (Int × Value)} {i : Nat} (hh : A.handled = none) (X : KIt knd o es ep t S) (haI : a ≠ I) (hTI : SDrawn es t = true → T ≠ I) (hil : i ≤ es.size) (st : SIt w I a T o es ep t ord i s.heap) {Q : Option Value → Shared → Prop}
   (h0 : ord[i]? = none → ∀ h', (∀ b u, b ≠ I → s.heap.get? b = some u → h'.get? b = some u) → Q none { s with heap := h' })
   (hQ : ∀ e h', ord[i]? = some e → SIt w I a T o es ep t ord (i + 1) h' → (∀ b u, b ≠ I → s.heap.get? b = some u → h'.get? b = some u) → Q (some e.2) { s with heap := h' }) :
   wpAny (model prog w) A (pyNext (.ref I)) Q E s := by
 obtain ⟨ho, first, oI, hoI, hc, hd, hm⟩ := st
 have hTy : s.TypeIs (.ref I) "set_iterator" := ⟨oI, hoI, hc⟩
 unfold pyNext
 refine wpAny_bind (wpAny_attempt (wpAny_callSpecial?_slot (name := Str.ofString "__next__") hTy set_it_next (wpAny_call_entry set_it_next hTy set_it_entry ?_ (set_it_args _))))
 unfold Builtin.«set_iterator.__next__»
 refine wpAny_bind (wpAny_pure ?_)
 refine wpAny_bind (wpAny_fieldsOf hoI hd ?_)
 dsimp only
 refine wpAny_bind (wpAny_setEntries_of ho X.data X.ok.fits ?_)
 simp only [bne_self_eq_false, Bool.false_eq_true, if_false]
 have key : ∀ sl : Nat, first = .int sl 0 → SMode w a es ep t ord i sl → (∀ sl' : Nat, SMode w a es ep t ord (i + 1) sl' → (w.params.followText "set-order" = true ∧ (∃ x : Nat, Value.int (sl' : Int) 0 = .int x 0) ∧ ord = (pickOrder (w.params.setOrder a ep) es).toList) ∨
    (w.params.followText "set-order" = false ∧ SDrawn es t = false ∧ Value.int (sl' : Int) 0 = .int (slotAt t (i + 1)) 0 ∧ ord = es.toList)) →
   wpAny (model prog w) A.in1 (do
       let r ← setNext a sl i ep
       match r with
       | some (x, next) => do
         setField (Value.ref I) 0 (rawInt ↑next)
         setField (Value.ref I) 1 (rawInt (↑i + 1))
         ret x
       | none => do
         setField (Value.ref I) 2 Value.none
         let x ← newExc (Value.type "StopIteration") []
         raiseNew x)
     (fun fin s' => ∃ v, fin = Fin.done (Flow.ret v) ∧ wpAny (model prog w) A (pure (some v)) Q E s')
     (fun e s' => wpAny (model prog w) A (do
         let b ← isInstance e (Value.type "StopIteration")
         if b = true then pure none else throw e) Q E s') s := fun sl hf hmo hnx => by
   subst hf
   refine wpAny_bind (wp_setNext ho X hmo hil (fun hn => ?_) (fun e sl' he hmo' => ?_))
   · exact stop_set hh hoI hd (by simp) fun h' hx => h0 hn h' fun b u hb hu => hx b u hb hu
   · dsimp only
     refine wpAny_bind (wpAny_setField hoI hd (by simp) ?_)
     have g1 := Heap.get?_update_self (Obj.mapFields (·.setIfInBounds 0 (rawInt (sl' : Int)))) hoI (Obj.isFreed_of_fields (Obj.data_mapFields hd _))
     have d1 := Obj.data_mapFields hd (·.setIfInBounds 0 (rawInt (sl' : Int)))
     refine wpAny_bind (wpAny_setField g1 d1 (by simp) ?_)
     have g2 := Heap.get?_update_self (Obj.mapFields (·.setIfInBounds 1 (rawInt ((i : Int) + 1)))) g1 (Obj.isFreed_of_fields (Obj.data_mapFields d1 _))
     refine wpAny_pure ⟨_, rfl, wpAny_pure (hQ e _ he ⟨?_, _, _, g2, (Obj.cls_mapFields ..).trans ((Obj.cls_mapFields ..).trans hc), by rw [Obj.data_mapFields d1]; rfl, (hnx sl' hmo').elim .inl fun z => .inr (.inl z)⟩ fun b u hb hu => ?_)⟩
     · exact (Heap.get?_update_other _ _ (Ne.symm haI)).trans ((Heap.get?_update_other _ _ (Ne.symm haI)).trans ho)
     · exact (Heap.get?_update_other _ _ (Ne.symm hb)).trans ((Heap.get?_update_other _ _ (Ne.symm hb)).trans hu)
 rcases hm with ⟨hb, ⟨sl, rfl⟩, hord⟩ | ⟨hb, hdr, rfl, hord⟩ | ⟨hb, hdr, rfl, oT, places, c, hT, hTd, hp, hord⟩
 · have := key sl rfl (.inl ⟨hb, hord⟩) fun sl' _ => .inl ⟨hb, ⟨sl', rfl⟩, hord⟩
   exact this
 · have := key (slotAt t i) rfl (.inr ⟨hb, hdr, rfl, hord⟩) fun sl' hm' => .inr (by
     rcases hm' with ⟨hb', _⟩ | ⟨_, _, e, _⟩
     · rw [hb] at hb'; cases hb'
     · exact ⟨hb, hdr, by rw [e], hord⟩)
   exact this
 · dsimp only
   refine wpAny_bind (wpAny_seqItems hT hTd ?_)
   dsimp only
   have hat : ((places.map fun (i : Nat) => rawInt (i : Int)).toArray)[((i : Int)).toNat]? = (places[i]?).map fun (i : Nat) => rawInt (i : Int) := by
     rw [List.getElem?_toArray, List.getElem?_map]; rfl
   have hlt : ∀ p ∈ places, p < es.size := fun p hp' => by simpa using hp.mem_iff.mp hp'
   have hoi : ord[i]? = (places[i]?).bind fun j => es[j]? := by rw [hord]; exact pick_at hlt
   cases hq : places[i]? with
   | none =>
     rw [hq] at hat hoi
     rw [hat]
     refine wpAny_bind (wpAny_setField hoI hd (by simp) ?_)
     have g1 := Heap.get?_update_self (Obj.mapFields (·.setIfInBounds 0 (rawInt 0))) hoI (Obj.isFreed_of_fields (Obj.data_mapFields hd _))
     have d1 := Obj.data_mapFields hd (·.setIfInBounds 0 (rawInt 0))
     exact stop_set (s := { s with heap := s.heap.update I (Obj.mapFields (·.setIfInBounds 0 (rawInt 0))) }) hh g1 d1 (by simp) fun h' hx => h0 hoi h' fun b u hb hu => hx b u hb ((Heap.get?_update_other _ _ (Ne.symm hb)).trans hu)
   | some p =>
     have hps : p < es.size := hlt p (List.mem_of_getElem? hq)
     rw [hq] at hat hoi
     rw [hat]
     dsimp only [Option.map, rawInt]
     have hoi' : ord[i]? = some es[p] := by rw [hoi]; exact Array.getElem?_eq_getElem hps
     have hnd : wpAny (model prog w) A.in1 (setNextDrawn a p ep) (fun x s' => x = es[p].2 ∧ s' = s) (fun e s' => False) s := by
       unfold setNextDrawn
       refine wpAny_bind (wpAny_setState_of ho X.data X.ok.fits ?_)
       dsimp only
       simp only [bne_self_eq_false, Bool.false_eq_true, if_false]
       rw [Array.getElem?_eq_getElem hps]
       exact wpAny_pure ⟨rfl, rfl⟩
     refine wpAny_bind (wpAny_mono hnd (fun x s' hx => ?_) fun _ _ z => z.elim)
     obtain ⟨rfl, rfl⟩ := hx
     refine wpAny_bind (wpAny_setField hoI hd (by simp) ?_)
     have g1 := Heap.get?_update_self (Obj.mapFields (·.setIfInBounds 1 (rawInt ((i : Int) + 1)))) hoI (Obj.isFreed_of_fields (Obj.data_mapFields hd _))
     refine wpAny_pure ⟨_, rfl, wpAny_pure (hQ es[p] _ hoi' ⟨?_, _, _, g1, (Obj.cls_mapFields ..).trans hc, by rw [Obj.data_mapFields hd]; rfl, .inr (.inr ⟨hb, hdr, rfl, oT, places, c, ?_, hTd, hp, hord⟩)⟩ fun b u hb hu => ?_)⟩
     · exact (Heap.get?_update_other _ _ (Ne.symm haI)).trans ho
     · exact (Heap.get?_update_other _ _ (Ne.symm (hTI hdr))).trans hT
     · exact (Heap.get?_update_other _ _ (Ne.symm hb)).trans hu
theorem SIt.frame {I a T : Addr} {o : Obj} {es : Array (Int × Value)} {ep : Nat} {t : SetTable} {ord : List (Int × Value)} {i : Nat} {h h' : Heap} (st : SIt w I a T o es ep t ord i h) (k : ∀ b ∈ [I, a, T], ∀ u, h.get? b = some u → h'.get? b = some u) : SIt w I a T o es ep t ord i h' := by
 obtain ⟨ho, first, oI, hoI, hc, hd, hm⟩ := st
 refine ⟨k a (by simp) _ ho, first, oI, k I (by simp) _ hoI, hc, hd, ?_⟩
 rcases hm with h1 | h1 | ⟨hb, hdr, rfl, oT, places, c, hT, r⟩
 · exact .inl h1
 · exact .inr (.inl h1)
 · exact .inr (.inr ⟨hb, hdr, rfl, oT, places, c, k T (by simp) _ hT, r⟩)
theorem Walks.set {I a T : Addr} {o : Obj} {es : Array (Int × Value)} {ep : Nat} {t : SetTable} {S : K → Prop} {ord : List (Int × Value)} (hh : A.handled = none) (X : KIt knd o es ep t S) (haI : a ≠ I) (hTI : SDrawn es t = true → T ≠ I) (hp : List.Perm ord es.toList) :
   Walks prog w A I [I, a, T] [I] ord.length (fun i v => ∃ e, ord[i]? = some e ∧ e.2 = v) (fun i h => SIt w I a T o es ep t ord i h) where
 sub := fun b hb => by simp at hb; simp [hb]
 frame := fun i h h' st k => st.frame k
 item := fun i s Q E hi st hQ => by
   have hl : ord.length = es.size := by rw [hp.length_eq, Array.length_toList]
   refine pyNext_set hh X haI hTI (by omega) st (fun hn => ?_) (fun e h' he st' hk => hQ _ _ s.toks ⟨e, he, rfl⟩ st' fun b u hb hu => hk b u (fun z => hb (by simp [z])) hu)
   rw [List.getElem?_eq_getElem hi] at hn; cases hn
 done := fun s Q E st hQ => by
   have hl : ord.length = es.size := by rw [hp.length_eq, Array.length_toList]
   refine pyNext_set hh X haI hTI (by omega) st (fun hn h' hk => hQ _ s.toks fun b u hb hu => hk b u (fun z => hb (by simp [z])) hu) (fun e h' he _ _ => ?_)
   rw [List.getElem?_eq_none (Nat.le_refl _)] at he; cases he
 self := fun i s Q E st h => by
   obtain ⟨ho, first, oI, hoI, hc, hd, hm⟩ := st
   have hTy : s.TypeIs (.ref I) "set_iterator" := ⟨oI, hoI, hc⟩
   refine wpAny_pyIter_slot hTy set_it_iter (wpAny_call_entry set_it_iter hTy set_it_ientry ?_ (set_it_iargs _))
   show wpAny _ _ (ret (.ref I)) _ _ s
   exact wpAny_pure ⟨_, rfl, "set_iterator", _, hTy, set_it_next.lookup, h⟩
theorem hint_set {r : Addr} {Q : Bool → Shared → Prop} (hT : s.TypeIs (.ref r) "set") (h : Q false s) : wpAny (model prog w) A (Builtin.List.listLengthHint (.ref r)) Q E s := by
 unfold Builtin.List.listLengthHint
 refine wpAny_bind (wpAny_specialOf hT PySem.F.slot_set_len.lookup ?_)
 generalize hid : ("set.__len__" : String) = id0
 wp_delta
 rw [show splitId id0 = some ("set", "__len__") from by subst hid; decide +kernel]
 subst hid
 refine wpAny_bind (wpAny_isInstance (T := "set") (b := true) hT (by rw [isSubtype_type]; kernel_rfl) ?_)
 refine wpAny_ite_split (fun hab => absurd hab (by decide)) (fun _ => ?_)
 refine wpAny_ite_split (fun _ => ?_) (fun hab => absurd (by decide +kernel) hab)
 refine wpAny_bind (wpAny_typeOf hT ?_)
 exact wpAny_pure h
theorem extend_set {R : Result → Shared → Prop} {a S' : Addr} {o : Obj} {es : Array (Int × Value)} {ep : Nat} {t : SetTable} {S : K → Prop} (hh : A.handled = none) (ho : s.heap.get? a = some o) (X : KIt knd o es ep t S) (hSa : S' ≠ a) (res : Value) (c₀ : Nat) (hS : s.heap.get? S' = some { cls := .type "list", data := .seq #[] c₀ })
   (hR : ∀ h' tk d acc' c' ord, (∀ b u, b ≠ S' → s.heap.get? b = some u → h'.get? b = some u) → h'.get? S' = some { cls := .type "list", dict := none, data := .seq acc' c', slots := #[] } → List.Perm ord es.toList → acc'.toList = ord.map (·.2) → R (.ok (.ret res)) { s with heap := h', drawn := d, toks := tk }) :
   wpAny (model prog w) A.in1 (Builtin.List.listExtendWith (.ref S') (.ref a) res)
     (fun fin s' => match fin with | .done f => R (.ok f) s' | .again c' => c'.quiet = true ∧ codeAny (model prog w) A c' R s') (fun e s' => R (.error e) s') s := by
 have hT : s.TypeIs (.ref a) "set" := ⟨o, ho, X.ex.1⟩
 unfold Builtin.List.listExtendWith
 refine wpAny_bind (wpAny_typeOf (T := "set") hT ?_)
 have h1 : Builtin.List.listSameRef (.ref S') (.ref a) = false := by simp [Builtin.List.listSameRef, hSa]
 simp only [h1, show (Value.type "set" == Value.type "list") = false by decide, show (Value.type "set" == Value.type "tuple") = false by decide, Bool.or_false, Bool.false_eq_true, if_false]
 refine wpAny_bind (pyIter_set ho X fun I T ord h1 d hI hTs hTI hp st hk => ?_)
 have hlS : S' < s.heap.objs.size := Heap.lt_size hS
 have hla : a < s.heap.objs.size := Heap.lt_size ho
 have hSf : S' ∉ [I, a, T] := by
   simp only [List.mem_cons, List.not_mem_nil, or_false, not_or]
   exact ⟨Nat.ne_of_lt (Nat.lt_of_lt_of_le hlS hI), hSa, Nat.ne_of_lt (Nat.lt_of_lt_of_le hlS hTs)⟩
 have W := Walks.set (A := A.in1) (knd := knd) (I := I) (a := a) (T := T) hh X (Nat.ne_of_lt (Nat.lt_of_lt_of_le hla hI)) (fun _ => hTI) hp
 have hn : ord.length ≤ sizeLine := by rw [hp.length_eq, Array.length_toList]; exact fits_of_scanBound X.few
 have key : ∀ (h : Heap) (c₁ tk : Nat), SIt w I a T o es ep t ord 0 h → (∀ b u, b ≠ S' → s.heap.get? b = some u → h.get? b = some u) →
     h.get? S' = some { cls := .type "list", data := .seq #[] c₁ } → codeAny (model prog w) A (.builtin "list.extend.loop" ⟨[.ref S', .ref I, res], []⟩) R { s with heap := h, drawn := d, toks := tk } := by
   intro h c₁ tk hst hk' hS₁
   refine codeAny_extend_loopS W.toS hn S' hSf res ord.length 0 _ #[] c₁ rfl (Nat.zero_le _) hst hS₁ (ItemsOf.nil _) fun s' acc' c' hm hS' hacc => ?_
   rw [Moved.eq_with hm]
   refine hR s'.heap s'.toks d acc' c' ord (fun b u hb e => hm.heap b u (fun hmem => ?_) (hk' b u hb e)) hS' hp ?_
   · rcases List.mem_cons.mp hmem with e' | hmem
     · exact hb e'
     · exact absurd (Heap.lt_size e) (by rw [List.mem_singleton.mp hmem]; exact Nat.not_lt.mpr hI)
   · refine List.ext_getElem? fun j => ?_
     by_cases hj : j < ord.length
     · have hj' : j < acc'.size := by rw [hacc.1]; exact hj
       obtain ⟨e, he, hv⟩ := hacc.2 j acc'[j] (Array.getElem?_eq_getElem hj')
       rw [Array.getElem?_toList, Array.getElem?_eq_getElem hj', List.getElem?_map, he, ← hv]; rfl
     · rw [List.getElem?_eq_none (by rw [Array.length_toList, hacc.1]; omega), List.getElem?_eq_none (by rw [List.length_map]; omega)]
 have hS₁ := hk _ _ hS
 have ho1 := hk _ _ ho
 refine wpAny_bind (wpAny_holding (hint_set (s := { s with heap := h1, drawn := d }) ⟨o, ho1, X.ex.1⟩ ?_))
 refine wpAny_ite_split (fun _ => ?_) (fun _ => wpAny_pure ⟨plainId_quiet PySem.F.plain_extend_loop _, key _ c₀ _ st (fun b u _ e => hk b u e) hS₁⟩)
 refine wpAny_bind (wpAny_rule ?_)
 refine wpAny_bind ?_
 show wpAny _ _ (updateSeq S' (·.push .none) >>= fun _ => updateSeq S' (·.pop)) _ _ _
 refine wpAny_bind (wpAny_updateSeq hS₁ rfl ?_)
 have hS₂ := Heap.get?_update_self (Obj.mapSeq (·.push Value.none)) hS₁ rfl
 refine wpAny_updateSeq (hz := by seq_fits) hS₂ rfl ?_
 have hS₃ := Heap.get?_update_self (Obj.mapSeq (·.pop)) hS₂ rfl
 refine wpAny_pure ⟨plainId_quiet PySem.F.plain_extend_loop _, key _ _ _ ?_ (fun b u hb e => ?_) hS₃⟩
 · refine st.frame fun b hb u e => ?_
   have hbS : b ≠ S' := fun h => hSf (h ▸ hb)
   exact (Heap.get?_update_other _ _ (Ne.symm hbS)).trans ((Heap.get?_update_other _ _ (Ne.symm hbS)).trans e)
 · exact (Heap.get?_update_other _ _ (Ne.symm hb)).trans ((Heap.get?_update_other _ _ (Ne.symm hb)).trans (hk b u e))
end
end L2
namespace L2
open PySem PySem.Spec PyProof.Rows PySem.W
def SetO (P : Program) (w : World) (p : Addr) (ks : List Key) : HO := .ext fun h => ∃ n, KSetI (yw P w) h p (fun k => k ∈ ks) n
section
variable {X : Cx}
theorem Inv.draw {pins : List (Addr × Obj)} {σ : St} {H : Hp} {s : Shared} {d : Drawn} (I : Inv X pins σ H s) : Inv X pins σ H { s with drawn := d } := ⟨I.ok, I.os, I.bare, I.base, I.loc, I.cell, I.free, I.freeC, I.pin, I.hok, I.len⟩
theorem key_val {P : Program} {w : World} {k : Key} {v : Value} (h : (yw P w).is k v = true) : RelV (kV k) v ∧ v.scannable = true := by
 have h' : keyIs k v = true := h
 rcases keyIs_shape h' with ⟨i, t, e1, e2⟩ | ⟨y, t, e1, e2⟩
 · rw [e1, e2]; exact ⟨⟨t, rfl⟩, rfl⟩
 · rw [e1, e2]; exact ⟨⟨t, rfl⟩, rfl⟩
theorem val_key {P : Program} {w : World} {k : Key} {v : Value} (h : RelV (kV k) v) : (yw P w).is k v = true := by
 show keyIs k v = true
 rcases k with i | y
 · obtain ⟨t, rfl⟩ := h
   simp [keyIs, Value.isInt]
 · obtain ⟨t, rfl⟩ := h
   simp [keyIs, Value.isStrOf]
theorem keys_of {P : Program} {w : World} : ∀ {l : List (Int × Value)}, ElemsOf (yw P w) l → l.Pairwise (Apart (yw P w)) → ∃ ms : List Key, Vals (ms.map kV) (l.map (·.2)) ∧ ms.Nodup ∧ ∀ k, k ∈ ms ↔ ∃ e ∈ l, (yw P w).is k e.2 = true
 | [], _, _ => ⟨[], .nil, List.nodup_nil, fun k => by simp⟩
 | e :: l, h, ha => by
   obtain ⟨ms, h1, h2, h3⟩ := keys_of h.tail (List.pairwise_cons.mp ha).2
   obtain ⟨⟨k, hk, _⟩, _⟩ := h.head
   refine ⟨k :: ms, .cons (key_val hk).1 h1, List.nodup_cons.mpr ⟨fun z => ?_, h2⟩, fun k' => ?_⟩
   · obtain ⟨f, hf, hfk⟩ := (h3 k).mp z
     exact (List.pairwise_cons.mp ha).1 f hf k hk hfk
   · rw [List.mem_cons, h3 k']
     constructor
     · rintro (rfl | ⟨f, hf, hfk⟩)
       · exact ⟨e, by simp, hk⟩
       · exact ⟨f, by simp [hf], hfk⟩
     · rintro ⟨f, hf, hfk⟩
       rcases List.mem_cons.mp hf with rfl | hf
       · exact .inl ((yw P w).inj _ _ _ hfk hk)
       · exact .inr ⟨f, hf, hfk⟩
def rSetK (P : Program) (w : World) (K : W.Frag) : List V → Hp → VK → Prop := fun xs H Q => ∃ a ks, xs = [.ref a] ∧ SqL K H a (ks.map kV) ∧ ks.length < 1000 ∧ ∀ p, H p = none → Q (.ref p) (upd H p (SetO P w p ks))
theorem vals_at : ∀ {xs : List V} {vs : List Value} {i : Nat} {v : Value}, Vals xs vs → vs[i]? = some v → ∃ x, xs[i]? = some x ∧ RelV x v
 | _, _, i, v, .nil, h => by simp at h
 | _, _, 0, v, .cons r t, h => by simp at h; subst h; exact ⟨_, rfl, r⟩
 | _, _, i + 1, v, .cons r t, h => by
   obtain ⟨x, h1, h2⟩ := vals_at (i := i) t (by simpa using h)
   exact ⟨x, by simpa using h1, h2⟩
theorem call_setK (hc : X.calm = true) : CallR X (.type "set") (rSetK X.prog X.w X.K) := by
 intro pins s σ H xs us Q I r h
 obtain ⟨a, ks, rfl, ha, hlen, q⟩ := h
 obtain ⟨u, rfl, ru⟩ := vals1 r
 cases ru
 obtain ⟨its, rv, pl, hz⟩ := I.list ha
 have hl := rv.length
 rw [List.length_map] at hl
 refine kset_list (knd := yw X.prog X.w) (val := fun i => ks.getD i (Sum.inl 0)) (I.ok.hd hc) pl.isList (fun i v hv => ?_) (by rw [List.size_toArray]; unfold scanBound; omega) fun h' tk hS hk => ?_
 · have hv' : its[i]? = some v := by simpa using hv
   obtain ⟨x, hx, rx⟩ := vals_at rv hv'
   rw [List.getElem?_map] at hx
   cases hki : ks[i]? with
   | none => rw [hki] at hx; cases hx
   | some k =>
     rw [hki] at hx
     cases hx
     have e : ks.getD i (Sum.inl 0) = k := by rw [List.getD_eq_getElem?_getD, hki]; rfl
     show (yw X.prog X.w).is (ks.getD i (Sum.inl 0)) v = true ∧ _
     rw [e]
     have hkv := val_key (P := X.prog) (w := X.w) rx
     exact ⟨hkv, (key_val hkv).2⟩
 · have hset : KSet (yw X.prog X.w) h' s.heap.objs.size (fun k => k ∈ ks) its.length := by
     obtain ⟨o, es, ep, t, ho, Z, hn⟩ := hS
     refine ⟨o, es, ep, t, ho, ⟨Z.ex, Z.data, Z.el, fun k => ?_, Z.apart, Z.few, Z.ok, Z.led⟩, by simpa using hn⟩
     rw [← Z.mem k, List.size_toArray, ← hl]
     constructor
     · intro hk
       obtain ⟨i, hi, e⟩ := List.getElem_of_mem hk
       exact ⟨i, hi, by show ks.getD i (Sum.inl 0) = k; rw [List.getD_eq_getElem?_getD, List.getElem?_eq_getElem hi]; exact e⟩
     · rintro ⟨i, hi, e⟩
       have e' : ks.getD i (Sum.inl 0) = k := e
       rw [List.getD_eq_getElem?_getD, List.getElem?_eq_getElem hi] at e'
       rw [← e']; exact List.getElem_mem hi
   refine ⟨.ref s.heap.objs.size, _, I.laid (t' := tk) (o := SetO X.prog X.w s.heap.objs.size ks) (fun b u e => hk b u (Heap.lt_size e) e) (Nat.le_refl _) ?_, rfl, q _ (I.hok.fresh (Nat.le_refl _))⟩
   obtain ⟨o, es, ep, t, ho, _⟩ := id hset
   exact ⟨⟨_, hset.it⟩, ⟨o, ho⟩, fun h1 h2 ⟨n, k1⟩ k => ⟨n, k1.at' k⟩⟩
theorem k_setK (P : Program) (w : World) (K : W.Frag) (hc : X.calm = true) (h : X.K = K := by rfl) (hp : X.prog = P := by rfl) (hw : X.w = w := by rfl) : CallR X (.type "set") (rSetK P w K) := by subst h; subst hp; subst hw; exact call_setK hc
theorem collect_set {pins : List (Addr × Obj)} {s : Shared} {σ : St} {H : Hp} {p : Addr} {ks : List Key} {A : Around} {E : Value → Shared → Prop} {Q : List Value → Shared → Prop} (I : Inv X pins σ H s) (hp : H p = some (SetO X.prog X.w p ks)) (hh : A.handled = none)
   (hq : ∀ vs s' (ms : List Key), Vals (ms.map kV) vs → ms.Nodup → (∀ k, k ∈ ms ↔ k ∈ ks) → Inv X pins σ H s' → Q vs s') : wpAny (model X.prog X.w) A (collect (.ref p)) Q E s := by
 obtain ⟨⟨n, o, es, ep, t, ho, Z, hn⟩, _, _⟩ := (show ObjOk X.prog X.w H s.heap p (SetO X.prog X.w p ks) from I.hok p _ hp)
 have grow : ∀ b o, s.heap.get? b = some o → (s.heap.push (seqObj "list" #[] 0)).get? b = some o := fun b o e => Heap.get?_push_of_some _ e
 have lp : p < s.heap.objs.size := Heap.lt_size ho
 unfold collect
 refine wpAny_bind (wpAny_runValue (codeAny_builtin entry_proto_collect' ?_))
 show wpAny _ _ (do again (.builtin "list.__iadd__" ⟨[← newList [], .ref p], []⟩)) _ _ s
 refine wpAny_bind (wpAny_newList (wpAny_pure ⟨Code.quiet_builtin _ (by decide +kernel), codeAny_builtin entry_list_iadd' ?_⟩))
 show wpAny _ _ (Builtin.List.listExtendWith (.ref s.heap.objs.size) (.ref p) (.ref s.heap.objs.size)) _ _ { s with heap := s.heap.push (seqObj "list" #[] 0) }
 rw [Around.under_plainId (show plainId "list.__iadd__" = true by decide +kernel) _]
 have fin : ∀ s' : Shared, (∃ acc c ord, s'.heap.get? s.heap.objs.size = some { cls := .type "list", dict := none, data := .seq acc c, slots := #[] } ∧ List.Perm ord es.toList ∧ acc.toList = ord.map (·.2) ∧ Inv X pins σ H s') →
     wpAny (model X.prog X.w) A (do
       let o ← load s.heap.objs.size
       match o.data with
       | .seq xs _ => pure xs.toList
       | _ => unsupported "internal:collect") Q E s' := by
   rintro s' ⟨acc, c, ord, hS, hpm, e, I'⟩
   refine wpAny_bind (wpAny_load hS ?_)
   show wpAny _ _ (pure acc.toList) Q E _
   obtain ⟨ms, h1, h2, h3⟩ := keys_of (Z.el.perm hpm) ((hpm.pairwise_iff (fun {x y} h => apart_symm h)).mpr Z.apart)
   refine wpAny_pure (hq _ _ ms (by rw [e]; exact h1) h2 (fun k => ?_) I')
   rw [h3 k, Z.mem k]
   exact ⟨fun ⟨f, hf, q⟩ => ⟨f, hpm.mem_iff.mp hf, q⟩, fun ⟨f, hf, q⟩ => ⟨f, hpm.mem_iff.mpr hf, q⟩⟩
 refine wpAny_mono (extend_set (R := fun r s' => r = .ok (.ret (.ref s.heap.objs.size)) ∧ ∃ acc c ord, s'.heap.get? s.heap.objs.size = some { cls := .type "list", dict := none, data := .seq acc c, slots := #[] } ∧ List.Perm ord es.toList ∧ acc.toList = ord.map (·.2) ∧ Inv X pins σ H s')
   (s := { s with heap := s.heap.push (seqObj "list" #[] 0) }) hh (grow _ _ ho) Z (Nat.ne_of_gt lp) _ 0 (Heap.get?_push_size _ rfl) (fun h' tk d acc c ord hk hS hpm hacc => ?_))
   (fun fi s' hf => ?_) (fun e s' he => nomatch he.1)
 · exact ⟨rfl, acc, c, ord, hS, hpm, hacc, (I.kept (t' := tk) fun b o eb => hk b o (Nat.ne_of_lt (Heap.lt_size eb)) (grow b o eb)).draw⟩
 · cases fi with
   | done f =>
     obtain ⟨e, g⟩ := hf
     cases e
     exact fin s' g
   | again c' =>
     refine ⟨hf.1, codeAny_mono hf.2 fun r s2 ⟨e, g⟩ => ?_⟩
     subst e
     exact fin s2 g
def rSortS (P : Program) (w : World) : List V → Hp → VK → Prop := fun xs H Q => ∃ (a : Addr) (ns : List Int), xs = [.ref a] ∧ H a = some (SetO P w a (ns.map Sum.inl)) ∧ ns.length < 64 ∧ ∀ p ms, H p = none → ms.Nodup → (∀ n, n ∈ ms ↔ n ∈ ns) → Q (.ref p) (upd H p (.lst ((sortI ms).map V.int)))
theorem inl_keys : ∀ {ms : List Key} {ns : List Int}, (∀ k, k ∈ ms ↔ k ∈ ns.map Sum.inl) → ∃ l : List Int, ms = l.map Sum.inl ∧ ∀ n, n ∈ l ↔ n ∈ ns := by
 intro ms ns h
 have hx : ∀ k ∈ ms, ∃ n : Int, k = Sum.inl n := fun k hk => by
   obtain ⟨n, _, rfl⟩ := List.mem_map.mp ((h k).mp hk)
   exact ⟨n, rfl⟩
 have : ∀ ms : List Key, (∀ k ∈ ms, ∃ n : Int, k = Sum.inl n) → ∃ l : List Int, ms = l.map Sum.inl := by
   intro ms
   induction ms with
   | nil => intro _; exact ⟨[], rfl⟩
   | cons k r ih =>
     intro hx
     obtain ⟨n, rfl⟩ := hx k (by simp)
     obtain ⟨l, rfl⟩ := ih fun k hk => hx k (by simp [hk])
     exact ⟨n :: l, rfl⟩
 obtain ⟨l, rfl⟩ := this ms hx
 refine ⟨l, rfl, fun n => ?_⟩
 have := h (Sum.inl n)
 simpa using this
theorem call_sortS (hc : X.calm = true) : CallR X (.builtin "sorted") (rSortS X.prog X.w) := by
 intro pins s σ H xs us Q I r h
 obtain ⟨a, ns, rfl, ha, h64, q⟩ := h
 obtain ⟨u, rfl, ru⟩ := vals1 r
 cases ru
 refine Calls.call_function_entry kind_sorted plain_sorted entry_sorted (args_sorted1 _) ?_
 unfold Builtin.«sorted»
 refine wpAny_bind (m := checkCount "sorted" 1 1 _) (wpAny_pure ?_)
 refine wpAny_bind (collect_set I ha (I.ok.hd hc) fun vs s1 mk rvk hnd hmem I1 => ?_)
 obtain ⟨ms, rfl, hms⟩ := inl_keys hmem
 have hnd' : ms.Nodup := (List.pairwise_map.mp hnd).imp fun h z => h (by rw [z])
 have rv : Vals (ms.map V.int) vs := by rw [List.map_map] at rvk; exact rvk
 have hl := rv.length
 rw [List.length_map] at hl
 have h64' : ms.length < 64 := Nat.lt_of_le_of_lt (hnd'.length_le_of_subset fun n hn => (hms n).mp hn) h64
 refine wpAny_bind (wpAny_newList ?_ (by rw [sizeLine_eq]; omega))
 have fD : FpOk X pins H s1.heap.objs.size := I1.fpOk (Nat.le_refl _) (I1.hok.fresh (Nat.le_refl _))
 have hoL : (s1.heap.push (seqObj "list" vs.toArray 0)).get? s1.heap.objs.size = some (seqObj "list" vs.toArray 0) := Heap.get?_push_size _ rfl
 refine wpAny_bind (wpAny_holding (wpAny_call_entry slot_list_sort ⟨_, hoL, rfl⟩ entry_list_sort ?body (args_list_sort _)))
 case body =>
   refine list_sort_tree (s := { s1 with heap := s1.heap.push (seqObj "list" vs.toArray 0) }) hoL (ints_are rv) (by omega) fun out ns' hI hp hr => ⟨_, rfl, ?_⟩
   have e : ns' = sortI ms := eq_sortI hp hr
   subst e
   obtain ⟨c, hat⟩ := sortedHeap_at (out := out) hoL
   refine wpAny_pure ⟨_, rfl, .ref s1.heap.objs.size, upd H s1.heap.objs.size (.lst ((sortI ms).map V.int)), ?_, rfl, q _ ms fD.1 hnd' hms⟩
   have I3 : Inv X pins σ H { s1 with heap := sortedHeap (s1.heap.push (seqObj "list" vs.toArray 0)) s1.heap.objs.size vs out } := I1.kept (t' := s1.toks) fun b o e => by
     have hb : b ≠ s1.heap.objs.size := Nat.ne_of_lt (Heap.lt_size e)
     rw [sortedHeap_old hb (by rw [Heap.size_push]; exact Nat.lt_succ_of_lt (Heap.lt_size e))]
     exact Heap.get?_push_of_some _ e
   refine I3.track fD ⟨?_, out.toList, c, are_ints hI, ?_⟩
   · rw [List.length_map, (sortI_perm ms).length_eq, sizeLine_eq]; omega
   · simpa [seqObj] using hat
theorem k_sortS (P : Program) (w : World) (hc : X.calm = true) (hp : X.prog = P := by rfl) (hw : X.w = w := by rfl) : CallR X (.builtin "sorted") (rSortS P w) := by subst hp; subst hw; exact call_sortS hc
end
theorem sortI_set {ms ns : List Int} (hd : ms.Nodup) (h : ∀ n, n ∈ ms ↔ n ∈ ns) (hr : ns.Pairwise (· < ·)) : sortI ms = ns := by
 refine (eq_sortI (ns := ms) ?_ (hr.imp fun h => Int.le_of_lt h)).symm
 exact ((List.perm_ext_iff_of_nodup (hr.imp fun h => Int.ne_of_lt h) hd).mpr fun n => (h n).symm)
end L2
namespace L2
open PySem PySem.Spec PyProof.Rows PySem.W
section
variable {X : Cx} {pins : List (Addr × Obj)} {σ : St} {H : Hp} {s : Shared}
def rStarts : V → List V → Hp → VK → Prop := fun x vs H Q => ∃ z y, x = .str z ∧ vs = [.str y] ∧ Q (.bl (PySem.Txt.startswith z y)) H
theorem mt_startswith : MtM X "str.startswith" rStarts := by
 intro pins s σ H x vs v us Q I rx rv h
 obtain ⟨z, y, rfl, rfl, q⟩ := h
 obtain ⟨t, rfl⟩ := rx
 obtain ⟨u, rfl, ru⟩ := rv.one
 obtain ⟨t', rfl⟩ := ru
 exact SC.startswith ⟨.bl _, H, I, rfl, q⟩
end
end L2
namespace L2
open PySem PySem.Spec PyProof.Rows PySem.W Builtin.Str
section
variable {X : Cx} {pins : List (Addr × Obj)} {σ : St} {H : Hp} {s : Shared}
def rSlS : V → Option Int → Option Int → Hp → VK → Prop := fun x lo hi H Q => ∃ z, x = .str z ∧ z.length ≤ sizeLine ∧ Q (.str (PySem.Txt.slice z lo hi)) H
theorem part_of {v : Value} {o : Option Int} (h : IsPart v o) : ∃ p : Option (Int × Tok), v = partValue p ∧ p.map (·.1) = o := by
 cases h with
 | none => exact ⟨none, rfl, rfl⟩
 | int i t => exact ⟨some (i, t), rfl, rfl⟩
theorem sl_str : SlR X rSlS := by
 intro pins s σ H x v vl vu lo hi sl Q I rx hs pl pu h
 obtain ⟨z, rfl, hz, q⟩ := h
 obtain ⟨t, rfl⟩ := rx
 obtain ⟨l, rfl, rfl⟩ := part_of pl
 obtain ⟨u, rfl, rfl⟩ := part_of pu
 refine ⟨"str", _, PySem.F.slot_str_getitem.lookup, typeIs_str _ _ _, wpAny_getItem_str_slice (l := l) (u := u) (st := none) hs rfl ?_⟩
 exact post_val_or_str ⟨Nat.le_trans (PySem.Txt.slice_le z _ _) hz, fun t' k => ⟨.str _, H, I.tok _, ⟨t', rfl⟩, q⟩⟩
theorem vals_strs : ∀ l : List (Str × Tok), Vals ((l.map (·.1)).map V.str) (strValues l)
 | [] => .nil
 | p :: r => .cons ⟨p.2, rfl⟩ (vals_strs r)
theorem list_new {s' : Shared} {l : List (Str × Tok)} {ts : List Str} {k : Nat} (I : Inv X pins σ H s) (hl : l.map (·.1) = ts) (hz : ts.length ≤ sizeLine) {Q : VK} (q : ∀ p, H p = none → Q (.ref p) (upd H p (.lst (ts.map V.str)))) :
   EP X pins σ Q (.ref s.heap.objs.size) { s with toks := k, heap := s.heap.push { cls := .type "list", data := .seq (strValues l).toArray } } := by
 refine ⟨.ref s.heap.objs.size, _, I.laid (t' := k) (o := .lst (ts.map V.str)) (fun b ob q => Heap.get?_push_of_some _ q) (Nat.le_refl _) ?_, rfl, q _ (I.hok.fresh (Nat.le_refl _))⟩
 subst hl
 exact ⟨by rw [List.length_map]; exact hz, strValues l, 0, vals_strs l, Heap.get?_push_size _ rfl⟩
theorem split_len (x y : Str) : (PySem.Txt.split x y).length ≤ x.length + 2 := by
 have e1 := StrLaws.occ_length_le x y 0 x.length (x.length + 1)
 unfold PySem.Txt.split
 split
 · simp
 · split
   · simp
   · rw [length_partsBetween]; omega
def rSplit : V → List V → Hp → VK → Prop := fun x vs H Q => ∃ z y, x = .str z ∧ vs = [.str y] ∧ 1 ≤ y.length ∧ z.length + 2 ≤ sizeLine ∧ ∀ p, H p = none → Q (.ref p) (upd H p (.lst ((PySem.Txt.split z y).map V.str)))
theorem mt_split : MtM X "str.split" rSplit := by
 intro pins s σ H x vs v us Q I rx rv h
 obtain ⟨x, y, rfl, rfl, hy1, hsz, q⟩ := h
 obtain ⟨t, rfl⟩ := rx
 obtain ⟨u, rfl, ru⟩ := rv.one
 obtain ⟨u', rfl⟩ := ru
 have hy : (y.length == 0) = false := beq_eq_false_iff_ne.mpr (by omega)
 have hn : (partsBetween x (occurrences x y 0 x.length (x.length + 1)) y.length).length ≤ sizeLine := by
   have e1 := StrLaws.occ_length_le x y 0 x.length (x.length + 1)
   rw [length_partsBetween]; omega
 have hll : (PySem.Txt.split x y).length ≤ sizeLine := Nat.le_trans (split_len x y) hsz
 cases h1 : (decide (x.length < y.length) || decide (Builtin.Str.strKind x < Builtin.Str.strKind y))
 · cases hf : (occurrences x y 0 x.length (x.length + 1)).isEmpty
   · refine call_meets PySem.F.slot_str_split (typeIs_str _ _ _) PySem.F.entry_str_split (PySem.F.args_str_split_2 _ _) (meets_str_split_sep x y t u' h1 hy hf (by omega) hn) ?_
     show EP X pins σ Q (.ref s.heap.objs.size) { s with toks := _, heap := s.heap.push { cls := .type "list", data := .seq (strsFrom s.toks (partsBetween x (occurrences x y 0 x.length (x.length + 1)) y.length)).toArray } }
     rw [strsFrom_eq]
     exact list_new (s' := s) I ((numbered_texts _ _).trans ((if_neg (ne_true_of_eq_false h1)).trans (if_neg (ne_true_of_eq_false hf))).symm) hll q
   · exact call_meets PySem.F.slot_str_split (typeIs_str _ _ _) PySem.F.entry_str_split (PySem.F.args_str_split_2 _ _) (meets_str_split_not_found x y t u' h1 hy hf)
       (list_new (s' := s) (l := [(x, t)]) I ((if_neg (ne_true_of_eq_false h1)).trans (if_pos hf)).symm hll q)
 · exact call_meets PySem.F.slot_str_split (typeIs_str _ _ _) PySem.F.entry_str_split (PySem.F.args_str_split_2 _ _) (meets_str_split_cannot_occur x y t u' h1)
     (list_new (s' := s) (l := [(x, t)]) I (if_pos h1).symm hll q)
end
end L2
namespace L2
open PySem PySem.Spec PyProof.Rows PySem.W Builtin.Str
def dgV (c : Nat) : Option Nat :=
 if 48 ≤ c && c ≤ 57 then some (c - 48)
 else if 97 ≤ c && c ≤ 122 then some (c - 87)
 else if 65 ≤ c && c ≤ 90 then some (c - 55)
 else none
def blkV (c : Nat) : Bool := c == 32 || (9 ≤ c && c ≤ 13)
def ndStep (base : Nat) : Array Nat × Bool → Nat → Option (Array Nat × Bool) := fun (ds, afterDigit) c =>
   if c == 95 then (if afterDigit then some (ds, false) else none)
   else match dgV c with
     | some d => if d < base then some (ds.push d, true) else none
     | none => none
def ndV (base : Nat) (cs : List Nat) : Option (Array Nat) := do
 let (ds, afterDigit) ← cs.foldlM (init := ((#[] : Array Nat), false)) (ndStep base)
 if afterDigit then some ds else none
def pbV : List Nat → Option Nat
 | 48 :: c :: _ =>
   if c == 120 || c == 88 then some 16 else if c == 111 || c == 79 then some 8 else if c == 98 || c == 66 then some 2 else none
 | _ => none
def sgV (t : List Nat) : Bool × List Nat := match t with
   | 45 :: r => (true, r)
   | 43 :: r => (false, r)
   | _ => (false, t)
def rnB {N : Type} (inv : N) (tl : Nat → N) (bl : N) (vl : Int → N) (limit base : Nat) (text : List Nat) : N :=
 let t := text.dropWhile blkV
 let (negative, t) := sgV t
 let afterPrefix := match t.drop 2 with
   | 95 :: r => r
   | r => r
 let (b, zeroOnly, t) := match pbV t with
   | some p => if base == 0 || base == p then (p, false, afterPrefix) else (base, false, t)
   | none => if base == 0 then (10, t.head? == some 48, t) else (base, false, t)
 match ndV b (t.reverse.dropWhile blkV).reverse with
 | none => inv
 | some ds =>
   if ![2, 4, 8, 16, 32].contains b && limit != 0 && ds.size > limit then tl ds.size else
   if b == 10 && ds.size > 6000 then bl else
   let n := ds.foldl (fun acc d => acc * b + d) 0
   if zeroOnly && n != 0 then inv else vl (if negative then -(n : Int) else n)
def DigL (cs : List Nat) : Prop := ∀ c ∈ cs, 48 ≤ c ∧ c ≤ 57
def digN (cs : List Nat) : Nat := cs.foldl (fun a c => a * 10 + (c - 48)) 0
theorem nd_fold : ∀ (cs : List Nat) (ds : Array Nat) (b : Bool), DigL cs → cs.foldlM (init := (ds, b)) (ndStep 10) = some (ds ++ (cs.map (· - 48)).toArray, b || !cs.isEmpty)
 | [], ds, b, _ => by simp
 | c :: r, ds, b, h => by
   have hc := h c List.mem_cons_self
   rw [List.foldlM_cons]
   have e : ndStep 10 (ds, b) c = some (ds.push (c - 48), true) := by
     have h1 : (c == 95) = false := beq_eq_false_iff_ne.mpr (by omega)
     have h2 : dgV c = some (c - 48) := by
       unfold dgV
       exact if_pos (by rw [Bool.and_eq_true, decide_eq_true_eq, decide_eq_true_eq]; exact hc)
     have h3 : c - 48 < 10 := by omega
     simp only [ndStep, h1, h2, h3, Bool.false_eq_true, if_false, if_true]
   rw [e]
   show List.foldlM (ndStep 10) (ds.push (c - 48), true) r = _
   rw [nd_fold r _ _ (fun x hx => h x (List.mem_cons_of_mem _ hx))]
   simp
theorem blk_dig {c : Nat} (h : 48 ≤ c ∧ c ≤ 57) : blkV c = false := by unfold blkV; simp; omega
theorem drop_dig : ∀ {cs : List Nat}, DigL cs → cs.dropWhile blkV = cs
 | [], _ => rfl
 | c :: r, h => by rw [List.dropWhile_cons, blk_dig (h c List.mem_cons_self)]; rfl
theorem rn_eq {N : Type} {rn : Nat → Nat → List Nat → N} {inv : N} {tl : Nat → N} {bl : N} {vl : Int → N} {cs : List Nat} {r : N} (heq : rn 0 10 cs = r) (h : rn = rnB inv tl bl vl)
   (hd : DigL cs) (hn : cs ≠ []) (hz : cs.length ≤ 6000) : vl (digN cs : Nat) = r := by
 rw [← heq, h]
 unfold rnB
 dsimp only
 rw [drop_dig hd]
 have e1 : sgV cs = (false, cs) := by
   cases cs with
   | nil => rfl
   | cons c r =>
     have hc := hd c List.mem_cons_self
     unfold sgV
     split
     · next r' e => injection e with e _; omega
     · next r' e => injection e with e _; omega
     · rfl
 rw [e1]
 dsimp only
 have e2 : pbV cs = none := by
   unfold pbV
   split
   · next c r =>
     have hc := hd c (List.mem_cons_of_mem _ List.mem_cons_self)
     have h1 : (c == 120 || c == 88) = false := by simp; omega
     have h2 : (c == 111 || c == 79) = false := by simp; omega
     have h3 : (c == 98 || c == 66) = false := by simp; omega
     simp only [h1, h2, h3, Bool.false_eq_true, if_false]
   · rfl
 rw [e2]
 dsimp only
 rw [if_neg (by decide)]
 dsimp only
 have hr : DigL cs.reverse := fun c hc => hd c (List.mem_reverse.mp hc)
 rw [drop_dig hr, List.reverse_reverse]
 have e3 : ndV 10 cs = some (cs.map (· - 48)).toArray := by
   unfold ndV
   rw [nd_fold cs _ _ hd]
   cases cs with
   | nil => exact absurd rfl hn
   | cons c r => simp
 rw [e3]
 dsimp only
 rw [if_neg (by simp), if_neg (by simp; omega), if_neg (by simp)]
 simp only [Bool.false_eq_true, if_false]
 congr 1
 unfold digN
 rw [List.foldl_toArray]
 simp [List.foldl_map]
theorem str_no_int : typeLookup (.type "str") (Str.ofString "__int__") = pure none := by rw [typeLookup_type, builtinLookup_eq_fast]; kernel_rfl
theorem str_no_index : typeLookup (.type "str") (Str.ofString "__index__") = pure none := by rw [typeLookup_type, builtinLookup_eq_fast]; kernel_rfl
theorem str_no_trunc : typeLookup (.type "str") (Str.ofString "__trunc__") = pure none := by rw [typeLookup_type, builtinLookup_eq_fast]; kernel_rfl
theorem dig_seen : ∀ {cs : List Nat}, DigL cs → cs.takeWhile (fun x => x != 0) = cs
 | [], _ => rfl
 | c :: r, h => by
   have hc := h c List.mem_cons_self
   have e : (c != 0) = true := by rw [bne_iff_ne]; omega
   rw [List.takeWhile_cons, if_pos e, dig_seen (fun x hx => h x (List.mem_cons_of_mem _ hx))]
theorem dig_ascii {x : Str} (h : DigL x.cps.toList) : (x.cps.all fun x => decide (x < 128)) = true := by
 rw [Array.all_eq_true']
 intro c hc
 have := h c (Array.mem_toList_iff.mpr hc)
 simp; omega
theorem int_of_text {prog : Program} {w : World} {A : Around} {E : Value → Shared → Prop} {s : Shared} {x : Str} {t : Tok} {Q : Value → Shared → Prop} (hd : DigL x.cps.toList) (hn : x.cps.toList ≠ []) (hz : x.cps.toList.length ≤ 640)
   (h : Q (.int (digN x.cps.toList : Nat) s.toks) { s with toks := s.toks + 1 }) :
  wpAny (model prog w) A (call (.type "int") [.str x t]) Q E s := by
 refine callType_new PySem.F.called_int PySem.F.newNe_int (PySem.F.typeCall_int_1 _) (PySem.F.newCall_int_1 _) (fun obj => PySem.F.args_object_init_2 obj _) PySem.F.entry_int_new (S := fun _ R s => R (.ok (.ret (.int (digN x.cps.toList : Nat) s.toks))) { s with toks := s.toks + 1 }) (Meets.of_wp fun prog w A R s h => ?_) ⟨typeIs_int _ _ _, h⟩
 obtain ⟨hp, g, d, tk, os⟩ := s
 have f1 := PySem.F.conv_sub_int
 have f2 := PySem.F.madeHere_int
 repeat (any_goals (first | assumption | wp_step))
 refine wpAny_of_eq str_no_int ?_
 repeat (any_goals (first | assumption | wp_step))
 refine wpAny_of_eq str_no_index ?_
 repeat (any_goals (first | assumption | wp_step))
 refine wpAny_of_eq str_no_trunc ?_
 repeat (any_goals (first | assumption | wp_step))
 rw [if_pos (dig_ascii hd), dig_seen hd, if_pos hz]
 refine wpAny_bind (wpAny_pure ?_)
 dsimp only
 split
 · next n heq =>
   have e := rn_eq heq rfl hd hn (by omega)
   nomatch e
 · next heq =>
   have e := rn_eq heq rfl hd hn (by omega)
   nomatch e
 · next i heq =>
   have e := rn_eq heq rfl hd hn (by omega)
   injection e with e
   subst e
   rw [if_pos (beq_self_eq_true _)]
   repeat (any_goals (first | assumption | wp_step))
   exact ⟨_, rfl, h⟩
 · next heq =>
   have e := rn_eq heq rfl hd hn (by omega)
   nomatch e
section
variable {X : Cx}
def nT (n : Int) : Str := Str.ofString (toString n)
def rStrI : List V → Hp → VK → Prop := fun xs H Q => ∃ n : Int, xs = [.int n] ∧ n.natAbs.log2 < 1920 ∧ Q (.str (nT n)) H
theorem call_strI : CallR X (.type "str") rStrI := by
 intro pins s σ H xs us Q I r h
 obtain ⟨n, rfl, hn, q⟩ := h
 obtain ⟨u, rfl, ru⟩ := vals1 r
 obtain ⟨t, rfl⟩ := ru
 exact PySem.P.str_of_int hn ⟨.str _, H, I.tok _, ⟨_, rfl⟩, q⟩
def rIntS : List V → Hp → VK → Prop := fun xs H Q => ∃ x : Str, xs = [.str x] ∧ DigL x.cps.toList ∧ x.cps.toList ≠ [] ∧ x.cps.toList.length ≤ 640 ∧ Q (.int (digN x.cps.toList : Nat)) H
theorem call_intS : CallR X (.type "int") rIntS := by
 intro pins s σ H xs us Q I r h
 obtain ⟨x, rfl, h1, h2, h3, q⟩ := h
 obtain ⟨u, rfl, ru⟩ := vals1 r
 obtain ⟨t, rfl⟩ := ru
 exact int_of_text h1 h2 h3 ⟨.int _, H, I.tok _, ⟨_, rfl⟩, q⟩
end
def dgT (n : Nat) : List Nat := (Nat.toDigits 10 n).map Char.toNat
theorem nT_cps (n : Nat) : (nT n).cps.toList = dgT n := by
 unfold nT dgT
 rw [signs_ofString]
 rw [Int.toString_eq_repr, Int.repr_eq_if, if_pos (Int.natCast_nonneg n), Nat.toList_repr]
 rfl
theorem dgc : ∀ n, n < 10 → (Nat.digitChar n).toNat = 48 + n := by decide
theorem dgT_lt {n : Nat} (h : n < 10) : dgT n = [48 + n] := by
 unfold dgT; rw [Nat.toDigits_of_lt_base h]; simp [dgc n h]
theorem dgT_ge {n : Nat} (h : 10 ≤ n) : dgT n = dgT (n / 10) ++ [48 + n % 10] := by
 unfold dgT; rw [Nat.toDigits_of_base_le (by decide) h, List.map_append]; simp [dgc _ (Nat.mod_lt n (by decide : 0 < 10))]
theorem digN_snoc (cs : List Nat) (c : Nat) : digN (cs ++ [c]) = digN cs * 10 + (c - 48) := by unfold digN; rw [List.foldl_append]; rfl
theorem dgT_val (n : Nat) : digN (dgT n) = n := by
 induction n using Nat.strongRecOn with
 | _ n ih =>
   by_cases h : n < 10
   · rw [dgT_lt h]; show 0 * 10 + (48 + n - 48) = n; omega
   · rw [dgT_ge (by omega), digN_snoc, ih (n / 10) (by omega)]; omega
theorem dgT_dig (n : Nat) : DigL (dgT n) := by
 induction n using Nat.strongRecOn with
 | _ n ih =>
   by_cases h : n < 10
   · rw [dgT_lt h]; intro c hc; rw [List.mem_singleton] at hc; omega
   · rw [dgT_ge (by omega)]
     intro c hc
     rcases List.mem_append.mp hc with hc | hc
     · exact ih (n / 10) (by omega) c hc
     · rw [List.mem_singleton] at hc; omega
theorem dgT_ne (n : Nat) : dgT n ≠ [] := by
 by_cases h : n < 10
 · rw [dgT_lt h]; exact nofun
 · rw [dgT_ge (by omega)]; simp
theorem dgT_len : ∀ (k n : Nat), n < 10 ^ (k + 1) → (dgT n).length ≤ k + 1
 | 0, n, h => by rw [dgT_lt (by omega)]; simp
 | k + 1, n, h => by
   by_cases hn : n < 10
   · rw [dgT_lt hn]; simp
   · have := dgT_len k (n / 10) (by rw [Nat.pow_succ] at h; omega)
     rw [dgT_ge (by omega), List.length_append, List.length_singleton]; omega
theorem dgT_head (n : Nat) (h0 : 1 ≤ n) : (dgT n).head? ≠ some 48 := by
 induction n using Nat.strongRecOn with
 | _ n ih =>
   by_cases h : n < 10
   · rw [dgT_lt h]; intro e; injection e with e; omega
   · rw [dgT_ge (by omega)]
     have := ih (n / 10) (by omega) (by omega)
     revert this
     cases e : dgT (n / 10) with
     | nil => exact absurd e (dgT_ne _)
     | cons a r => exact id
theorem snoc_ind {P : List Nat → Prop} (nil : P []) (append_singleton : ∀ l c, P l → P (l ++ [c])) (l : List Nat) : P l := by
 have h : ∀ m : List Nat, P m.reverse := by
   intro m
   induction m with
   | nil => exact nil
   | cons a r ih => rw [List.reverse_cons]; exact append_singleton _ _ ih
 have := h l.reverse
 rwa [List.reverse_reverse] at this
theorem digN_pos : ∀ {cs : List Nat}, DigL cs → cs ≠ [] → cs.head? ≠ some 48 → 1 ≤ digN cs := by
 intro cs
 induction cs using snoc_ind with
 | nil => exact fun _ h _ => absurd rfl h
 | append_singleton l c ih =>
   intro hd _ hh
   rw [digN_snoc]
   by_cases hl : l = []
   · subst hl
     have hc := hd c (List.mem_append_right _ List.mem_cons_self)
     have : c ≠ 48 := fun e => hh (by rw [e]; rfl)
     show 1 ≤ 0 * 10 + (c - 48); omega
   · have := ih (fun x hx => hd x (List.mem_append_left _ hx)) hl (by cases l with | nil => exact absurd rfl hl | cons a r => exact hh)
     omega
theorem dgT_uniq : ∀ {cs : List Nat}, DigL cs → cs ≠ [] → cs.head? ≠ some 48 → dgT (digN cs) = cs := by
 intro cs
 induction cs using snoc_ind with
 | nil => exact fun _ h _ => absurd rfl h
 | append_singleton l c ih =>
   intro hd _ hh
   have hc := hd c (List.mem_append_right _ List.mem_cons_self)
   rw [digN_snoc]
   by_cases hl : l = []
   · subst hl
     have e : digN [] * 10 + (c - 48) = c - 48 := by show 0 * 10 + (c - 48) = _; omega
     rw [e, dgT_lt (by omega)]
     show [48 + (c - 48)] = [c]
     rw [show 48 + (c - 48) = c by omega]
   · have hd' : DigL l := fun x hx => hd x (List.mem_append_left _ hx)
     have hh' : l.head? ≠ some 48 := by cases l with | nil => exact absurd rfl hl | cons a r => exact hh
     have hp := digN_pos hd' hl hh'
     rw [dgT_ge (by omega), show (digN l * 10 + (c - 48)) / 10 = digN l by omega, show 48 + (digN l * 10 + (c - 48)) % 10 = c by omega, ih hd' hl hh']
end L2
namespace L2
open PySem PySem.Spec PyProof.Rows PySem.W Builtin.Str
theorem str_ext' {x y : Str} (h : x.cps.toList = y.cps.toList) : x = y := by
 cases x; cases y; congr; exact Array.ext' h
theorem str_mk (x : Str) : (⟨x.cps.toList.toArray⟩ : Str) = x := by cases x; simp
theorem nl_cps : ("\n" : Str).cps = #[10] := by decide +kernel
theorem yM (x y : Str) : (x ++ y).cps.toList = x.cps.toList ++ y.cps.toList := by
 show (x.cps ++ y.cps).toList = _; rw [Array.toList_append]
theorem join_codes' : ∀ ys : List Str, (Txt.join "" ys).cps.toList = (ys.map (·.cps.toList)).flatten := by
 have key : ∀ ys : List Str, (Str.join "" ys).cps.toList = (ys.map (·.cps.toList)).flatten := by
   intro ys
   induction ys with
   | nil => rfl
   | cons y r ih =>
     cases r with
     | nil => simp [Str.join]
     | cons z q =>
       have e : Str.join "" (y :: z :: q) = y ++ ("" : Str) ++ Str.join "" (z :: q) := rfl
       have e2 : (y ++ ("" : Str) ++ Str.join "" (z :: q)).cps.toList = y.cps.toList ++ (Str.join "" (z :: q)).cps.toList := by
         show ((y.cps ++ ("" : Str).cps) ++ (Str.join "" (z :: q)).cps).toList = _
         have e0 : ("" : Str).cps = #[] := by decide +kernel
         rw [e0]; simp
       rw [e, e2, ih]
       simp
 intro ys
 unfold Txt.join
 rw [StrLaws.glued_eq_join]
 exact key ys
def jn : List (List Nat) → List Nat
 | [] => []
 | [x] => x
 | x :: y :: r => x ++ 10 :: jn (y :: r)
def spl : List Nat → List (List Nat)
 | [] => [[]]
 | c :: r => if c = 10 then [] :: spl r else (c :: (spl r).headD []) :: (spl r).tail
theorem spl_ne : ∀ l, spl l ≠ []
 | [] => by unfold spl; exact nofun
 | c :: r => by unfold spl; split <;> exact nofun
theorem spl_app : ∀ {x : List Nat} {r : List Nat}, 10 ∉ x → spl (x ++ 10 :: r) = x :: spl r
 | [], r, _ => by show spl (10 :: r) = _; rw [spl, if_pos rfl]
 | c :: x, r, h => by
   have hc : c ≠ 10 := fun e => h (by rw [e]; exact List.mem_cons_self)
   rw [List.cons_append, spl, if_neg hc, spl_app (fun z => h (List.mem_cons_of_mem _ z))]; rfl
theorem spl_free : ∀ {x : List Nat}, 10 ∉ x → spl x = [x]
 | [], _ => rfl
 | c :: x, h => by
   have hc : c ≠ 10 := fun e => h (by rw [e]; exact List.mem_cons_self)
   rw [spl, if_neg hc, spl_free (fun z => h (List.mem_cons_of_mem _ z))]; rfl
theorem spl_jn : ∀ {ps : List (List Nat)}, ps ≠ [] → (∀ p ∈ ps, 10 ∉ p) → spl (jn ps) = ps
 | [], h, _ => absurd rfl h
 | [x], _, h => by show spl x = _; exact spl_free (h x List.mem_cons_self)
 | x :: y :: r, _, h => by
   show spl (x ++ 10 :: jn (y :: r)) = _
   rw [spl_app (h x List.mem_cons_self), spl_jn (List.cons_ne_nil _ _) (fun p hp => h p (List.mem_cons_of_mem _ hp))]
theorem jn_cons {x : List Nat} {ps : List (List Nat)} (h : ps ≠ []) : jn (x :: ps) = x ++ 10 :: jn ps := by
 cases ps with
 | nil => exact absurd rfl h
 | cons y r => rfl
theorem jn_spl : ∀ l, jn (spl l) = l
 | [] => rfl
 | c :: r => by
   have ih := jn_spl r
   rw [spl]
   split
   · next e => rw [jn_cons (spl_ne r), ih, e]; rfl
   · next e =>
     cases hs : spl r with
     | nil => exact absurd hs (spl_ne r)
     | cons h t =>
       rw [hs] at ih
       show jn ((c :: h) :: t) = _
       cases t with
       | nil => show c :: h = _; rw [show h = r from ih]
       | cons y q => show (c :: h) ++ 10 :: jn (y :: q) = _; rw [← ih]; rfl
theorem spl_all : ∀ l, ∀ p ∈ spl l, 10 ∉ p
 | [], p, hp => by rw [spl, List.mem_singleton] at hp; rw [hp]; exact nofun
 | c :: r, p, hp => by
   have ih := spl_all r
   rw [spl] at hp
   split at hp
   · rcases List.mem_cons.mp hp with e | e
     · rw [e]; exact nofun
     · exact ih p e
   · next e =>
     cases hs : spl r with
     | nil => exact absurd hs (spl_ne r)
     | cons h t =>
       rw [hs] at hp ih
       rcases List.mem_cons.mp hp with q | q
       · rw [q]
         intro z
         rcases List.mem_cons.mp z with z | z
         · exact e z.symm
         · exact ih h List.mem_cons_self z
       · exact ih p (List.mem_cons_of_mem _ q)
theorem spl_len : ∀ l, (spl l).length ≤ l.length + 1
 | [] => Nat.le_refl _
 | c :: r => by
   have := spl_len r
   rw [spl]
   split
   · simp; omega
   · simp; omega
theorem spl_part : ∀ l, ∀ p ∈ spl l, p.length ≤ l.length
 | [], p, hp => by rw [spl, List.mem_singleton] at hp; rw [hp]; exact Nat.le_refl _
 | c :: r, p, hp => by
   have ih := spl_part r
   rw [spl] at hp
   split at hp
   · rcases List.mem_cons.mp hp with e | e
     · rw [e]; exact Nat.zero_le _
     · have := ih p e; simp; omega
   · cases hs : spl r with
     | nil => exact absurd hs (spl_ne r)
     | cons h t =>
       rw [hs] at hp ih
       rcases List.mem_cons.mp hp with q | q
       · have := ih h List.mem_cons_self
         rw [q]; simp; omega
       · have := ih p (List.mem_cons_of_mem _ q); simp; omega
theorem join_jn : ∀ ps : List Str, (Txt.join "\n" ps).cps.toList = jn (ps.map (·.cps.toList)) := by
 have key : ∀ ys : List Str, (Str.join "\n" ys).cps.toList = jn (ys.map (·.cps.toList)) := by
   intro ys
   induction ys with
   | nil => rfl
   | cons y r ih =>
     cases r with
     | nil => simp [Str.join, jn]
     | cons z q =>
       have e : Str.join "\n" (y :: z :: q) = y ++ ("\n" : Str) ++ Str.join "\n" (z :: q) := rfl
       rw [e, yM, yM, ih, nl_cps]
       simp [jn]
 intro ys
 unfold Txt.join
 rw [StrLaws.glued_eq_join]
 exact key ys
theorem split_spl (x : Str) : Txt.split x "\n" = (spl x.cps.toList).map (fun l => (⟨l.toArray⟩ : Str)) := by
 have e0 : ("\n" : Str) = ⟨#[10]⟩ := by decide +kernel
 have h1 := StrLaws.join_split x "\n"
 have h2 : ∀ p ∈ Txt.split x "\n", 10 ∉ p.cps.toList := by rw [e0]; exact StrLaws.split_free x 10
 have h3 : Txt.split x "\n" ≠ [] := by
   unfold Txt.split
   split
   · exact nofun
   · split
     · exact nofun
     · intro e
       have := congrArg List.length e
       rw [length_partsBetween] at this
       simp at this
 generalize Txt.split x "\n" = ps at h1 h2 h3
 have h4 : jn (ps.map (·.cps.toList)) = x.cps.toList := by
   rw [← join_jn]
   unfold Txt.join
   rw [StrLaws.glued_eq_join, h1]
 rw [← h4, spl_jn (by simpa using h3) (by intro p hp; obtain ⟨q, hq, rfl⟩ := List.mem_map.mp hp; exact h2 q hq), List.map_map]
 have : (fun l => (⟨l.toArray⟩ : Str)) ∘ (fun (y : Str) => y.cps.toList) = id := by funext y; exact str_mk y
 rw [this, List.map_id]
def idF : List Nat := [105, 100, 58, 32]
def tpF : List Nat := [116, 111, 112, 105, 99, 58, 32]
def dtF : List Nat := [100, 97, 116, 97, 58, 32]
def frB (m : Msg) : List (List Nat) := (idF ++ dgT m.n.toNat) :: (tpF ++ m.t.cps.toList) :: (spl m.x.cps.toList).map (dtF ++ ·)
def lnC (ls : List (List Nat)) : List Nat := (ls.map (· ++ [10])).flatten
def frC (m : Msg) : List Nat := lnC (frB m ++ [[]])
theorem lnC_cons (l : List Nat) (r : List (List Nat)) : lnC (l :: r) = l ++ 10 :: lnC r := by simp [lnC]
theorem lnC_app (a b : List (List Nat)) : lnC (a ++ b) = lnC a ++ lnC b := by simp [lnC]
theorem spl_lnC : ∀ {ls : List (List Nat)} {r : List Nat}, (∀ l ∈ ls, 10 ∉ l) → spl (lnC ls ++ r) = ls ++ spl r
 | [], r, _ => rfl
 | l :: ls, r, h => by
   rw [lnC_cons, List.append_assoc, List.cons_append, spl_app (h l List.mem_cons_self), spl_lnC (fun x hx => h x (List.mem_cons_of_mem _ hx))]; rfl
def OkM (m : Msg) : Prop := (1 ≤ m.n ∧ m.n ≤ 999999) ∧ (1 ≤ m.t.cps.toList.length ∧ m.t.cps.toList.length ≤ 3 ∧ ∀ c ∈ m.t.cps.toList, 97 ≤ c ∧ c ≤ 122) ∧ m.x.cps.toList.length ≤ 8 ∧ ∀ c ∈ m.x.cps.toList, (97 ≤ c ∧ c ≤ 122) ∨ c = 32 ∨ c = 10
instance (m : Msg) : Decidable (OkM m) := by unfold OkM; infer_instance
def minF (ls : List (List Nat)) : Msg := ⟨(digN ((ls.headD []).drop 4) : Nat), ⟨((ls.tail.headD []).drop 7).toArray⟩, ⟨(jn (ls.tail.tail.map (·.drop 6))).toArray⟩⟩
def minG (ls : List (List Nat)) : Option Msg := if ls = frB (minF ls) ∧ OkM (minF ls) then some (minF ls) else none
theorem minF_fr {m : Msg} (h : 0 ≤ m.n) : minF (frB m) = m := by
 obtain ⟨n, t, x⟩ := m
 unfold minF frB
 simp only [List.headD_cons, List.tail_cons, List.map_map]
 have e1 : (idF ++ dgT n.toNat).drop 4 = dgT n.toNat := rfl
 have e2 : (tpF ++ t.cps.toList).drop 7 = t.cps.toList := rfl
 have e3 : (List.drop 6 ∘ fun x => dtF ++ x) = id := by funext y; rfl
 rw [e1, e2, e3, List.map_id, jn_spl, dgT_val, str_mk, str_mk, Int.toNat_of_nonneg h]
theorem minG_fr {m : Msg} (h : OkM m) : minG (frB m) = some m := by
 have e := minF_fr (m := m) (by have := h.1.1; omega)
 unfold minG; rw [e, if_pos ⟨rfl, h⟩]
theorem minG_some {ls : List (List Nat)} {m : Msg} (h : minG ls = some m) : ls = frB m ∧ OkM m := by
 unfold minG at h
 split at h
 · next q => injection h with h; rw [← h]; exact q
 · cases h
theorem dig_no10 {cs : List Nat} (h : DigL cs) : 10 ∉ cs := fun z => by have := h 10 z; omega
theorem frB_free {m : Msg} (h : OkM m) : ∀ l ∈ frB m, 10 ∉ l := by
 intro l hl z
 unfold frB at hl
 rcases List.mem_cons.mp hl with e | hl
 · rw [e] at z
   rcases List.mem_append.mp z with z | z
   · exact absurd z (by decide)
   · exact dig_no10 (dgT_dig _) z
 rcases List.mem_cons.mp hl with e | hl
 · rw [e] at z
   rcases List.mem_append.mp z with z | z
   · exact absurd z (by decide)
   · have := h.2.1.2.2 10 z; omega
 obtain ⟨q, hq, rfl⟩ := List.mem_map.mp hl
 rcases List.mem_append.mp z with z | z
 · exact absurd z (by decide)
 · exact spl_all _ q hq z
theorem frB_ne (m : Msg) : ∀ l ∈ frB m, l ≠ [] ∧ l.head? ≠ some 58 := by
 intro l hl
 unfold frB at hl
 rcases List.mem_cons.mp hl with e | hl
 · rw [e]; exact ⟨nofun, by show some 105 ≠ some 58; decide⟩
 rcases List.mem_cons.mp hl with e | hl
 · rw [e]; exact ⟨nofun, by show some 116 ≠ some 58; decide⟩
 obtain ⟨q, hq, rfl⟩ := List.mem_map.mp hl
 exact ⟨nofun, by show some 100 ≠ some 58; decide⟩
def closeL (st : List Msg × List (List Nat)) (line : List Nat) : Option (List Msg × List (List Nat)) :=
 if line = [] then (if st.2 = [] then some st else (minG st.2).map fun m => (st.1 ++ [m], [])) else if line.head? = some 58 then some st else some (st.1, st.2 ++ [line])
def stepC (st : List Msg × List (List Nat) × List Nat) (c : Nat) : Option (List Msg × List (List Nat) × List Nat) :=
 if c = 10 then (closeL (st.1, st.2.1) st.2.2).map fun q => (q.1, q.2, []) else some (st.1, st.2.1, st.2.2 ++ [c])
def rdC (st : List Msg × List (List Nat) × List Nat) (cs : List Nat) : Option (List Msg × List (List Nat) × List Nat) := cs.foldlM stepC st
theorem run_nil (st : List Msg × List (List Nat) × List Nat) : rdC st [] = some st := rfl
theorem run_cons (st : List Msg × List (List Nat) × List Nat) (c : Nat) (r : List Nat) : rdC st (c :: r) = (stepC st c).bind fun q => rdC q r := rfl
theorem run_app (st : List Msg × List (List Nat) × List Nat) (a b : List Nat) : rdC st (a ++ b) = (rdC st a).bind fun q => rdC q b := by
 unfold rdC; rw [List.foldlM_append]; rfl
theorem run_lines : ∀ (p : List Nat) (fd : List Msg) (ls : List (List Nat)) (cur : List Nat), 10 ∉ cur →
   rdC (fd, ls, cur) p = ((spl (cur ++ p)).dropLast.foldlM closeL (fd, ls)).map fun q => (q.1, q.2, (spl (cur ++ p)).getLastD [])
 | [], fd, ls, cur, h => by rw [run_nil, List.append_nil, spl_free h]; rfl
 | c :: r, fd, ls, cur, h => by
   rw [run_cons]
   by_cases hc : c = 10
   · subst hc
     rw [spl_app h]
     obtain ⟨a, q, e⟩ : ∃ a q, spl r = a :: q := by
       cases hs : spl r with
       | nil => exact absurd hs (spl_ne r)
       | cons a q => exact ⟨a, q, rfl⟩
     rw [e, List.dropLast_cons₂, List.foldlM_cons]
     unfold stepC
     rw [if_pos rfl]
     dsimp only
     cases hcl : closeL (fd, ls) cur with
     | none => rfl
     | some st =>
       obtain ⟨fd', ls'⟩ := st
       show rdC (fd', ls', []) r = _
       rw [run_lines r fd' ls' [] nofun, List.nil_append, e]
       rfl
   · have e : stepC (fd, ls, cur) c = some (fd, ls, cur ++ [c]) := by unfold stepC; rw [if_neg hc]
     rw [e]
     show rdC (fd, ls, cur ++ [c]) r = _
     rw [run_lines r fd ls (cur ++ [c]) (by simp; exact ⟨h, fun z => hc z.symm⟩), List.append_assoc]
     rfl
theorem run_free {q : List Nat} (h : 10 ∉ q) (fd : List Msg) (ls : List (List Nat)) : rdC (fd, ls, []) q = some (fd, ls, q) := by
 rw [run_lines q fd ls [] nofun, List.nil_append, spl_free h]; rfl
theorem run_ln {G : List (List Nat)} (h : ∀ l ∈ G, 10 ∉ l) (fd : List Msg) (ls : List (List Nat)) : rdC (fd, ls, []) (lnC G) = (G.foldlM closeL (fd, ls)).map fun q => (q.1, q.2, []) := by
 have e : spl (lnC G) = G ++ [[]] := by have := spl_lnC (ls := G) (r := []) h; rw [List.append_nil] at this; exact this
 rw [run_lines _ fd ls [] nofun, List.nil_append, e, List.dropLast_concat]
 congr 1
 funext q
 simp
theorem fold_silent : ∀ {P : List (List Nat)} (fd : List Msg), (∀ l ∈ P, l = [] ∨ l.head? = some 58) → P.foldlM closeL (fd, []) = some (fd, [])
 | [], _, _ => rfl
 | l :: P, fd, h => by
   have e : closeL (fd, []) l = some (fd, []) := by
     unfold closeL
     rcases h l List.mem_cons_self with e | e
     · rw [if_pos e, if_pos rfl]
     · rw [if_neg (fun z => by rw [z] at e; cases e), if_pos e]
   rw [List.foldlM_cons, e]
   exact fold_silent fd (fun x hx => h x (List.mem_cons_of_mem _ hx))
theorem fold_lines : ∀ {L : List (List Nat)} (fd : List Msg) (ls : List (List Nat)), (∀ l ∈ L, l ≠ []) → L.foldlM closeL (fd, ls) = some (fd, ls ++ L.filter fun l => decide (l.head? ≠ some 58))
 | [], _, ls, _ => by simp
 | l :: L, fd, ls, h => by
   have hl := h l List.mem_cons_self
   rw [List.foldlM_cons]
   unfold closeL
   rw [if_neg hl]
   by_cases e : l.head? = some 58
   · rw [if_pos e, List.filter_cons, if_neg (by simp [e])]
     exact fold_lines fd ls (fun x hx => h x (List.mem_cons_of_mem _ hx))
   · rw [if_neg e, List.filter_cons, if_pos (by simp [e])]
     show List.foldlM closeL (fd, ls ++ [l]) L = _
     rw [fold_lines fd (ls ++ [l]) (fun x hx => h x (List.mem_cons_of_mem _ hx)), List.append_assoc]
     rfl
theorem ln_cut : ∀ {LL : List (List Nat)} {p : List Nat}, p <+: lnC LL → p ≠ lnC LL → ∃ G1 l G2 q, LL = G1 ++ l :: G2 ∧ p = lnC G1 ++ q ∧ q <+: l
 | [], p, h, hn => by
   have : p = [] := List.prefix_nil.mp h
   exact absurd this hn
 | l :: LL, p, h, hn => by
   rw [lnC_cons] at h hn
   by_cases hp : p.length ≤ l.length
   · refine ⟨[], l, LL, p, rfl, rfl, ?_⟩
     obtain ⟨r, hr⟩ := h
     have := List.prefix_append l (10 :: lnC LL)
     exact List.prefix_of_prefix_length_le ⟨r, hr⟩ this hp
   · have h2 : l ++ [10] <+: p := by
       refine List.prefix_of_prefix_length_le (l₃ := l ++ 10 :: lnC LL) ⟨lnC LL, by simp⟩ h ?_
       simp; omega
     obtain ⟨p', rfl⟩ := h2
     have h3 : p' <+: lnC LL := by
       have : (l ++ [10]) ++ p' <+: (l ++ [10]) ++ lnC LL := by simpa using h
       exact (List.prefix_append_right_inj _).mp this
     have hn' : p' ≠ lnC LL := fun e => hn (by rw [e]; simp)
     obtain ⟨G1, l', G2, q, e, ep, hq⟩ := ln_cut h3 hn'
     exact ⟨l :: G1, l', G2, q, by rw [e]; rfl, by rw [ep, lnC_cons]; simp, hq⟩
structure SegOk (m : Msg) (s : List Nat) : Prop where
 ne : s ≠ []
 all : ∀ fd, rdC (fd, [], []) s = some (fd ++ [m], [], [])
 part : ∀ fd p, p <+: s → p ≠ s → ∃ ls cur, rdC (fd, [], []) p = some (fd, ls, cur)
theorem seg_of {m : Msg} (hm : OkM m) {P L : List (List Nat)} (hP : ∀ l ∈ P, (l = [] ∨ l.head? = some 58) ∧ 10 ∉ l) (hL : ∀ l ∈ L, l ≠ [] ∧ 10 ∉ l) (hf : (L.filter fun l => decide (l.head? ≠ some 58)) = frB m) : SegOk m (lnC (P ++ L ++ [[]])) := by
 have hfree : ∀ l ∈ P ++ L ++ [[]], 10 ∉ l := by
   intro l hl
   rcases List.mem_append.mp hl with hl | hl
   · rcases List.mem_append.mp hl with hl | hl
     · exact (hP l hl).2
     · exact (hL l hl).2
   · rw [List.mem_singleton] at hl; rw [hl]; exact nofun
 refine ⟨?_, fun fd => ?_, fun fd p hp hn => ?_⟩
 · rw [lnC_app]; simp [lnC]
 · rw [run_ln hfree, List.foldlM_append, List.foldlM_append, fold_silent fd (fun l hl => (hP l hl).1)]
   show Option.map _ ((List.foldlM closeL (fd, []) L).bind fun q => List.foldlM closeL q [[]]) = _
   rw [fold_lines fd [] (fun l hl => (hL l hl).1), hf, List.nil_append]
   show Option.map _ ((closeL (fd, frB m) []).bind fun q => some q) = _
   have e : closeL (fd, frB m) [] = some (fd ++ [m], []) := by
     unfold closeL
     rw [if_pos rfl, if_neg (by unfold frB; exact nofun), minG_fr hm]; rfl
   rw [e]; rfl
 · obtain ⟨G1, l, G2, q, e, rfl, hq⟩ := ln_cut hp hn
   have h1 : ∀ x ∈ G1, 10 ∉ x := fun x hx => hfree x (by rw [e]; exact List.mem_append_left _ hx)
   have h2 : 10 ∉ q := fun z => hfree l (by rw [e]; exact List.mem_append_right _ List.mem_cons_self) (hq.subset z)
   have hG : G1 <+: P ++ L := by
     have : G1 <+: P ++ L ++ [[]] := ⟨l :: G2, e.symm⟩
     refine List.prefix_of_prefix_length_le this (List.prefix_append _ _) ?_
     have := congrArg List.length e
     simp at this ⊢
     omega
   have h3 : ∃ ls, G1.foldlM closeL (fd, []) = some (fd, ls) := by
     by_cases hl : G1.length ≤ P.length
     · have : G1 <+: P := List.prefix_of_prefix_length_le hG (List.prefix_append _ _) hl
       exact ⟨[], fold_silent fd (fun x hx => (hP x (this.subset hx)).1)⟩
     · have : P <+: G1 := List.prefix_of_prefix_length_le (List.prefix_append P L) hG (by omega)
       obtain ⟨L1, rfl⟩ := this
       have hL1 : L1 <+: L := (List.prefix_append_right_inj _).mp hG
       refine ⟨[] ++ L1.filter fun l => decide (l.head? ≠ some 58), ?_⟩
       rw [List.foldlM_append, fold_silent fd (fun l hl => (hP l hl).1)]
       exact fold_lines fd [] (fun x hx => (hL x (hL1.subset hx)).1)
   obtain ⟨ls, h3⟩ := h3
   refine ⟨ls, q, ?_⟩
   rw [run_app, run_ln h1, h3]
   exact run_free h2 fd ls
theorem seg_frame {m : Msg} (hm : OkM m) : SegOk m (frC m) := by
 have := seg_of hm (P := []) (L := frB m) nofun (fun l hl => ⟨(frB_ne m l hl).1, frB_free hm l hl⟩) (List.filter_eq_self.mpr fun l hl => by simpa using (frB_ne m l hl).2)
 simpa [frC] using this
inductive Segs : List Msg → List (List Nat) → Prop
 | nil : Segs [] []
 | cons {m ms s ss} : SegOk m s → Segs ms ss → Segs (m :: ms) (s :: ss)
theorem run_segs : ∀ {ms : List Msg} {ss : List (List Nat)}, Segs ms ss → ∀ fd, rdC (fd, [], []) ss.flatten = some (fd ++ ms, [], []) := by
 intro ms ss hs
 induction hs with
 | nil => intro fd; simp [run_nil]
 | cons hm hr ih =>
   intro fd
   rw [List.flatten_cons, run_app, hm.all fd]
   show rdC (fd ++ [_], [], []) _ = _
   rw [ih]; simp
theorem segs_frames : ∀ {ms : List Msg}, (∀ m ∈ ms, OkM m) → Segs ms (ms.map frC)
 | [], _ => .nil
 | m :: r, h => .cons (seg_frame (h m List.mem_cons_self)) (segs_frames fun x hx => h x (List.mem_cons_of_mem _ hx))
end L2
namespace L2
open PySem PySem.Spec PyProof.Rows PySem.W Builtin.Str
def GMap (H : Hp) (vs : List V) : Nat → List V → Hp → Prop := fun i ys H2 => Same H H2 ∧ ys = vs.take i
section
variable {K : W.Frag} {a : Addr} {xs vs : List V} {g : TG} {tc : TT} {te : TE} {τ : St} {H : Hp}
theorem GMap.zero : GMap H vs 0 [] H := ⟨Same.refl H, by simp⟩
theorem GMap.step (ha : ∀ H', Same H H' → SqL K H' a xs) (hl : vs.length = xs.length)
   (hs : ∀ (i : Nat) x v H3 (R : VK) (N : Hp → Prop), xs[i]? = some x → vs[i]? = some v → Same H H3 → (∀ H4, Same H H4 → R v H4) → g x τ H3 fun σ4 H4 => tc σ4 H4 fun b H5 => if b = true then te σ4 H5 R else N H5) :
   ∀ i ys H2, i < xs.length → GMap H vs i ys H2 → (Itl K a).go i H2 ∧ ∀ x H3, (Itl K a).yld i H2 x H3 → g x τ H3 fun σ4 H4 => tc σ4 H4 fun b H5 => if b = true then te σ4 H5 fun y H6 => GMap H vs (i + 1) (ys ++ [y]) H6 else GMap H vs (i + 1) ys H5 := by
 rintro i ys H2 hi ⟨s2, rfl⟩
 have ec : xs[i]? = some xs[i] := List.getElem?_eq_getElem hi
 have ev : vs[i]? = some (vs[i]'(by omega)) := List.getElem?_eq_getElem (by omega)
 refine ⟨⟨xs, xs[i], ha _ s2, ec⟩, ?_⟩
 rintro x H3 ⟨rfl, hx⟩
 have hx' := hx _ (ha _ s2)
 rw [ec] at hx'
 obtain rfl := Option.some.inj hx'
 refine hs i _ _ _ _ _ ec ev s2 fun H4 s4 => ⟨s4, ?_⟩
 rw [List.take_add_one, ev]; rfl
theorem GMap.done (ha : ∀ H', Same H H' → SqL K H' a xs) (hl : vs.length = xs.length) {ys : List V} {H2 : Hp} (h : GMap H vs xs.length ys H2) : (Itl K a).stop xs.length H2 ∧ Same H H2 ∧ ys = vs := by
 obtain ⟨s2, rfl⟩ := h
 rw [List.take_of_length_le (by omega)]
 exact ⟨⟨xs, ha _ s2, Nat.le_refl _⟩, s2, rfl⟩
end
def sV (l : List Nat) : V := .str ⟨l.toArray⟩
def rdF (z : Str) (l : Addr) : List (Str × V) := [("line_begun", .str z), ("lines_begun", .ref l)]
theorem rdF_line {z : Str} {l : Addr} : (rdF z l).lookup ("line_begun" : Str) = some (V.str z) := lk_hit
theorem rdF_lines {z : Str} {l : Addr} : (rdF z l).lookup ("lines_begun" : Str) = some (V.ref l) := (lk_miss (by decide +kernel)).trans lk_hit
theorem rdF_no {z : Str} {l : Addr} {f : Str} (h1 : ¬ f = "line_begun") (h2 : ¬ f = "lines_begun") : (rdF z l).lookup f = none := (lk_miss h1).trans (lk_miss h2)
theorem rdF_make {z : Str} {l : Addr} : putF "lines_begun" (.ref l) (putF "line_begun" (.str z) []) = rdF z l := by
 show putF "lines_begun" (.ref l) [("line_begun", .str z)] = _
 rw [yq (by decide +kernel)]; rfl
theorem rdF_set {z z' : Str} {l l' : Addr} : putF "lines_begun" (.ref l') (putF "line_begun" (.str z') (rdF z l)) = rdF z' l' := by
 unfold rdF
 rw [pf_hit, yq (by decide +kernel), pf_hit]
structure DAt (C : Addr) (H : Hp) (p : Addr) (ls : List (List Nat)) (cur : List Nat) (l : Addr) : Prop where
 ob : ∃ dx, H p = some (.ins C dx (rdF ⟨cur.toArray⟩ l))
 li : H l = some (.lst (ls.map sV))
structure ReaderC (K : W.Frag) (mg : Str → Option Value) (C : Addr) : Prop where
 cl_Reader : Cls K C
 mg_Reader : mg "Reader" = some (.ref C)
 n_line_begun : NoAttr K C "line_begun"
 n_lines_begun : NoAttr K C "lines_begun"
def spDInit (C : Addr) : Sp := fun vs H Q _ => ∃ (p dx : Addr), vs = [.ref p] ∧ H p = some (.ins C dx []) ∧ ∀ l H', DAt C H' p [] [] l → Stp [p] H [p, l] H' → Q .non H'
end L2
namespace L2
open PySem PySem.Spec PyProof.Rows PySem.W Builtin.Str
theorem yY (w : Str) : w.cps.toList.length = w.length := by rw [Array.length_toList]; rfl
theorem starts_is (z y : Str) : Txt.startswith z y = decide (z.cps.toList.take y.length = y.cps.toList) := by
 by_cases h : y.length ≤ z.length
 · have e2 : Txt.startswith z y = subAt z y 0 := by
     unfold Txt.startswith
     rw [decide_eq_true (by omega : 0 + y.length ≤ z.length)]; rfl
   rw [e2]
   unfold subAt
   have e3 : z.cps.extract 0 (0 + y.length) = (z.cps.toList.take y.length).toArray := by
     apply Array.toList_inj.mp
     simp
   rw [e3]
   cases hb : ((z.cps.toList.take y.length).toArray == y.cps) with
   | true => exact (decide_eq_true (by rw [← eq_of_beq hb])).symm
   | false =>
     refine (decide_eq_false fun w => ?_).symm
     have : (z.cps.toList.take y.length).toArray = y.cps := by rw [w]
     rw [this] at hb
     simp at hb
 · have e2 : Txt.startswith z y = false := by
     unfold Txt.startswith
     rw [decide_eq_false (by omega : ¬ 0 + y.length ≤ z.length)]; rfl
   rw [e2]
   refine (decide_eq_false fun w => ?_).symm
   have := congrArg List.length w
   rw [List.length_take, yY, yY] at this
   omega
theorem starts_one (z : Str) (c : Nat) : Txt.startswith z ⟨#[c]⟩ = decide (z.cps.toList.head? = some c) := by
 rw [starts_is]
 have e : (⟨#[c]⟩ : Str).length = 1 := rfl
 rw [e]
 cases h : z.cps.toList with
 | nil => simp
 | cons a r => simp
theorem slice_drop {z : Str} {k : Nat} (h : k ≤ z.cps.toList.length) : Txt.slice z (some (k : Int)) none = ⟨(z.cps.toList.drop k).toArray⟩ := by
 have e := eq_of_beq (slice_closes_from (x := z) (i := (k : Int)) ⟨by omega, by omega⟩)
 rw [e]
 apply str_ext'
 simp only [Int.toNat_natCast]
 rw [List.take_of_length_le (by rw [List.length_drop]; omega)]
theorem same_none {H H' : Hp} {c : Addr} (s : Same H H') (h : H' c = none) : H c = none := by
 cases e : H c with
 | none => rfl
 | some o => rw [s _ _ e] at h; cases h
theorem same_upd {H H' : Hp} {c : Addr} {o : HO} (s : Same H H') (h : H c = none) : Same H (upd H' c o) := by
 intro b u hb
 rw [qv (fun e => by rw [e, h] at hb; cases hb)]
 exact s _ _ hb
theorem cut_last {xs : List V} : cutV xs none (some (-1)) = xs.dropLast := by
 unfold cutV
 rw [HT.sIx_none, List.drop_zero, Nat.sub_zero, List.dropLast_eq_take]
 congr 1
 show (if (-1 : Int) < 0 then ((-1 : Int) + (xs.length : Int)).toNat else min (-1 : Int).toNat xs.length) = _
 rw [if_pos (by decide)]
 omega
theorem slice_mid {z : Str} {i j : Int} (h0 : 0 ≤ i) (h1 : i ≤ j) (h2 : i ≤ z.cps.toList.length) : Txt.slice z (some i) (some j) = ⟨((z.cps.toList.drop i.toNat).take (j - i).toNat).toArray⟩ := by
 by_cases hj : j ≤ z.cps.toList.length
 · exact eq_of_beq (slice_closes (x := z) (i := i) (j := j) ⟨h0, h1, hj⟩)
 · have e : Txt.slice z (some i) (some j) = Txt.slice z (some i) (some (z.length : Int)) := by
     show StrLaws.sliceText z (some i) (some j) = StrLaws.sliceText z (some i) (some (z.length : Int))
     unfold StrLaws.sliceText
     have hl : (z.length : Int) = (z.cps.toList.length : Int) := by rw [yY]
     have a1 : ¬ j < 0 := by omega
     have a2 : ¬ ((z.length : Int) < 0) := by omega
     have a3 : ¬ i < 0 := by omega
     have e1 : max (0 : Int) (min j (z.length : Int)) = z.length := by omega
     have e2 : max (0 : Int) (min (z.length : Int) (z.length : Int)) = z.length := by omega
     have : strSliceIndices (some i) (some j) 1 z.length = strSliceIndices (some i) (some (z.length : Int)) 1 z.length := by
       simp [strSliceIndices, a1, a2, a3, e1, e2]
     rw [this]
   have hl : (z.length : Int) = (z.cps.toList.length : Int) := by rw [yY]
   rw [e, eq_of_beq (slice_closes (x := z) (i := i) (j := (z.length : Int)) ⟨h0, by omega, by omega⟩)]
   apply str_ext'
   simp only []
   rw [List.take_of_length_le (by rw [List.length_drop]; omega), List.take_of_length_le (by rw [List.length_drop]; omega)]
end L2
namespace L2
open PySem PySem.Spec PyProof.Rows PySem.W Builtin.Str
theorem codes_ok {x : Str} (h : ∀ c ∈ x.cps.toList, c < 1114112) : PyData.strOk x = true := by
 unfold PyData.strOk
 rw [← Array.all_toList, List.all_eq_true]
 intro c hc
 exact decide_eq_true (h c hc)
theorem OkM.mok {m : Msg} (h : OkM m) : mOk m := ⟨codes_ok fun c hc => by have := h.2.1.2.2 c hc; omega, codes_ok fun c hc => by have := h.2.2.2 c hc; omega⟩
end L2
namespace L2
open PySem PySem.Spec PyProof.Rows PySem.W
structure CalleeX (P : Program) (w : World) (K : W.Frag) (mg : Str → Option Value) (base : Heap) (k : Nat) (x : Str) (ps : List Str) (sp : Sp) : Prop where
 ex : ∃ f fd, FnOk P w K mg base (CXF P w) k f fd ps sp ∧ mg x = some (.ref f) ∧ W.keepIn K (.ref f) = true ∧ Binds K fd ps []
section
variable {X : Cx} {k : Nat} {x : Str} {ps : List Str} {sp : Sp} {e : Expr} {es : List Expr} {t : TA} {p pos : Pos} {E : XK} {σ0 : St}
theorem as_fnX (C : CalleeX X.prog X.w X.K X.mg X.base k x ps sp) (hr : Room k X.A) (hx : Passes (CXF X.prog X.w) X E) (ha : PAt X e es t) (hg : Gl X x := by rfl) (hdb : (x == ("__debug__" : Str)) = false := by decide) :
   PE X (.Call (.Name x p) (e :: es) [] pos) (tCall sp [] E t) := by
 obtain ⟨f, fd, F, hm, hk, hb⟩ := C.ex
 exact pe_call F hr hg hm hk hb .nil hx ha.all.pa hdb (ha.all.he ha.tl) (by rw [ha.tl]; exact back_any _ _ _)
end
theorem leaves_onF {M : Model} {A : Around} {E : Value → Shared → Prop} {s : Shared} {base : Heap} {env : Env} {outer : List Env} {L e : Addr} {cls a0 fl : Value} {Q : Unit → Shared → Prop}
   (hfr : A.frames = some (env :: outer)) (hf : env.frame = some L) (f1 : base.StaysIn s.heap) (f2 : base.get? e = none) (f3 : s.heap.FunFrames base (env :: outer)) (ht : s.heap.TracedAtW base e cls a0 fl)
   (hQ : ∀ h', Heap.FlyingW base outer e cls a0 h' → s.heap.UpToSlots h' → Q () { s with heap := h' }) : wpAny M A (leaving env (.ref e)) Q E s := by
 obtain ⟨oe, vs, T, oT, ts, he, ⟨hcls, h0⟩, hd, h1, hnT, hTe, hT, hdT, h3⟩ := id ht
 by_cases hb : (fl == rawInt L) = true
 · have e1 : fl = rawInt L := eq_of_beq hb
   subst e1
   unfold leaving
   refine wpAny_bind (wpAny_noteFrame_againW hf ht ?_)
   exact wpAny_landsW (l := env :: outer) (L := L) ⟨f1, f2, f3, ht⟩ fun h' fly sm => hQ h' ⟨fly.1, fly.2.1, fly.2.2.1.2.2, fly.2.2.2⟩ sm
 · subst hcls
   unfold leaving noteFrame
   simp only [hf]
   refine wpAny_bind (wpAny_bind (wpAny_field he hd h1 ?_))
   rw [if_pos (show (Value.ref T != Value.none) = true from by simp)]
   refine wpAny_bind (wpAny_field hT hdT h3 ?_)
   rw [if_neg hb]
   refine wpAny_bind (wpAny_setField hT hdT (Array.getElem?_eq_some_iff.mp h3).1 ?_)
   have other : ∀ b, b ≠ T → (s.heap.update T (Obj.mapFields (·.setIfInBounds 3 Value.none))).get? b = s.heap.get? b := fun b hb => Heap.get?_update_other _ _ (Ne.symm hb)
   have noRecord : ∀ b o, s.heap.get? b = some o → (∀ vs, o.data ≠ .fields vs) → b ≠ T := fun b o hb hnf q => by
     rw [q, hT] at hb; injection hb with hb; subst hb; exact hnf ts hdT
   refine wpAny_newEntryW hfr (f3.of_keeps fun b o hb hnf => ⟨o, (other b (noRecord b o hb hnf)).trans hb, rfl⟩) hf ((other e (Ne.symm hTe)).trans he)
     (fun b o hbo => (other b fun q => by rw [q, hnT] at hbo; cases hbo).trans (f1 b o hbo)) f2 hd (Array.getElem?_eq_some_iff.mp h1).1 h0
     fun h' ⟨x1, x2, x3, x4⟩ => hQ h' ⟨x1, f2, x2.2.2, x3⟩ fun b o hb hnf => x4 b o ((other b (noRecord b o hb hnf)).trans hb) hnf
def PassesF (X : Cx) (E : XK) : Prop := ∀ (pins : List (Addr × Obj)) (σ : St) (H : Hp) (s : Shared) (a : Addr) (cls : Value) (s' : Shared) (B : Heap) (a0 fl : Value) (Ls : List Addr), Inv X pins σ H s → s'.os = s.os → AllBare s'.gens → B.StaysIn s'.heap → B.get? a = none → s'.heap.FunFrames B X.stack → s'.heap.TracedAtW B a cls a0 fl →
 (∀ b o, s.heap.get? b = some o → b ∉ frs X.stack → b ∉ Ls → B.get? b = some o) → (∀ L ∈ Ls, X.s₀.heap.get? L = none ∧ H L = none) → s.heap.UpToSlots s'.heap → s.heap.get? a = none → H a = none → E cls none H → X.xe (.ref a) s'
theorem passF_on {P : Program} {w : World} {K : W.Frag} {mg : Str → Option Value} {base : Heap} {N : List Str} {qual : Str} {scope : Scope} {f : Addr} {cd : Value} {A : Around} {outer : List Env} {s : Shared} {H : Hp} {E : XK} :
   PassesF (cxOf (CXF P w) P w K mg base N qual scope f cd A outer s H E) E := by
 intro pins σ H1 s1 a cls s2 B a0 fl Ls I os bare b1 b2 b3 b4 cov hL sm han ha hE
 refine leaves_onF (env := envOfC qual scope s.heap.objs.size f cd) (outer := outer) I.ok.frames rfl b1 b2 b3 b4 fun h' fl2 sm2 => ?_
 refine ⟨a, cls, H1, rfl, os.trans I.os, bare, ⟨B, a0, s1.heap, s.heap.objs.size :: Ls, fl2, I.base, I.hok, fun b o ho hb hL2 => ?_, fun L z => ?_, sm.trans sm2, han⟩, ha, hE⟩
 · refine cov b o ho (fun hm => ?_) fun z => hL2 (List.mem_cons_of_mem _ z)
   have hm' : b ∈ s.heap.objs.size :: frs outer := hm
   rcases List.mem_cons.mp hm' with z | z
   · exact hL2 (by rw [z]; exact List.mem_cons_self)
   · exact hb z
 · rcases List.mem_cons.mp z with z | z
   · rw [z]; exact ⟨Heap.get?_none_of_le (Nat.le_refl _), I.free⟩
   · exact hL L z
theorem funF {h h' B B' : Heap} : ∀ {l : List Env}, (∀ b o, b ∈ frs l → h.get? b = some o → (∀ vs, o.data ≠ .fields vs) → h'.get? b = some o) → (∀ b, B.get? b = none → B'.get? b = none) → h.FunFrames B l → h'.FunFrames B' l
 | [], _, _, _ => trivial
 | env :: r, k, kb, hl => by
   obtain ⟨hk, ⟨L, o, hf, hn, ho, hd⟩, hr⟩ := hl
   refine ⟨hk, ⟨L, o, hf, kb L hn, k L o ?_ ho hd, hd⟩, funF (fun b o hb => k b o ?_) kb hr⟩
   · exact List.mem_filterMap.mpr ⟨env, List.mem_cons_self, hf⟩
   · obtain ⟨e, he, hfe⟩ := List.mem_filterMap.mp hb
     exact List.mem_filterMap.mpr ⟨e, List.mem_cons_of_mem _ he, hfe⟩
def Cx.blkX (X : Cx) (E : XK) (scope : Scope) (N' : List Str) (C : Addr) (s₂ : Shared) (H₂ : Hp) (ex : List Addr) : Cx :=
 { X.blk scope N' C s₂ H₂ ex with xe := fun e s' => ∃ pins0 σ0 H0 s0, Inv (X.blk scope N' C s₂ H₂ ex) pins0 σ0 H0 s0 ∧ CXF X.prog X.w X.stack H0 s0 E e s' }
section
variable {X : Cx} {E : XK} {scope : Scope} {N' : List Str} {ix : List (Option Nat)} {C D : Addr} {s₂ : Shared} {H₂ : Hp} {ex fp : List Addr} {pins : List (Addr × Obj)} {σ : St} {H : Hp} {s : Shared}
theorem Inv.toX (I : Inv (X.blk scope N' C s₂ H₂ ex) pins σ H s) : Inv (X.blkX E scope N' C s₂ H₂ ex) pins σ H s :=
 ⟨⟨I.ok.mod, I.ok.kind, I.ok.glob, I.ok.blt, I.ok.above, I.ok.inj, I.ok.has, I.ok.cab, I.ok.hd, I.ok.frames, I.ok.stk, I.ok.exf, I.ok.bs, I.ok.bsz, I.ok.noex, I.ok.exfs, I.ok.funs, I.ok.frf⟩, I.os, I.bare, I.base, I.loc, I.cell, I.free, I.freeC, I.pin, I.hok, I.len⟩
theorem Inv.unX (I : Inv (X.blkX E scope N' C s₂ H₂ ex) pins σ H s) : Inv (X.blk scope N' C s₂ H₂ ex) pins σ H s :=
 ⟨⟨I.ok.mod, I.ok.kind, I.ok.glob, I.ok.blt, I.ok.above, I.ok.inj, I.ok.has, I.ok.cab, I.ok.hd, I.ok.frames, I.ok.stk, I.ok.exf, I.ok.bs, I.ok.bsz, I.ok.noex, I.ok.exfs, I.ok.funs, I.ok.frf⟩, I.os, I.bare, I.base, I.loc, I.cell, I.free, I.freeC, I.pin, I.hok, I.len⟩
theorem pass_blk : Passes (CXF X.prog X.w) (X.blkX E scope N' C s₂ H₂ ex) E := fun pins σ H s e s' I h => ⟨pins, σ, H, s, I.unX, h⟩
theorem blk_err {use : Option (Value → Sem Unit)} {QQ : Value → Shared → Prop} {acc : Value} {s' : Shared} {e : Value} (I : Inv X pins σ H₂ s₂) (S : CompScope X scope N' ix) (hD : s₂.heap.objs.size ≤ D) (hDC : D < C) (hf : ∀ b ∈ fp, FpOk X pins H₂ b)
   (hF : PassesF X E) (hst : X.stack = X.env :: X.outer) (hfr : X.env.frame = some X.env.locals) (hex : X.ex = []) (h : (X.blkX E scope N' C s₂ H₂ (D :: fp)).xe e s') :
   notedBy (model X.prog X.w) X.A (compEnvC scope (clOf X.env.cells scope.names []) C X.env) (fun x s'' => compPost (model X.prog X.w) X.A X.xe use QQ acc C (.error x) s'') e s' := by
 obtain ⟨pins0, σ0, H0, s0, I0, a, cls, H', rfl, os, bare, ⟨B, a0, hr, Ls, fl, un, hok, cov, hL, sm, han⟩, ha, hE⟩ := h
 have hCs : s₂.heap.objs.size ≤ C := Nat.le_of_lt (Nat.lt_of_le_of_lt hD hDC)
 obtain ⟨m, hn, _⟩ := id I0.loc
 obtain ⟨oC, es, ep, hoC, hdC, rC⟩ := id hn
 have hbase : Un (frs X.stack) (D :: fp) H₂ H0 s₂.heap s0.heap := I0.base
 have hH0C : H0 C = none := I0.free
 have hCfr : C ∉ frs X.stack := fun hm => by
   obtain ⟨_, o, ho, _⟩ := I.stack.mem hm
   exact absurd (Nat.lt_of_lt_of_le (Heap.lt_size ho) hCs) (Nat.lt_irrefl _)
 have hrC : hr.get? C = some oC := un.keep C oC hoC hH0C hCfr (by simp)
 have hH'C : H' C = none := un.free C oC hoC hH0C (by simp)
 have hBC : B.get? C = some oC := cov C oC hrC hCfr fun z => by
   have q := (hL C z).1
   have hoC' : s0.heap.get? C = some oC := hoC
   rw [hoC'] at q; cases q
 have haC : a ≠ C := fun z => by rw [z, hrC] at han; cases han
 show wpAny _ X.A (noteFrame (.ref a) X.env) _ _ s'
 refine wpAny_looks_onW (env := X.env) (outer := X.outer) (by rw [I.ok.frames, hst]) hfr (by rw [← hst]; exact fl) fun h4 held4 sm4 => ?_
 obtain ⟨k1, k2, k3, k4⟩ := held4
 have smX : hr.UpToSlots h4 := sm.trans sm4
 obtain ⟨oe, vs, T, oT, ts, he, hcls, hd, h1, hnT, hTe, hT, hdT, h3⟩ := k4
 have hTC : T ≠ C := fun z => by rw [z, hBC] at hnT; cases hnT
 have nC : ∀ b o, s₂.heap.get? b = some o → b ≠ C := fun b o e => Nat.ne_of_lt (Nat.lt_of_lt_of_le (Heap.lt_size e) hCs)
 have nx : ∀ b o, s₂.heap.get? b = some o → b ∉ fp → b ∉ D :: fp := fun b o e hb z => by
   rcases List.mem_cons.mp z with q | q
   · exact Nat.ne_of_lt (Nat.lt_of_lt_of_le (Heap.lt_size e) hD) q
   · exact hb q
 have key : ∃ m, h4.Ns C m ∧ ∀ h', Heap.SameBut C h4 h' → ∀ cenv : Env, cenv.locals = C → wpAny (model X.prog X.w) X.A (PySem.passOn "comprehension.variables-let-go" (.ref a) cenv : Sem Value) (fun _ _ => False) X.xe { s' with heap := h' } := by
   refine ⟨m, smX.ns ⟨oC, es, ep, hrC, hdC, rC⟩, fun h5 sb cenv hc => ?_⟩
   have he5 : h5.get? a = some oe := (sb.2 a haC).trans he
   have hT5 : h5.get? T = some oT := (sb.2 T hTC).trans hT
   unfold PySem.passOn
   refine wpAny_bind (wpAny_field he5 hd h1 ?_)
   rw [if_neg (show ¬ ((Value.ref T == Value.none) = true) from by simp)]
   refine wpAny_bind ?_
   unfold setFlight
   refine wpAny_bind (wpAny_field he5 hd h1 ?_)
   rw [if_pos (show (Value.ref T != Value.none) = true from by simp)]
   refine wpAny_setField hT5 hdT (Array.getElem?_eq_some_iff.mp h3).1 ?_
   generalize (cenv.frame.elim Value.none fun f => rawInt f) = vf
   refine wpAny_throw ?_
   have oth : ∀ b, b ≠ T → (h5.update T (Obj.mapFields (·.setIfInBounds 3 vf))).get? b = h5.get? b := fun b hb => Heap.get?_update_other _ _ (Ne.symm hb)
   have hself := Heap.get?_update_self (Obj.mapFields (·.setIfInBounds 3 vf)) hT5 (Obj.isFreed_of_fields (Obj.data_mapFields hdT _))
   have hI : Inv X pins σ H' { s' with heap := hideAll hr [C] } := by
     refine I.call' (ch := fp) (s' := { s' with heap := hideAll hr [C] }) (os.trans I0.os) ⟨fun b o e n hb hx => ?_, fun b o e n hb hx => ?_, fun b o e n hx => ?_, fun b o e hx => ?_, fun b xs e => ?_, fun b o u e => ?_, fun b ps e => ?_⟩ (fun b u e => ?_) bare (fun b hb => ⟨(hf b hb).2.2.2.1, (hf b hb).2.1, (hf b hb).2.2.2.2.1, (hf b hb).2.2.2.2.2⟩)
     · exact hideAll_get _ (un.keep b o (hbase.keep b o e n hb (nx b o e hx)) (hbase.free b o e n (nx b o e hx)) hb (by simp)) (by simpa using nC b o e)
     · obtain ⟨sl, q⟩ := hbase.slot b o e n hb (nx b o e hx)
       obtain ⟨sl2, q2⟩ := un.slot b _ q (hbase.free b o e n (nx b o e hx)) hb (by simp)
       exact ⟨sl2, hideAll_get _ q2 (by simpa using nC b o e)⟩
     · obtain ⟨o', q⟩ := hbase.there b o e (nx b o e hx)
       exact un.free b o' q (hbase.free b o e n (nx b o e hx)) (by simp)
     · obtain ⟨o', q⟩ := hbase.there b o e (nx b o e hx)
       obtain ⟨o2, q2⟩ := un.there b o' q (by simp)
       exact ⟨o2, hideAll_get _ q2 (by simpa using nC b o e)⟩
     · exact un.tups b xs (hbase.tups b xs e)
     · exact un.frzs b o u (hbase.frzs b o u e)
     · obtain ⟨m1, q1⟩ := hbase.tbls b ps e
       obtain ⟨m2, q2⟩ := un.tbls b _ q1
       exact ⟨m1 ++ m2, by rw [← Array.append_assoc]; exact q2⟩
     · refine (hok b u e).stay (fun c v hc q => hideAll_get _ q ?_) (fun _ q => q) fun _ _ q => q
       rw [List.mem_singleton]
       intro hcC
       rcases hc with z | z
       · rw [← z, hcC, hH'C] at e; cases e
       · rw [hcC, hH'C] at z; cases z
   have bC : ∀ {h : Heap} {b : Addr} {o : Obj}, (hideAll h [C]).get? b = some o → b ≠ C := fun {h b o} q z => by
     rw [hideAll_none (l := [C]) (h := h) (b := b) (by simp [z])] at q; cases q
   refine hF pins σ H' _ a cls _ (hideAll B [C]) a0 vf Ls hI rfl bare (fun b o hb => ?_) ?_ ?_ ⟨oe, vs, T, _, _, ?_, hcls, hd, h1, ?_, hTe, hself, Obj.data_mapFields hdT _, ?_⟩ (fun b o hb hfr2 hls => hideAll_get _ (cov b o (of_hideAll _ hb) hfr2 hls) (by simpa using bC hb)) (fun L z => ⟨?_, (hL L z).2⟩) (fun b o hb hnf => ?_) ?_ ha hE
   · have hb' := of_hideAll _ hb
     have bT : b ≠ T := fun z => by rw [z, hnT] at hb'; cases hb'
     exact (oth b bT).trans ((sb.2 b (bC hb)).trans (k1 b o hb'))
   · cases q : (hideAll B [C]).get? a with
     | none => rfl
     | some o => have := of_hideAll _ q; rw [k2] at this; cases this
   · rw [hst] at hCfr ⊢
     refine funF (fun b o hb ho hnf => ?_) (fun b hb => ?_) k3
     · have bT : b ≠ T := fun z => by
         rw [z, hT] at ho
         injection ho with ho
         subst ho
         exact hnf ts hdT
       have bc : b ≠ C := fun z => hCfr (by rw [← z]; exact hb)
       exact (oth b bT).trans ((sb.2 b bc).trans ho)
     · cases q : (hideAll B [C]).get? b with
       | none => rfl
       | some o => have := of_hideAll _ q; rw [hb] at this; cases this
   · exact (oth a (Ne.symm hTe)).trans he5
   · cases q : (hideAll B [C]).get? T with
     | none => rfl
     | some o => have := of_hideAll _ q; rw [hnT] at this; cases this
   · have := (Array.getElem?_eq_some_iff.mp h3).1
     simp [this]
   · cases q : X.s₀.heap.get? L with
     | none => rfl
     | some o =>
       exfalso
       obtain ⟨o1, q1⟩ := I.base.there L o q (by rw [hex]; simp)
       by_cases hfp : L ∈ fp
       · rcases (hf L hfp).2.2.2.1 with z | z
         · rw [hex] at z; cases z
         · exact absurd (Nat.lt_of_lt_of_le (Heap.lt_size q) z) (Nat.lt_irrefl _)
       · obtain ⟨o2, q2⟩ := hbase.there L o1 q1 (nx L o1 q1 hfp)
         rw [(hL L z).1] at q2; cases q2
   · have hb' := of_hideAll _ hb
     obtain ⟨sl, q⟩ := smX b o hb' hnf
     have bT : b ≠ T := fun z => by
       rw [z, hT] at q
       injection q with q
       rw [q] at hdT
       exact hnf ts hdT
     exact ⟨sl, (oth b bT).trans ((sb.2 b (bC hb)).trans q)⟩
   · cases q : (hideAll hr [C]).get? a with
     | none => rfl
     | some o => have := of_hideAll _ q; rw [han] at this; cases this
 cases use <;> exact key
end
section
variable {X : Cx} {elt iter tg : Expr} {ifs : List Expr} {scope : Scope} {pos : Pos} {N' : List Str} {ix : List (Option Nat)} {own : List Nat} {wi : TI} {g : TG} {tc : TT} {te : TE}
theorem comp_coreX {E : XK} {use : Option (Value → Sem Unit)} {QQ : Value → Shared → Prop} (hcalm : X.calm = true) (S : CompScope X scope N' ix) (hown : ∀ k ∈ own, ix[k]? = some none) (hi : PI X tg iter wi)
   (hg : ∀ C s₂ H₂ ex, PG (X.blk scope N' C s₂ H₂ ex) tg g) (hgo : TgOwn g own) (hc : ∀ C s₂ H₂ ex, PIfs (X.blk scope N' C s₂ H₂ ex) ifs tc) (he : ∀ C s₂ H₂ ex, PE (X.blkX E scope N' C s₂ H₂ ex) elt te) (hF : PassesF X E) (hst : X.stack = X.env :: X.outer) (hfr : X.env.frame = some X.env.locals) (hex : X.ex = [])
   (hs : ∀ x, foldedSetIterable iter X.env x = pure x) {pins : List (Addr × Obj)} {s : Shared} {σ : St} {H : Hp} {Q : VK} (I : Inv X pins σ H s) (h : tComp wi ix g tc te σ H Q)
   (hend : ∀ (s2 : Shared) (H2 : Hp) (fp : List Addr) (C D : Addr) (s4 : Shared) (H' : Hp) (ys : List V) (its : List Value) (k : Nat) (pins' : List (Addr × Obj)) (σ' : St), Inv X pins σ H2 s2 → s2.heap.objs.size ≤ D → D < C → (∀ b ∈ fp, FpOk X pins H2 b) →
     Inv (X.blk scope N' C s2 H2 (D :: fp)) pins' σ' H' s4 → H' D = none → ys.length ≤ sizeLine → Vals ys its → s4.heap.get? D = some { cls := .type "list", data := .seq its.toArray k } → Q (.ref D) (upd H' D (.lst ys)) →
     compPost (model X.prog X.w) X.A X.xe use QQ (.ref D) C (.ok .next) s4) (p' : Pos) :
   wpAny (model X.prog X.w) X.A (comprehension (.ListComp elt [⟨tg, iter, ifs, 0⟩] scope pos) scope X.env p' (newList []) false (eval iter X.env) use) QQ X.xe s := by
 refine wpAny_comprehension_free (use := use) (cl := clOf X.env.cells scope.names []) rfl hs (closureFor_of (blk_free I S)) S.kind S.own ?_
 refine thn (hi pins s σ H _ I h) fun v s1 h1 => thn h1 fun itv s2 h2 => ?_
 obtain ⟨it, fp, tn, J, H2, e, I2, T, st2, f2, n, Pv, hn, p0, turn, fin⟩ := h2
 subst e
 refine wpAny_newObj_type (wpAny_newFunctionEnv S.cell (by intro y hy; simp at hy) (fun h₁ hns₁ hsb₁ => ?_) S.kind)
 dsimp only at hns₁ hsb₁ ⊢
 generalize hH2 : s2.heap.push { cls := .type "list", dict := none, data := .seq ([] : List Value).toArray } = G2 at hns₁ hsb₁ ⊢
 have hC : G2.objs.size = s2.heap.objs.size + 1 := by rw [← hH2, Heap.size_push]
 have hDC : s2.heap.objs.size < G2.objs.size := by rw [hC]; exact Nat.lt_succ_self _
 have hCle : s2.heap.objs.size ≤ G2.objs.size := Nat.le_of_lt hDC
 have old : ∀ b o, s2.heap.get? b = some o → h₁.get? b = some o := fun b o e => hsb₁.extBut b o (Nat.ne_of_lt (Nat.lt_trans (Heap.lt_size e) hDC)) (Heap.get?_push_of_some _ (hH2 ▸ Heap.get?_push_of_some _ e))
 have hacc : h₁.get? s2.heap.objs.size = some { cls := .type "list", data := .seq #[] } := hsb₁.extBut _ _ (Nat.ne_of_lt hDC) (Heap.get?_push_of_some _ (hH2 ▸ Heap.get?_push_size _ rfl))
 have hDn : H2 s2.heap.objs.size = none := I2.hok.fresh (Nat.le_refl _)
 have fD : ∀ b ∈ s2.heap.objs.size :: fp, FpOk X pins H2 b := fun b hb => by
   rcases List.mem_cons.mp hb with q | q
   · rw [q]; exact I2.fpOk (Nat.le_refl _) hDn
   · exact f2 b q
 have lfp : ∀ b ∈ fp, b < s2.heap.objs.size := fun b hb => by
   obtain ⟨o, ho, _⟩ := T.obj 0 _ st2 b hb
   exact Heap.lt_size ho
 have lD : ∀ b ∈ s2.heap.objs.size :: fp, b < G2.objs.size := fun b hb => by
   rcases List.mem_cons.mp hb with q | q
   · rw [q]; exact hDC
   · exact Nat.lt_trans (lfp b q) hDC
 have I3 : Inv (X.blk scope N' G2.objs.size s2 H2 (s2.heap.objs.size :: fp)) [] (takes ix σ) H2 { s2 with heap := h₁, toks := s2.toks + ([] : List (Str × Value)).length } := blk_inv I2 S hCle fD lD old hns₁
 have st3 : tn 0 h₁ := T.keep 0 _ _ st2 fun b hb o e => old b o e
 have noxE : ∀ {α : Type} {t : Sem α} {Q' : α → Shared → Prop} {E' : Value → Shared → Prop} {s' : Shared}, wpAny (model X.prog X.w) X.A t Q' (fun _ _ => False) s' → wpAny (model X.prog X.w) X.A t Q' E' s' := fun w => wpAny_mono w (fun _ _ q => q) fun _ _ z => False.elim z
 have fpB : ∀ {H' : Hp} {pins' : List (Addr × Obj)}, (∀ b ∈ s2.heap.objs.size :: fp, H' b = none) → pins' = [] → ∀ b ∈ s2.heap.objs.size :: fp, FpOk (X.blk scope N' G2.objs.size s2 H2 (s2.heap.objs.size :: fp)) pins' H' b := by
   intro H' pins' hn' hp b hb
   subst hp
   have ok := I3.ok
   exact ⟨hn' b hb, (ok.exf b hb).1, ok.exfs b hb, .inl hb, (ok.exf b hb).2, fun p hp => nomatch hp⟩
 have loop : ∀ s3 : Shared, s3 = { s2 with heap := h₁, toks := s2.toks + ([] : List (Str × Value)).length } →
     codeAny (model X.prog X.w) X.A (.compLoop (.ListComp elt [⟨tg, iter, ifs, 0⟩] scope pos) 0 (.ref it) (.ref s2.heap.objs.size) (compEnvC scope (clOf X.env.cells scope.names []) G2.objs.size X.env))
       (compPost (model X.prog X.w) X.A X.xe use QQ (.ref s2.heap.objs.size) G2.objs.size) s3 := by
   rintro s3 rfl
   refine codeAny_loop rfl (fun mm s' => ∃ i ys its k H', mm = n - i ∧ i ≤ n ∧ ys.length ≤ i ∧ Inv (X.blk scope N' G2.objs.size s2 H2 (s2.heap.objs.size :: fp)) [] (takes ix σ) H' s' ∧ tn i s'.heap ∧
       (∀ b ∈ s2.heap.objs.size :: fp, H' b = none) ∧ Vals ys its ∧ s'.heap.get? s2.heap.objs.size = some { cls := .type "list", data := .seq its.toArray k } ∧ Pv i ys H') ?_ n
     ⟨0, [], [], _, H2, rfl, Nat.zero_le _, Nat.le_refl _, I3, st3, fun b hb => (fD b hb).1, .nil, hacc, p0⟩
   rintro mm s' ⟨i, ys, its, k, H', rfl, hin, hyl, I', st', fr', rv, hob, pv⟩
   show wpAny _ X.A ((compTurn (.ListComp elt [⟨tg, iter, ifs, 0⟩] scope pos) 0 (.ref it) (.ref s2.heap.objs.size) (compEnvC scope (clOf X.env.cells scope.names []) G2.objs.size X.env)).onRaise (fun x => do noteFrame x (compEnvC scope (clOf X.env.cells scope.names []) G2.objs.size X.env); theTreesLotGoes x)) _ _ s'
   refine wpAny_noted ?_
   rw [compTurn_list]
   refine wpAny_bind (wpAny_standAt (wpAny_bind ?_))
   have fpT : ∀ b ∈ fp, FpOk (X.blk scope N' G2.objs.size s2 H2 (s2.heap.objs.size :: fp)) [] H' b := fun b hb => fpB fr' rfl b (List.mem_cons_of_mem _ hb)
   by_cases hlt : i < n
   · obtain ⟨go, step⟩ := turn i ys H' hlt pv
     refine noxE (thn (T.item (X.blk scope N' G2.objs.size s2 H2 (s2.heap.objs.size :: fp)) rfl rfl rfl hcalm i [(s2.heap.objs.size, ({ cls := .type "list", data := .seq its.toArray k } : Obj))] s' _ H' (fun _ _ => False) (I'.pins_of fun p hp => ?_) (fun b hb => ?_) st' go) fun r s4 ⟨u, hr, h4⟩ => ?_)
     · obtain rfl := List.mem_singleton.mp hp
       refine ⟨hob, fr' _ List.mem_cons_self, Nat.ne_of_lt hDC, ?_, fun v z => ?_⟩
       · exact I3.ok.exfs _ List.mem_cons_self
       · have z' : Data.seq _ _ = Data.cell v := z
         cases z'
     · obtain ⟨f0, f1, f2', f3, f4, f5⟩ := fpT b hb
       refine ⟨f0, f1, f2', f3, f4, fun p hp => ?_⟩
       obtain rfl := List.mem_singleton.mp hp
       exact Nat.ne_of_gt (lfp b hb)
     · subst hr
       refine wpAny_bind (noxE (thn h4 fun _ s5 ⟨x, H5, I5, r5, y5, st5, fr5⟩ => ?_))
       have D5 := I5.pin (s2.heap.objs.size, ({ cls := .type "list", data := .seq its.toArray k } : Obj)) (by simp [Cx.blk])
       have fr5' : ∀ b ∈ s2.heap.objs.size :: fp, H5 b = none := fun b hb => by
         rcases List.mem_cons.mp hb with q | q
         · rw [q]; exact D5.2.1
         · exact fr5 b q
       have I5' : Inv (X.blk scope N' G2.objs.size s2 H2 (s2.heap.objs.size :: fp)) ([] ++ pinsAt (s2.heap.objs.size :: fp) s5.heap) (takes ix σ) H5 s5 :=
         (I5.pins_of (pins' := []) fun p hp => nomatch hp).pinned (fpB fr5' rfl) fun b hb => by
           rcases List.mem_cons.mp hb with q | q
           · subst q
             exact ⟨_, D5.1, D5.2.2.2.2⟩
           · exact T.obj _ _ st5 b q
       refine wpAny_bind (noxE (thn (hg _ _ _ _ _ s5 _ H5 x u _ I5' r5 (hgo _ _ _ _ (step x H5 y5))) fun _ s6 ⟨σ6, H6, I6, q6, l6, k6⟩ => ?_))
       refine wpAny_bind (noxE (thn (hc _ _ _ _ _ s6 σ6 H6 _ I6 q6) fun ok s7 ⟨H7, I7, q7⟩ => ?_))
       have back : ∀ {H8 : Hp} {s8 : Shared}, Inv (X.blk scope N' G2.objs.size s2 H2 (s2.heap.objs.size :: fp)) ([] ++ pinsAt (s2.heap.objs.size :: fp) s5.heap) σ6 H8 s8 →
           Inv (X.blk scope N' G2.objs.size s2 H2 (s2.heap.objs.size :: fp)) [] (takes ix σ) H8 s8 ∧ tn (i + 1) s8.heap ∧ (∀ b ∈ s2.heap.objs.size :: fp, H8 b = none) ∧ s8.heap.get? s2.heap.objs.size = some { cls := .type "list", data := .seq its.toArray k } := by
         intro H8 s8 I8
         have hp : ∀ b ∈ s2.heap.objs.size :: fp, ∀ o, s5.heap.get? b = some o → s8.heap.get? b = some o ∧ H8 b = none := fun b hb o e =>
           let z := I8.pin (b, o) (List.mem_append_right _ (List.mem_append_right _ (mem_pinsAt hb e)))
           ⟨z.1, z.2.1⟩
         refine ⟨(I8.pins_of (pins' := []) fun p hp => nomatch hp).weak (by rw [l6]) (fun j v ej => ?_), T.keep _ _ _ st5 (fun b hb o e => (hp b (List.mem_cons_of_mem _ hb) o e).1), fun b hb => ?_, (hp _ List.mem_cons_self _ D5.1).1⟩
         · by_cases hj : j ∈ own
           · exfalso
             have e1 : (ix[j]?).map (fun o => o.bind fun j => (σ[j]?).join) = some (some v) := by rw [← List.getElem?_map]; exact ej
             rw [hown j hj] at e1
             cases e1
           · rw [k6 j hj]; exact ej
         · rcases List.mem_cons.mp hb with q | q
           · rw [q]; exact (hp _ List.mem_cons_self _ D5.1).2
           · obtain ⟨o, ho, _⟩ := T.obj _ _ st5 b q
             exact (hp b hb o ho).2
       cases ok with
       | false =>
         have q7' : Pv (i + 1) ys H7 := by simpa using q7
         obtain ⟨b1, b2, b3, b4⟩ := back I7
         exact wpAny_pure ⟨rfl, n - (i + 1), by omega, i + 1, ys, its, k, H7, rfl, hlt, Nat.le_succ_of_le hyl, b1, b2, b3, rv, b4, q7'⟩
       | true =>
         have q7' : te σ6 H7 fun y H6 => Pv (i + 1) (ys ++ [y]) H6 := by simpa using q7
         refine wpAny_bind (wpAny_bind (wpAny_mono (he _ _ _ _ _ s7 σ6 H7 _ I7.toX q7') (fun z s8 ⟨y, H8, I8', r8, q8⟩ => ?_) (fun e9 s9 h9 => blk_err I2 S (Nat.le_refl _) hDC f2 hF hst hfr hex h9)))
         have I8 := I8'.unX
         obtain ⟨b1, b2, b3, b4⟩ := back I8
         have hsz : its.toArray.size ≤ sizeLine := by rw [List.size_toArray, ← rv.length]; omega
         refine wpAny_bind (append_at (hsz := hsz) b4 fun h9 hs9 hD9 => ?_)
         · refine wpAny_pure (wpAny_pure ⟨rfl, n - (i + 1), by omega, i + 1, ys ++ [y], its ++ [z], k + 1, H8, rfl, hlt, ?_, ?_, ?_, b3, ?_, ?_, q8⟩)
           · rw [List.length_append, List.length_singleton]; exact Nat.succ_le_succ hyl
           · have fd := fpB b3 rfl _ List.mem_cons_self
             exact b1.turned (t' := s8.toks) (fun b o hb e => hs9.extBut b o hb e) fd.1 fd.2.1 fd.2.2.2.1 fd.2.2.2.2.1 fd.2.2.2.2.2
           · exact T.keep _ _ _ b2 fun b hb o e => hs9.extBut b o (Nat.ne_of_lt (lfp b hb)) e
           · exact rv.append (.cons r8 .nil)
           · rw [hD9]; simp
   · have hieq : i = n := by omega
     subst hieq
     obtain ⟨stop, qf⟩ := fin ys H' pv
     refine noxE (thn (T.done (X.blk scope N' G2.objs.size s2 H2 (s2.heap.objs.size :: fp)) rfl rfl rfl hcalm i [(s2.heap.objs.size, ({ cls := .type "list", data := .seq its.toArray k } : Obj))] s' _ H' (fun _ _ => False) (I'.pins_of fun p hp => ?_) (fun b hb => ?_) st' stop) fun r s4 ⟨hr, I4⟩ => ?_)
     · obtain rfl := List.mem_singleton.mp hp
       refine ⟨hob, fr' _ List.mem_cons_self, Nat.ne_of_lt hDC, ?_, fun v z => ?_⟩
       · exact I3.ok.exfs _ List.mem_cons_self
       · have z' : Data.seq _ _ = Data.cell v := z
         cases z'
     · obtain ⟨f0, f1, f2', f3, f4, f5⟩ := fpT b hb
       refine ⟨f0, f1, f2', f3, f4, fun p hp => ?_⟩
       obtain rfl := List.mem_singleton.mp hp
       exact Nat.ne_of_gt (lfp b hb)
     · subst hr
       have D4 := I4.pin (s2.heap.objs.size, ({ cls := .type "list", data := .seq its.toArray k } : Obj)) (by simp [Cx.blk])
       refine wpAny_pure ?_
       exact hend s2 H2 fp _ _ s4 H' ys its k _ _ I2 (Nat.le_refl _) hDC f2 I4 D4.2.1 (Nat.le_trans hyl hn) rv D4.1 (qf _ D4.2.1)
 refine codeAny_compStart_list (loop _ rfl) (T.self X.A 0 _ _ _ st3 (loop _ rfl))
theorem pe_compX {E : XK} (hcalm : X.calm = true) (S : CompScope X scope N' ix) (hown : ∀ k ∈ own, ix[k]? = some none) (hi : PI X tg iter wi)
   (hg : ∀ C s₂ H₂ ex, PG (X.blk scope N' C s₂ H₂ ex) tg g) (hgo : TgOwn g own) (hc : ∀ C s₂ H₂ ex, PIfs (X.blk scope N' C s₂ H₂ ex) ifs tc) (he : ∀ C s₂ H₂ ex, PE (X.blkX E scope N' C s₂ H₂ ex) elt te) (hF : PassesF X E) (hst : X.stack = X.env :: X.outer := by rfl) (hfr : X.env.frame = some X.env.locals := by rfl) (hex : X.ex = [] := by rfl)
   (hs : ∀ x, foldedSetIterable iter X.env x = pure x := by intro _; rfl) :
   PE X (.ListComp elt [⟨tg, iter, ifs, 0⟩] scope pos) (tComp wi ix g tc te) := by
 intro pins s σ H Q I h
 rw [eval_ListComp]
 refine comp_coreX (use := none) hcalm S hown hi hg hgo hc he hF hst hfr hex hs I h (fun s2 H2 fp C D s4 H' ys its k pins' σ' I2 hD hDC f2 I4 hDn hl rv ho q => ?_) _
 obtain ⟨m4, hn4, _⟩ := id I4.loc
 exact ⟨m4, hn4, fun h' hs' => ⟨.ref D, upd H' D (.lst ys), blk_back I2 hD hDC f2 I4 hs' hDn hl rv ho, rfl, q⟩⟩
end
end L2
namespace L2
open PySem PySem.Spec PyProof.Rows PySem.W Builtin.Str
theorem slice_take {z : Str} {j : Int} (h : 0 ≤ j) : Txt.slice z none (some j) = ⟨(z.cps.toList.take j.toNat).toArray⟩ := by
 have e : Txt.slice z none (some j) = Txt.slice z (some 0) (some j) := by
   show StrLaws.sliceText z none (some j) = StrLaws.sliceText z (some 0) (some j)
   unfold StrLaws.sliceText
   rw [StrLaws.sliceIdx_none_lo]
 rw [e, slice_mid (by decide) h (by omega)]
 simp
theorem slice_from {z : Str} {i : Int} (h : 0 ≤ i) : Txt.slice z (some i) none = ⟨(z.cps.toList.drop i.toNat).toArray⟩ := by
 obtain ⟨k, rfl⟩ : ∃ k : Nat, i = (k : Int) := ⟨i.toNat, by omega⟩
 rw [Int.toNat_natCast]
 by_cases hk : k ≤ z.cps.toList.length
 · exact slice_drop hk
 · have hl : (z.length : Int) = (z.cps.toList.length : Int) := by rw [yY]
   have e : Txt.slice z (some (k : Int)) none = Txt.slice z (some (z.length : Int)) none := by
     show StrLaws.sliceText z (some (k : Int)) none = StrLaws.sliceText z (some (z.length : Int)) none
     unfold StrLaws.sliceText
     have a1 : ¬ ((k : Int) < 0) := by omega
     have a2 : ¬ ((z.length : Int) < 0) := by omega
     have e1 : max (0 : Int) (min (k : Int) (z.length : Int)) = z.length := by omega
     have e2 : max (0 : Int) (min (z.length : Int) (z.length : Int)) = z.length := by omega
     have : strSliceIndices (some (k : Int)) none 1 z.length = strSliceIndices (some (z.length : Int)) none 1 z.length := by
       simp [strSliceIndices, a1, a2, e1, e2]
     rw [this]
   rw [e, slice_drop (by rw [yY]; exact Nat.le_refl _)]
   rw [List.drop_of_length_le (by rw [yY]; exact Nat.le_refl _), List.drop_of_length_le (by omega)]
end L2
namespace L2
open PySem PySem.Spec PyProof.Rows PySem.W Builtin.Str
def cutAt (y : List Nat) : List Nat → Option (List Nat × List Nat)
 | [] => if y.isPrefixOf [] then some ([], []) else none
 | c :: r => if y.isPrefixOf (c :: r) then some ([], (c :: r).drop y.length) else (cutAt y r).map fun q => (c :: q.1, q.2)
theorem cutAt_at (y : List Nat) : ∀ (x : List Nat) (i : Nat), y <+: x.drop i → i ≤ x.length → (∀ k, k < i → ¬ y <+: x.drop k) → cutAt y x = some (x.take i, x.drop (i + y.length))
 | [], i, h, hi, _ => by
   have : i = 0 := by simpa using hi
   subst this
   unfold cutAt
   rw [if_pos (List.isPrefixOf_iff_prefix.mpr (by simpa using h))]
   simp
 | c :: r, 0, h, _, _ => by
   unfold cutAt
   rw [if_pos (List.isPrefixOf_iff_prefix.mpr (by simpa using h))]
   simp
 | c :: r, i + 1, h, hi, hb => by
   unfold cutAt
   have h0 := hb 0 (by omega)
   rw [if_neg (fun z => h0 (by simpa using List.isPrefixOf_iff_prefix.mp z))]
   rw [cutAt_at y r i (by simpa using h) (by simpa using hi) (fun k hk => by have := hb (k + 1) (by omega); simpa using this)]
   show some (c :: r.take i, r.drop (i + y.length)) = _
   rw [List.take_succ_cons, show i + 1 + y.length = (i + y.length) + 1 by omega, List.drop_succ_cons]
theorem cutAt_none (y : List Nat) : ∀ (x : List Nat), (∀ k, k ≤ x.length → ¬ y <+: x.drop k) → cutAt y x = none
 | [], h => by
   unfold cutAt
   rw [if_neg (fun z => h 0 (Nat.le_refl _) (by simpa using List.isPrefixOf_iff_prefix.mp z))]
 | c :: r, h => by
   unfold cutAt
   rw [if_neg (fun z => h 0 (Nat.zero_le _) (by simpa using List.isPrefixOf_iff_prefix.mp z))]
   rw [cutAt_none y r fun k hk => by have := h (k + 1) (by simp; omega); simpa using this]
   rfl
theorem at_prefix (x y : Str) (i : Nat) : StrLaws.At x y x.length i ↔ i ≤ x.cps.toList.length ∧ y.cps.toList <+: x.cps.toList.drop i := by
 have e : x.cps.extract i (i + y.length) = ((x.cps.toList.drop i).take y.length).toArray := by
   apply Array.toList_inj.mp
   simp [Array.toList_extract, List.extract_eq_drop_take]
 constructor
 · rintro ⟨h1, h2⟩
   unfold subAt at h2
   rw [e] at h2
   have h3 : ((x.cps.toList.drop i).take y.length).toArray = y.cps := eq_of_beq h2
   have h4 : (x.cps.toList.drop i).take y.length = y.cps.toList := by rw [← h3]
   refine ⟨by rw [yY]; omega, ?_⟩
   rw [← h4]
   exact List.take_prefix _ _
 · rintro ⟨h1, r, hr⟩
   have hl := congrArg List.length hr
   rw [List.length_append, List.length_drop, yY, yY] at hl
   rw [yY] at h1
   refine ⟨by omega, ?_⟩
   unfold subAt
   rw [e, ← hr, ← yY, List.take_left]
   simp
def parL (y x : List Nat) : List Nat × List Nat := (cutAt y x).getD (x, [])
theorem part_is {x y : Str} : (Txt.partition x y).1.cps.toList = (parL y.cps.toList x.cps.toList).1 ∧ (Txt.partition x y).2.2.cps.toList = (parL y.cps.toList x.cps.toList).2 := by
 rcases StrLaws.occ_head x y 1 (Nat.le_refl _) with ⟨h0, hn⟩ | ⟨i, r, h0, ha, hn⟩
 · have e : cutAt y.cps.toList x.cps.toList = none := cutAt_none _ _ fun k hk h => hn k ((at_prefix x y k).mpr ⟨hk, h⟩)
   unfold Txt.partition parL
   rw [h0, e]
   exact ⟨rfl, rfl⟩
 · obtain ⟨h1, h2⟩ := (at_prefix x y i).mp ha
   have e : cutAt y.cps.toList x.cps.toList = some (x.cps.toList.take i, x.cps.toList.drop (i + y.cps.toList.length)) := cutAt_at _ _ i h2 h1 fun k hk h => hn k hk ((at_prefix x y k).mpr ⟨by omega, h⟩)
   unfold Txt.partition parL
   rw [h0, e]
   refine ⟨?_, ?_⟩
   · show (x.cps.extract 0 i).toList = x.cps.toList.take i
     simp
   · show (x.cps.extract (i + y.length) x.length).toList = x.cps.toList.drop (i + y.cps.toList.length)
     rw [yY]
     simp [Array.toList_extract, List.extract_eq_drop_take]
     rw [List.take_of_length_le]
     rw [List.length_drop, Array.length_toList]
     exact Nat.le_refl _
theorem tup_at {h : Heap} {a : Addr} {its : Array Value} {n : Nat} (e : h.get? a = some { cls := .type "tuple", data := .seq its n }) : IsTup h a its := by
 first
   | exact ⟨_, e, rfl, ⟨_, rfl⟩⟩
   | exact ⟨_, e, ⟨rfl, ⟨_, rfl⟩⟩⟩
   | exact ⟨_, e, n, rfl, rfl⟩
   | exact ⟨_, e, rfl, rfl⟩
   | exact ⟨_, n, e, rfl, rfl⟩
section
variable {X : Cx}
def rPart : V → List V → Hp → VK → Prop := fun x vs H Q => ∃ z y, x = .str z ∧ vs = [.str y] ∧ 1 ≤ y.length ∧ z.length ≤ sizeLine ∧ ∀ p m, H p = none → Q (.ref p) (upd H p (.tup [.str ⟨(parL y.cps.toList z.cps.toList).1.toArray⟩, .str m, .str ⟨(parL y.cps.toList z.cps.toList).2.toArray⟩]))
theorem mt_partition : MtM X "str.partition" rPart := by
 intro pins s σ H x vs v us Q I rx rv h
 obtain ⟨x, y, rfl, rfl, hy1, hsz, q⟩ := h
 obtain ⟨t, rfl⟩ := rx
 obtain ⟨u, rfl, ru⟩ := rv.one
 obtain ⟨u', rfl⟩ := ru
 have hy : (y.length == 0) = false := beq_eq_false_iff_ne.mpr (by omega)
 have hp := part_is (x := x) (y := y)
 refine call_meets PySem.F.slot_str_partition (typeIs_str _ _ _) PySem.F.entry_str_partition (PySem.F.args_str_partition_2 _ _) (meets_str_partition x y t u' hy hsz) ?_
 unfold Txt.partition at hp
 cases ho : occurrences x y 0 x.length 1 with
 | nil =>
   rw [ho] at hp
   have e1 : x = ⟨(parL y.cps.toList x.cps.toList).1.toArray⟩ := str_ext' (by rw [hp.1.symm])
   have e2 : Str.empty = ⟨(parL y.cps.toList x.cps.toList).2.toArray⟩ := str_ext' (by rw [hp.2.symm])
   have qq := q s.heap.objs.size Str.empty (I.hok.fresh (Nat.le_refl _))
   rw [← e1, ← e2] at qq
   refine ⟨.ref s.heap.objs.size, _, I.laid (t' := s.toks + 1) (o := .tup [.str x, .str Str.empty, .str Str.empty]) (fun b ob q => Heap.get?_push_of_some _ q) (Nat.le_refl _) ?_, rfl, qq⟩
   exact ⟨(show 3 ≤ sizeLine by decide), _, .cons ⟨_, rfl⟩ (.cons ⟨_, rfl⟩ (.cons ⟨_, rfl⟩ .nil)), tup_at (Heap.get?_push_size _ rfl)⟩
 | cons i r =>
   rw [ho] at hp
   have e1 : strSub x 0 i = ⟨(parL y.cps.toList x.cps.toList).1.toArray⟩ := str_ext' (by rw [← hp.1])
   have e2 : strSub x (i + y.length) x.length = ⟨(parL y.cps.toList x.cps.toList).2.toArray⟩ := str_ext' (by rw [← hp.2])
   have qq := q s.heap.objs.size y (I.hok.fresh (Nat.le_refl _))
   rw [← e1, ← e2] at qq
   refine ⟨.ref s.heap.objs.size, _, I.laid (t' := s.toks + 1 + 1) (o := .tup [.str (strSub x 0 i), .str y, .str (strSub x (i + y.length) x.length)]) (fun b ob q => Heap.get?_push_of_some _ q) (Nat.le_refl _) ?_, rfl, qq⟩
   exact ⟨(show 3 ≤ sizeLine by decide), _, .cons ⟨_, rfl⟩ (.cons ⟨_, rfl⟩ (.cons ⟨_, rfl⟩ .nil)), tup_at (Heap.get?_push_size _ rfl)⟩
end
theorem eqvAll_ints : ∀ a b : List Int, PyData.eqvAll (a.map PyData.int) (b.map PyData.int) = decide (a = b)
 | [], [] => rfl
 | [], y :: b => rfl
 | x :: a, [] => rfl
 | x :: a, y :: b => by
   have e : PyData.eqvAll ((x :: a).map PyData.int) ((y :: b).map PyData.int) = ((x == y) && PyData.eqvAll (a.map PyData.int) (b.map PyData.int)) := by
     rw [List.map_cons, List.map_cons, PyData.eqvAll]; rfl
   rw [e, eqvAll_ints a b]
   by_cases h : x = y <;> by_cases h2 : a = b <;> simp [h, h2]
theorem ne_intsD {H : Hp} {a b : Addr} {ns ms : List Int} {Q : VK} (ha : H a = some (.lst (ns.map V.int))) (hb : H b = some (.lst (ms.map V.int))) (q : Q (.bl (!decide (ns = ms))) H) : rNeD (.ref a) (.ref b) H Q := by
 refine ⟨_, _, has_lst ha (hasL_ints ns), has_lst hb (hasL_ints ms), shaped_ints ns, shaped_ints ms, ?_⟩
 have e : PyData.eqv (.list (ns.map PyData.int)) (.list (ms.map PyData.int)) = decide (ns = ms) := by rw [PyData.eqv]; exact eqvAll_ints ns ms
 rw [e]; exact q
end L2
namespace L2
open PySem PySem.Spec PyProof.Rows PySem.W Builtin.Str
theorem close_all {st st' : List Msg × List (List Nat)} {line : List Nat} (h : closeL st line = some st') (h0 : ∀ m ∈ st.1, OkM m) : (∀ m ∈ st'.1, OkM m) ∧ st'.1.length ≤ st.1.length + 1 := by
 unfold closeL at h
 split at h
 · split at h
   · injection h with h; rw [← h]; exact ⟨h0, by omega⟩
   · obtain ⟨m, hm, e⟩ := Option.map_eq_some_iff.mp h
     rw [← e]
     refine ⟨fun k hk => ?_, by simp⟩
     rcases List.mem_append.mp hk with z | z
     · exact h0 k z
     · rw [List.mem_singleton.mp z]; exact (minG_some hm).2
 · split at h
   · injection h with h; rw [← h]; exact ⟨h0, by omega⟩
   · injection h with h; rw [← h]; exact ⟨h0, by simp⟩
theorem run_okm : ∀ (p : List Nat) {st st' : List Msg × List (List Nat) × List Nat}, rdC st p = some st' → (∀ m ∈ st.1, OkM m) → (∀ m ∈ st'.1, OkM m) ∧ st'.1.length ≤ st.1.length + p.length
 | [], st, st', h, h0 => by
   rw [run_nil] at h
   injection h with h
   rw [← h]
   exact ⟨h0, by simp⟩
 | c :: r, st, st', h, h0 => by
   rw [run_cons] at h
   obtain ⟨q, h1, h2⟩ := Option.bind_eq_some_iff.mp h
   unfold stepC at h1
   split at h1
   · obtain ⟨z, e1, e2⟩ := Option.map_eq_some_iff.mp h1
     have g := close_all e1 h0
     subst e2
     obtain ⟨g1, g2⟩ := run_okm r h2 g.1
     refine ⟨g1, ?_⟩
     have g3 := g.2
     simp at g2 g3 ⊢; omega
   · injection h1 with h1
     subst h1
     obtain ⟨g1, g2⟩ := run_okm r h2 h0
     refine ⟨g1, ?_⟩
     simp at g2 ⊢; omega
def rdA (cs : List Nat) : Option (List Msg) := (rdC ([], [], []) cs).bind fun st => if (st.1.map frC).flatten = cs then some st.1 else none
theorem rdA_frames {ms : List Msg} (h : ∀ m ∈ ms, OkM m) : rdA (ms.map frC).flatten = some ms := by
 unfold rdA
 rw [run_segs (segs_frames h) []]
 simp
theorem rdA_some {cs : List Nat} {ms : List Msg} (h : rdA cs = some ms) : cs = (ms.map frC).flatten ∧ ∀ m ∈ ms, OkM m := by
 unfold rdA at h
 obtain ⟨st, h1, h2⟩ := Option.bind_eq_some_iff.mp h
 split at h2
 · next e =>
   injection h2 with h2
   subst h2
   exact ⟨e.symm, (run_okm _ h1 nofun).1⟩
 · cases h2
def trF : List Nat := [116, 114, 105, 109, 58, 32]
def onL : List Nat := [111, 110]
def sepJ : List Nat := [10, 111, 110, 10, 10]
def flL (o : List Msg) : List (List Nat) := (o.map fun m => frB m ++ [[]]).flatten
def jH (n : Nat) (o : List Msg) : List (List Nat) := (trF ++ dgT n) :: [] :: flL o
def frS (o : List Msg) : List Nat := (o.map frC).flatten
def jT (n : Nat) (o k : List Msg) : List Nat := trF ++ dgT n ++ [10, 10] ++ frS o ++ (onL ++ [10, 10]) ++ frS k
theorem flL_lines (o : List Msg) : frS o = lnC (flL o) := by
 unfold frS flL
 induction o with
 | nil => rfl
 | cons m r ih => rw [List.map_cons, List.flatten_cons, ih, List.map_cons, List.flatten_cons, lnC_app]; rfl
theorem jH_lines (n : Nat) (o : List Msg) : lnC (jH n o) = trF ++ dgT n ++ [10, 10] ++ frS o := by
 unfold jH
 rw [lnC_cons, lnC_cons, flL_lines]; simp
theorem cut_hit {y x : List Nat} (h : y <+: x) : cutAt y x = some ([], x.drop y.length) := by
 cases x with
 | nil => unfold cutAt; rw [if_pos (List.isPrefixOf_iff_prefix.mpr h)]; simp
 | cons c r => unfold cutAt; rw [if_pos (List.isPrefixOf_iff_prefix.mpr h)]
theorem cut_miss {y r : List Nat} {c : Nat} (h : ¬ y <+: c :: r) : cutAt y (c :: r) = (cutAt y r).map fun q => (c :: q.1, q.2) := by
 show (if y.isPrefixOf (c :: r) then some ([], (c :: r).drop y.length) else (cutAt y r).map fun q => (c :: q.1, q.2)) = _
 rw [if_neg fun z => h (List.isPrefixOf_iff_prefix.mp z)]
theorem cut_skip {y : List Nat} : ∀ {p s : List Nat}, 10 ∉ p → cutAt (10 :: y) (p ++ s) = (cutAt (10 :: y) s).map fun q => (p ++ q.1, q.2)
 | [], s, _ => by simp
 | c :: p, s, h => by
   have hc : c ≠ 10 := fun e => h (by rw [e]; exact List.mem_cons_self)
   rw [List.cons_append, cut_miss (fun ⟨t, e⟩ => by injection e with e _; exact hc e.symm), cut_skip (fun z => h (List.mem_cons_of_mem _ z)), Option.map_map]
   rfl
theorem cut_two {p r : List Nat} (h : 10 ∉ p) : cutAt [10, 10] (p ++ 10 :: 10 :: r) = some (p, r) := by
 rw [cut_skip h, cut_hit (y := [10, 10]) (x := 10 :: 10 :: r) ⟨r, rfl⟩]; simp
theorem not_on {l s : List Nat} (h : l ≠ onL) (h10 : 10 ∉ l) : ¬ [111, 110, 10, 10] <+: l ++ 10 :: s := by
 rintro ⟨t, e⟩
 match l, h, h10, e with
 | [], _, _, e => injection e with e _; cases e
 | [a], _, _, e =>
   injection e with _ e
   injection e with e _
   cases e
 | [a, b], h, _, e =>
   injection e with e1 e
   injection e with e2 _
   exact h (by rw [← e1, ← e2]; rfl)
 | a :: b :: c :: r, _, h10, e =>
   injection e with _ e
   injection e with _ e
   injection e with e _
   exact h10 (by rw [← e]; simp)
theorem cut_on : ∀ {W : List (List Nat)} {r : List Nat}, W ≠ [] → (∀ l ∈ W, l ≠ onL ∧ 10 ∉ l) → cutAt sepJ (lnC W ++ ((onL ++ [10, 10]) ++ r)) = some (jn W, r)
 | [], _, h, _ => absurd rfl h
 | [l], r, _, h => by
   rw [lnC_cons, List.append_assoc]
   show cutAt (10 :: [111, 110, 10, 10]) (l ++ (10 :: ([] ++ ((onL ++ [10, 10]) ++ r)))) = _
   rw [cut_skip (h l List.mem_cons_self).2, cut_hit (y := 10 :: [111, 110, 10, 10]) (x := 10 :: ([] ++ ((onL ++ [10, 10]) ++ r))) ⟨r, rfl⟩]
   simp [jn, onL]
 | l :: l2 :: W, r, _, h => by
   have h2 := h l2 (List.mem_cons_of_mem _ List.mem_cons_self)
   have ih := cut_on (W := l2 :: W) (r := r) (List.cons_ne_nil _ _) fun x hx => h x (List.mem_cons_of_mem _ hx)
   rw [lnC_cons, List.append_assoc]
   show cutAt (10 :: [111, 110, 10, 10]) (l ++ (10 :: (lnC (l2 :: W) ++ ((onL ++ [10, 10]) ++ r)))) = _
   rw [cut_skip (h l List.mem_cons_self).2, cut_miss, show cutAt (10 :: [111, 110, 10, 10]) (lnC (l2 :: W) ++ ((onL ++ [10, 10]) ++ r)) = _ from ih]
   · show some (l ++ 10 :: jn (l2 :: W), r) = _
     rfl
   · rintro ⟨t, e⟩
     injection e with _ e
     refine not_on (s := lnC W ++ ((onL ++ [10, 10]) ++ r)) h2.1 h2.2 ⟨t, ?_⟩
     rw [lnC_cons] at e
     simpa using e
theorem jn_ln : ∀ {W : List (List Nat)}, W ≠ [] → jn W ++ [10] = lnC W
 | [], h => absurd rfl h
 | [l], _ => by simp [jn, lnC]
 | l :: l2 :: W, _ => by
   have := jn_ln (W := l2 :: W) (List.cons_ne_nil _ _)
   rw [lnC_cons, ← this]
   show (l ++ 10 :: jn (l2 :: W)) ++ [10] = _
   simp
def trimN (h : List Nat) : Option Nat := if h = trF ++ dgT (digN (h.drop 6)) ∧ digN (h.drop 6) ≤ 999999 then some (digN (h.drop 6)) else none
theorem trimN_is {n : Nat} (h : n ≤ 999999) : trimN (trF ++ dgT n) = some n := by
 have e : (trF ++ dgT n).drop 6 = dgT n := rfl
 unfold trimN
 rw [e, dgT_val, if_pos ⟨rfl, h⟩]
theorem trimN_some {h : List Nat} {n : Nat} (e : trimN h = some n) : h = trF ++ dgT n ∧ n ≤ 999999 := by
 unfold trimN at e
 split at e
 · next q => injection e with e; rw [← e]; exact q
 · cases e
def maxO (o : List Msg) : Int := o.foldl (fun a m => max a m.n) 0
def fitJ (n : Nat) (o k : List Msg) : Prop := (o.map (·.n)).Pairwise (· < ·) ∧ maxO o = (n : Int) ∧ k.map (·.n) = (List.range k.length).map fun (j : Nat) => (n : Int) + 1 + (j : Int)
instance (n : Nat) (o k : List Msg) : Decidable (fitJ n o k) := by unfold fitJ; infer_instance
theorem maxO_ge : ∀ (o : List Msg) (a : Int), a ≤ o.foldl (fun a m => max a m.n) a ∧ ∀ m ∈ o, m.n ≤ o.foldl (fun a m => max a m.n) a
 | [], a => ⟨Int.le_refl _, nofun⟩
 | m :: r, a => by
   obtain ⟨h1, h2⟩ := maxO_ge r (max a m.n)
   rw [List.foldl_cons]
   refine ⟨by omega, fun k hk => ?_⟩
   rcases List.mem_cons.mp hk with rfl | hk
   · omega
   · exact h2 k hk
theorem maxO_in : ∀ (o : List Msg) (a : Int), o.foldl (fun a m => max a m.n) a = a ∨ ∃ m ∈ o, m.n = o.foldl (fun a m => max a m.n) a
 | [], a => .inl rfl
 | m :: r, a => by
   rw [List.foldl_cons]
   rcases maxO_in r (max a m.n) with h | ⟨k, hk, h⟩
   · rw [h]
     by_cases z : a ≤ m.n
     · exact .inr ⟨m, List.mem_cons_self, by omega⟩
     · exact .inl (by omega)
   · exact .inr ⟨k, List.mem_cons_of_mem _ hk, h⟩
theorem maxO_is {o : List Msg} {M : Int} (h1 : ∀ m ∈ o, 1 ≤ m.n) (hM : M ∈ o.map (·.n)) (h : ∀ a ∈ o.map (·.n), a ≤ M) : maxO o = M := by
 obtain ⟨m, hm, rfl⟩ := List.mem_map.mp hM
 have g1 := (maxO_ge o 0).2 m hm
 have g0 := h1 m hm
 unfold maxO
 rcases maxO_in o 0 with e | ⟨k, hk, e⟩
 · omega
 · have := h k.n (List.mem_map.mpr ⟨k, hk, rfl⟩)
   omega
theorem rise_sort {ns ms : List Int} (hd : ms.Nodup) (h : ∀ n, n ∈ ms ↔ n ∈ ns) : ns = sortI ms ↔ ns.Pairwise (· < ·) := by
 refine ⟨fun e => ?_, fun hr => (sortI_set hd h hr).symm⟩
 rw [e]
 have h1 := sortI_nodup hd
 have h2 := sortI_rises ms
 exact (List.pairwise_and_iff.mpr ⟨h2, h1⟩).imp fun ⟨a, b⟩ => by omega
def rdJ (x : List Nat) : Option (Nat × List Msg × List Msg) :=
 let p := parL sepJ x
 let h := parL [10, 10] (p.1 ++ [10])
 (trimN h.1).bind fun n => (rdA h.2).bind fun o => (rdA p.2).bind fun k => if fitJ n o k ∧ jT n (yB o) k = x then some (n, o, k) else none
theorem fl_free {o : List Msg} (h : ∀ m ∈ o, OkM m) : ∀ l ∈ flL o, l ≠ onL ∧ 10 ∉ l := fun l hl => by
 obtain ⟨L, hL, hl⟩ := List.mem_flatten.mp hl
 obtain ⟨m, hm, rfl⟩ := List.mem_map.mp hL
 rcases List.mem_append.mp hl with hl | hl
 · refine ⟨fun e => ?_, frB_free (h m hm) l hl⟩
   subst e
   unfold frB at hl
   rcases List.mem_cons.mp hl with e | hl
   · cases e
   rcases List.mem_cons.mp hl with e | hl
   · cases e
   obtain ⟨p, _, e⟩ := List.mem_map.mp hl
   cases e
 · rw [List.mem_singleton.mp hl]; exact ⟨nofun, nofun⟩
theorem tr_free (n : Nat) : 10 ∉ trF ++ dgT n := fun z => by
 rcases List.mem_append.mp z with z | z
 · exact absurd z (by decide)
 · exact dig_no10 (dgT_dig n) z
theorem jT_head (n : Nat) {o : List Msg} (k : List Msg) (h : ∀ m ∈ o, OkM m) : parL sepJ (jT n o k) = (jn (jH n o), frS k) := by
 have e : jT n o k = lnC (jH n o) ++ ((onL ++ [10, 10]) ++ frS k) := by
   rw [jH_lines]; unfold jT; simp
 unfold parL
 rw [e, cut_on (W := jH n o) (List.cons_ne_nil _ _)]
 · rfl
 · intro l hl
   unfold jH at hl
   rcases List.mem_cons.mp hl with rfl | hl
   · exact ⟨(fun e => by cases e), tr_free n⟩
   rcases List.mem_cons.mp hl with rfl | hl
   · exact ⟨nofun, nofun⟩
   · exact fl_free h l hl
theorem jT_ones (n : Nat) (o : List Msg) : parL [10, 10] (jn (jH n o) ++ [10]) = (trF ++ dgT n, frS o) := by
 unfold parL
 rw [jn_ln (W := jH n o) (List.cons_ne_nil _ _), jH_lines]
 have e : trF ++ dgT n ++ [10, 10] ++ frS o = (trF ++ dgT n) ++ 10 :: 10 :: frS o := by simp
 rw [e, cut_two (tr_free n)]
 rfl
end L2
namespace L2
open PySem PySem.Spec PyProof.Rows PySem.W Builtin.Str
theorem cut_eq {y : List Nat} : ∀ {x a b : List Nat}, cutAt y x = some (a, b) → x = a ++ (y ++ b)
 | [], a, b, h => by
   unfold cutAt at h
   split at h
   · next e =>
     injection h with h
     injection h with h1 h2
     subst h1; subst h2
     have := List.isPrefixOf_iff_prefix.mp e
     have : y = [] := List.prefix_nil.mp this
     rw [this]; rfl
   · cases h
 | c :: r, a, b, h => by
   unfold cutAt at h
   split at h
   · next e =>
     injection h with h
     injection h with h1 h2
     subst h1; subst h2
     obtain ⟨t, ht⟩ := List.isPrefixOf_iff_prefix.mp e
     rw [← ht, List.drop_left]; rfl
   · obtain ⟨⟨a', b'⟩, h1, h2⟩ := Option.map_eq_some_iff.mp h
     injection h2 with h2 h3
     subst h2; subst h3
     rw [cut_eq h1]; rfl
theorem parL_cnt (y x : List Nat) : (parL y x).1.count 10 + (parL y x).2.count 10 ≤ x.count 10 ∧ (parL y x).1.length + (parL y x).2.length ≤ x.length := by
 unfold parL
 cases h : cutAt y x with
 | none => simp
 | some q =>
   obtain ⟨a, b⟩ := q
   have e := cut_eq h
   show a.count 10 + b.count 10 ≤ _ ∧ a.length + b.length ≤ _
   rw [e, List.count_append, List.count_append, List.length_append, List.length_append]
   omega
theorem lnC_cnt : ∀ W : List (List Nat), W.length ≤ (lnC W).count 10
 | [] => Nat.zero_le _
 | l :: W => by
   have := lnC_cnt W
   rw [lnC_cons, List.count_append, List.count_cons_self, List.length_cons]
   omega
theorem len3' (m : Msg) : 3 ≤ (frB m).length := by
 have := List.length_pos_iff.mpr (spl_ne m.x.cps.toList)
 unfold frB; simp only [List.length_cons, List.length_map]; omega
theorem frS_cnt : ∀ o : List Msg, 4 * o.length ≤ (frS o).count 10
 | [] => Nat.zero_le _
 | m :: r => by
   have ih := frS_cnt r
   have h1 := lnC_cnt (frB m ++ [[]])
   have h2 := len3' m
   have e : frS (m :: r) = frC m ++ frS r := by unfold frS; rw [List.map_cons, List.flatten_cons]
   rw [e, List.count_append, List.length_cons]
   rw [List.length_append, List.length_singleton] at h1
   have h3 : (lnC (frB m ++ [[]])).count 10 = (frC m).count 10 := rfl
   omega
theorem rgs_at {n : Nat} {k : List Msg} (h : k.map (·.n) = (List.range k.length).map fun (j : Nat) => (n : Int) + 1 + (j : Int)) : ∀ (i : Nat) (hi : i < k.length), k[i].n = (n : Int) + 1 + (i : Int) := fun i hi => by
 have h1 : (k.map (·.n))[i]? = some k[i].n := by rw [List.getElem?_map, List.getElem?_eq_getElem hi]; rfl
 rw [h, List.getElem?_map, List.getElem?_range hi] at h1
 exact (Option.some.inj h1).symm
theorem fit_rise {n : Nat} {o k : List Msg} (h : fitJ n o k) : Rise (o ++ k) := by
 obtain ⟨h1, h2, h3⟩ := h
 refine List.pairwise_append.mpr ⟨List.pairwise_map.mp h1, ?_, fun a ha b hb => ?_⟩
 · refine List.pairwise_iff_getElem.mpr fun i j hi hj hij => ?_
   rw [rgs_at h3 i hi, rgs_at h3 j hj]; omega
 · have g := (maxO_ge o 0).2 a ha
   obtain ⟨i, hi, rfl⟩ := List.mem_iff_getElem.mp hb
   rw [rgs_at h3 i hi]
   have h2' : o.foldl (fun a m => max a m.n) 0 = (n : Int) := h2
   omega
theorem rdJ_some {x : List Nat} {n : Nat} {o k : List Msg} (h : rdJ x = some (n, o, k)) : fitJ n o k ∧ jT n (yB o) k = x ∧ (∀ m ∈ o, OkM m) ∧ (∀ m ∈ k, OkM m) ∧ n ≤ 999999 := by
 unfold rdJ at h
 dsimp only at h
 obtain ⟨n', h1, h⟩ := Option.bind_eq_some_iff.mp h
 obtain ⟨o', h2, h⟩ := Option.bind_eq_some_iff.mp h
 obtain ⟨k', h3, h⟩ := Option.bind_eq_some_iff.mp h
 split at h
 · next hc =>
   injection h with h
   injection h with e1 h
   injection h with e2 e3
   subst e1; subst e2; subst e3
   exact ⟨hc.1, hc.2, (rdA_some h2).2, (rdA_some h3).2, (trimN_some h1).2⟩
 · cases h
theorem rdJ_is {n : Nat} {o k : List Msg} (hn : n ≤ 999999) (ho : ∀ m ∈ o, OkM m) (hk : ∀ m ∈ k, OkM m) (hf : fitJ n o k) (hl : yB o = o) : rdJ (jT n o k) = some (n, o, k) := by
 unfold rdJ
 dsimp only
 rw [jT_head n k ho]
 dsimp only
 rw [jT_ones]
 dsimp only
 rw [trimN_is hn]
 show (rdA (frS o)).bind _ = _
 rw [show rdA (frS o) = some o from rdA_frames ho]
 show (rdA (frS k)).bind _ = _
 rw [show rdA (frS k) = some k from rdA_frames hk]
 show (if fitJ n o k ∧ jT n (yB o) k = jT n o k then some (n, o, k) else none) = _
 rw [hl, if_pos ⟨hf, rfl⟩]
end L2
namespace L2
open PySem PySem.Spec PyProof.Rows PySem.W Builtin.Str
theorem top_in : ∀ {A : List Msg} {k : Msg}, k ∈ A → ∃ m, Top A m ∧ m.t = k.t ∧ k.n ≤ m.n
 | [], _, h => nomatch h
 | a :: A, k, h => by
   by_cases hc : ∃ b ∈ A, b.t = k.t
   · obtain ⟨b, hb, hbt⟩ := hc
     obtain ⟨m, hm, hmt, hmn⟩ := top_in hb
     by_cases ha : a.t = k.t ∧ m.n < a.n
     · refine ⟨a, ⟨List.mem_cons_self, fun x hx hxt => ?_⟩, ha.1, ?_⟩
       · rcases List.mem_cons.mp hx with rfl | hx
         · exact Int.le_refl _
         · have := hm.2 x hx (by rw [hxt, ha.1, hmt, hbt]); omega
       · rcases List.mem_cons.mp h with rfl | h
         · exact Int.le_refl _
         · have := hm.2 k h (by rw [hmt, hbt]); omega
     · refine ⟨m, ⟨List.mem_cons_of_mem _ hm.1, fun x hx hxt => ?_⟩, by rw [hmt, hbt], ?_⟩
       · rcases List.mem_cons.mp hx with rfl | hx
         · have : ¬ m.n < x.n := fun z => ha ⟨by rw [hxt, hmt, hbt], z⟩
           omega
         · exact hm.2 x hx hxt
       · rcases List.mem_cons.mp h with rfl | h
         · have : ¬ m.n < k.n := fun z => ha ⟨rfl, z⟩
           omega
         · exact hm.2 k h (by rw [hmt, hbt])
   · have hk : k = a := by
       rcases List.mem_cons.mp h with e | h
       · exact e
       · exact absurd ⟨k, h, rfl⟩ hc
     subst hk
     refine ⟨k, ⟨List.mem_cons_self, fun x hx hxt => ?_⟩, rfl, Int.le_refl _⟩
     rcases List.mem_cons.mp hx with rfl | hx
     · exact Int.le_refl _
     · exact absurd ⟨x, hx, hxt⟩ hc
theorem lastF_mem {A : List Msg} {m : Msg} : m ∈ yB A ↔ Top A m := isTopB_mem m
theorem lastF_app {A B : List Msg} (h : Rise (A ++ B)) : yB (yB A ++ B) = yB (A ++ B) := by
 have hs : Rise (yB A ++ B) := h.sublist (List.Sublist.append_right (List.filter_sublist) _)
 refine rise_ext (lastF_lasts hs).1 (lastF_lasts h).1 fun m => ?_
 rw [lastF_mem, lastF_mem]
 refine ⟨fun ⟨h1, h2⟩ => ⟨?_, fun k hk e => ?_⟩, fun ⟨h1, h2⟩ => ⟨?_, fun k hk e => ?_⟩⟩
 · rcases List.mem_append.mp h1 with h1 | h1
   · exact List.mem_append_left _ (lastF_mem.mp h1).1
   · exact List.mem_append_right _ h1
 · rcases List.mem_append.mp hk with hk | hk
   · obtain ⟨q, hq, hqt, hqn⟩ := top_in hk
     have := h2 q (List.mem_append_left _ (lastF_mem.mpr hq)) (by rw [hqt, e])
     omega
   · exact h2 k (List.mem_append_right _ hk) e
 · rcases List.mem_append.mp h1 with h1 | h1
   · exact List.mem_append_left _ (lastF_mem.mpr ⟨h1, fun k hk e => h2 k (List.mem_append_left _ hk) e⟩)
   · exact List.mem_append_right _ h1
 · rcases List.mem_append.mp hk with hk | hk
   · exact h2 k (List.mem_append_left _ (lastF_mem.mp hk).1) e
   · exact h2 k (List.mem_append_right _ hk) e
theorem lastF_self {A : List Msg} (h : Rise A) : yB (yB A) = yB A := by
 have := lastF_app (A := A) (B := []) (by rw [List.append_nil]; exact h)
 rw [List.append_nil, List.append_nil] at this
 exact this
structure Jq (s : JS) (all : List Msg) (t : Nat) : Prop where
 g0 : 0 ≤ s.g
 g : s.g ≤ s.tr
 tr : s.tr = (t : Int)
 tl : t ≤ all.length
 told : s.told = (all.length : Int)
 kp : s.row.drop (s.tr - s.g).toNat = all.drop t
 ls : ∀ j : Nat, t ≤ j → j ≤ all.length → yB (s.on ++ s.row.take ((j : Int) - s.g).toNat) = yB (all.take j)
 ri : Rise (s.on ++ s.row)
 m : ∀ m ∈ s.on ++ s.row, OkM m
 rows : Rows all
 okm : ∀ m ∈ all, OkM m
section
variable {s : JS} {all : List Msg} {t : Nat}
theorem Jq.jok (h : Jq s all t) (h1 : s.on.length + s.row.length < 60) (h2 : s.st.length + s.sb.length < 500) : JOk s := ⟨h1, h2, h.ri⟩
theorem Jq.last (h : Jq s all t) : yB (s.on ++ s.row) = yB all := by
 have h1 := h.ls all.length h.tl (Nat.le_refl _)
 have h2 := h.told
 unfold JS.told at h2
 rw [List.take_length, show ((all.length : Int) - s.g).toNat = s.row.length by omega, List.take_length] at h1
 exact h1
theorem Jq.new : Jq js0 [] 0 where
 g0 := Int.le_refl _
 g := Int.le_refl _
 tr := rfl
 tl := Nat.le_refl _
 told := rfl
 kp := rfl
 ls := fun j _ h => by
   have : j = 0 := by simpa using h
   subst this; rfl
 ri := List.Pairwise.nil
 m := nofun
 rows := fun i hi => absurd hi (by simp)
 okm := nofun
theorem Jq.write (h : Jq s all t) {tp x : Str} (hm : OkM ⟨(all.length : Int) + 1, tp, x⟩) : Jq (onJ s (.w ⟨s.told + 1, tp, x⟩)) (all ++ [⟨(all.length : Int) + 1, tp, x⟩]) t := by
 have h2 := h.told
 rw [h2]
 have h3 := h2
 unfold JS.told at h3
 have hg := h.g
 have htr := h.tr
 have htl := h.tl
 have hge : (s.tr - s.g).toNat ≤ s.row.length := by omega
 have hlt : ∀ k ∈ s.on ++ s.row, k.n < (all.length : Int) + 1 := fun k hk => by
   have hl := h.last
   obtain ⟨q, hq, _, hn⟩ := top_in hk
   have hq2 : q ∈ yB (s.on ++ s.row) := lastF_mem.mpr hq
   rw [hl] at hq2
   have hq3 := (lastF_mem.mp hq2).1
   obtain ⟨i, hi, rfl⟩ := List.mem_iff_getElem.mp hq3
   have := h.rows i hi
   omega
 have hri : Rise (s.on ++ (s.row ++ [⟨(all.length : Int) + 1, tp, x⟩])) := by
   rw [← List.append_assoc]
   exact List.pairwise_append.mpr ⟨h.ri, List.pairwise_singleton _ _, fun a ha b hb => by rw [List.mem_singleton.mp hb]; exact hlt a ha⟩
 have hra : Rise (all ++ [⟨(all.length : Int) + 1, tp, x⟩]) := by
   refine List.pairwise_iff_getElem.mpr fun i j hi hj hij => ?_
   have hR := rows_snoc' h.rows (m := ⟨(all.length : Int) + 1, tp, x⟩) rfl
   rw [hR i hi, hR j hj]; omega
 exact {
   g0 := h.g0
   g := h.g
   tr := h.tr
   tl := by rw [List.length_append]; omega
   told := by
     show s.g + ((s.row ++ [_]).length : Int) = _
     rw [List.length_append, List.length_append, List.length_singleton]
     omega
   kp := by
     show (s.row ++ [_]).drop (s.tr - s.g).toNat = _
     rw [List.drop_append_of_le_length hge, h.kp, List.drop_append_of_le_length h.tl]
   ls := fun j h4 h5 => by
     show yB (s.on ++ (s.row ++ [_]).take ((j : Int) - s.g).toNat) = _
     rw [List.length_append, List.length_singleton] at h5
     by_cases hj : j ≤ all.length
     · rw [List.take_append_of_le_length (by omega), List.take_append_of_le_length hj]
       exact h.ls j h4 hj
     · have hj' : j = all.length + 1 := by omega
       rw [List.take_of_length_le (by rw [List.length_append, List.length_singleton]; omega), List.take_of_length_le (by rw [List.length_append, List.length_singleton]; omega)]
       rw [← List.append_assoc, ← lastF_app (by rw [List.append_assoc]; exact hri), h.last, lastF_app hra]
   ri := hri
   m := fun m hm' => by
     have hm'' : m ∈ s.on ++ (s.row ++ [⟨(all.length : Int) + 1, tp, x⟩]) := hm'
     rw [← List.append_assoc] at hm''
     rcases List.mem_append.mp hm'' with z | z
     · exact h.m m z
     · rw [List.mem_singleton.mp z]; exact hm
   rows := rows_snoc' h.rows rfl
   okm := fun m hm' => by
     rcases List.mem_append.mp hm' with z | z
     · exact h.okm m z
     · rw [List.mem_singleton.mp z]; exact hm }
theorem Jq.trim (h : Jq s all t) {n : Nat} (h1 : t ≤ n) (h2 : n ≤ all.length) : Jq (onJ s (.t s.tr (n : Int))) all n := by
 have hg := h.g
 have htr := h.tr
 have hgn : (n : Int) - s.g = (s.tr - s.g) + ((n : Int) - (t : Int)) := by omega
 exact {
   g0 := h.g0
   g := by show s.g ≤ (n : Int); omega
   tr := rfl
   tl := h2
   told := h.told
   kp := by
     show s.row.drop ((n : Int) - s.g).toNat = _
     rw [show ((n : Int) - s.g).toNat = (s.tr - s.g).toNat + (n - t) by omega, ← List.drop_drop, h.kp, List.drop_drop, show t + (n - t) = n by omega]
   ls := fun j h4 h5 => h.ls j (by omega) h5
   ri := h.ri
   m := h.m
   rows := h.rows
   okm := h.okm }
theorem rows_rise {all : List Msg} (h : Rows all) : Rise all := List.pairwise_iff_getElem.mpr fun i j hi hj hij => by rw [h i hi, h j hj]; omega
theorem Jq.fit (h : Jq s all t) : fitJ t (yB (all.take t)) (all.drop t) ∧ yB (yB (all.take t)) = yB (all.take t) ∧ (∀ m ∈ yB (all.take t), OkM m) ∧ ∀ m ∈ all.drop t, OkM m := by
 have hR := rows_rise h.rows
 have hRt : Rise (all.take t) := hR.sublist (List.take_sublist _ _)
 have hln : (all.take t).length = t := by rw [List.length_take]; have := h.tl; omega
 refine ⟨⟨List.pairwise_map.mpr (lastF_lasts hRt).1, ?_, ?_⟩, lastF_self hRt, fun m hm => h.okm m (List.mem_of_mem_take (lastF_mem.mp hm).1), fun m hm => h.okm m (List.mem_of_mem_drop hm)⟩
 · by_cases h0 : t = 0
   · subst h0; rfl
   · have ht : t - 1 < all.length := by have := h.tl; omega
     have hm : all[t - 1] ∈ all.take t := by
       refine List.mem_iff_getElem.mpr ⟨t - 1, by omega, ?_⟩
       rw [List.getElem_take]
     have hn : all[t - 1].n = (t : Int) := by rw [h.rows (t - 1) ht]; omega
     have hle : ∀ k ∈ all.take t, k.n ≤ (t : Int) := fun k hk => by
       obtain ⟨i, hi, rfl⟩ := List.mem_iff_getElem.mp hk
       rw [List.getElem_take, h.rows i (by rw [hln] at hi; omega)]
       rw [hln] at hi; omega
     refine maxO_is (fun m hm => (h.okm m (List.mem_of_mem_take (lastF_mem.mp hm).1)).1.1) (List.mem_map.mpr ⟨all[t - 1], lastF_mem.mpr ⟨hm, fun k hk _ => by rw [hn]; exact hle k hk⟩, hn⟩) fun a ha => ?_
     obtain ⟨k, hk, rfl⟩ := List.mem_map.mp ha
     exact hle k (lastF_mem.mp hk).1
 · refine List.ext_getElem (by simp) fun i h1 h2 => ?_
   rw [List.getElem_map, List.getElem_map, List.getElem_range, List.getElem_drop]
   rw [List.length_map, List.length_drop] at h1
   rw [h.rows (t + i) (by omega)]
   omega
theorem Jq.read (h : Jq s all t) : Jq ⟨(t : Int), yB (all.take t), all.drop t, (t : Int), [], []⟩ all t := by
 have hR := rows_rise h.rows
 obtain ⟨h1, h2, h3, h4⟩ := h.fit
 exact {
   g0 := Int.natCast_nonneg _
   g := Int.le_refl _
   tr := rfl
   tl := h.tl
   told := by
     show (t : Int) + ((all.drop t).length : Int) = _
     rw [List.length_drop]; have := h.tl; omega
   kp := by
     show (all.drop t).drop ((t : Int) - (t : Int)).toNat = _
     rw [Int.sub_self]; rfl
   ls := fun j h5 h6 => by
     show yB (yB (all.take t) ++ (all.drop t).take ((j : Int) - (t : Int)).toNat) = _
     have e : all.take t ++ (all.drop t).take ((j : Int) - (t : Int)).toNat = all.take j := by
       rw [show ((j : Int) - (t : Int)).toNat = j - t by omega, ← List.take_append_drop t (all.take j), List.take_take, Nat.min_eq_left h5, List.drop_take]
     rw [lastF_app (by rw [e]; exact hR.sublist (List.take_sublist _ _)), e]
   ri := by
     have hR2 : Rise (all.take t ++ all.drop t) := by rw [List.take_append_drop]; exact hR
     exact hR2.sublist (List.Sublist.append_right List.filter_sublist _)
   m := fun m hm => by
     rcases List.mem_append.mp hm with z | z
     · exact h3 m z
     · exact h4 m z
   rows := h.rows
   okm := h.okm }
end
end L2
namespace L2
open PySem PySem.Spec PySem.Calls PyProof.Rows PySem.W
theorem runs_tok {M : Model} {Γ : PySem.Ctx} {p : Pos} {t : Sem Fin} {fs : List Frame} {s s' : Shared} {e : End} (h : Runs M Γ p t fs s e s') : s.toks ≤ s'.toks := by
 induction h
 all_goals first
   | exact Nat.le_refl _
   | assumption
   | (rename_i ih; exact Nat.le_trans (Nat.le_succ _) ih)
   | (rename_i ih1 ih2; exact Nat.le_trans ih1 ih2)
   | (rename_i ih1 _ ih2; exact Nat.le_trans ih1 ih2)
   | (rename_i ih1 _ _ ih2; exact Nat.le_trans ih1 ih2)
theorem wakes_tok {M : Model} {Γ : PySem.Ctx} {p : Pos} {g : Nat} {r : Resume} {s s' : Shared} {res : GenResult} (h : Wakes M Γ p g r s res s') : s.toks ≤ s'.toks := by
 unfold Wakes at h
 split at h
 · exact h.elim
 · split at h
   · obtain ⟨e, s1, h1, _, _, rfl⟩ := h
     have z := runs_tok h1; exact z
   · obtain ⟨_, rfl⟩ := h; exact Nat.le_refl _
   · obtain ⟨_, rfl⟩ := h; exact Nat.le_refl _
 · obtain ⟨e, s1, h1, _, _, rfl⟩ := h
   have z := runs_tok h1; exact z
 · obtain ⟨_, rfl⟩ := h; exact Nat.le_refl _
 · obtain ⟨_, rfl⟩ := h; exact Nat.le_refl _
theorem wp_tok {α : Type} (M : Model) (Γ : PySem.Ctx) (t : Sem α) : ∀ (Q : α → Pos → Shared → Prop) (E : Value → Pos → Shared → Prop) (p : Pos) (s : Shared) (n : Nat), n ≤ s.toks → Sem.wp M Γ t Q E p s → Sem.wp M Γ t (fun a p' s' => Q a p' s' ∧ n ≤ s'.toks) E p s := by
 induction t with
 | pure a => exact fun Q E p s n hn h => ⟨h, hn⟩
 | raise e => exact fun Q E p s n hn h => h
 | unsupported _ => exact fun Q E p s n hn h => h
 | finish _ => exact fun Q E p s n hn h => h
 | rule _ k ih => exact fun Q E p s n hn h => ih () Q E p s n hn h
 | «at» p' k ih => exact fun Q E p s n hn h => ih () Q E p' s n hn h
 | load a _ k ih => exact fun Q E p s n hn ⟨o, e, h⟩ => ⟨o, e, ih o Q E p s n hn h⟩
 | update a _ f k ih => exact fun Q E p s n hn ⟨e, h⟩ => ⟨e, ih () Q E p _ n hn h⟩
 | loadIfAlive a k ih => exact fun Q E p s n hn h => ih _ Q E p s n hn h
 | point _ k ih => exact fun Q E p s n hn h => ih () Q E p s n hn h
 | alloc o k ih => exact fun Q E p s n hn h => ih _ Q E p _ n hn h
 | fresh k ih => exact fun Q E p s n hn h => ih _ Q E p _ n (Nat.le_succ_of_le hn) h
 | ask k ih => exact fun Q E p s n hn h => ih _ Q E p s n hn h
 | choose src m k ih => exact fun Q E p s n hn ⟨e, h⟩ => ⟨e, ih _ Q E p _ n hn h⟩
 | os q _ k ih => exact fun Q E p s n hn h => ih _ Q E p _ n hn h
 | call c h _ _ k ih => exact fun Q E p s n hn ⟨r, s', e, h⟩ => ⟨r, s', e, ih r Q E p s' n (Nat.le_trans hn (runs_tok e)) h⟩
 | handled own k ih => exact fun Q E p s n hn h => ih _ Q E p s n hn h
 | genState g k ih => exact fun Q E p s n hn ⟨st, e, h⟩ => ⟨st, e, ih _ Q E p s n hn h⟩
 | newGen c k ih => exact fun Q E p s n hn h => ih _ Q E p _ n hn h
 | resume g r _ k ih => exact fun Q E p s n hn ⟨res, s', e, h⟩ => ⟨res, s', e, ih _ Q E p s' n (Nat.le_trans hn (wakes_tok e)) h⟩
 | _ => first | exact fun Q E p s n hn h => h | (rename_i ih; exact fun Q E p s n hn h => ih _ Q E p s n hn h)
theorem wpAny_tok {α : Type} {M : Model} {A : Around} {t : Sem α} {Q : α → Shared → Prop} {E : Value → Shared → Prop} {s : Shared} (h : wpAny M A t Q E s) : wpAny M A t (fun a s' => Q a s' ∧ s.toks ≤ s'.toks) E s :=
 fun Γ p hΓ => wp_tok M Γ t _ _ p s _ (Nat.le_refl _) (h Γ p hΓ)
section
variable {X : Cx}
def PSk (X : Cx) (st : Stmt) (t : TS) : Prop :=
 ∀ (pins : List (Addr × Obj)) (s : Shared) (σ : St) (H : Hp) (D : Ends), Inv X pins σ H s → t D σ H → wpAny (model X.prog X.w) X.A (exec st X.env) (fun f s' => SP X pins D f s' ∧ 0 < s'.toks) X.xe s
def PSst (X : Cx) (st : List Stmt) (t : TS) : Prop :=
 ∀ (pins : List (Addr × Obj)) (s : Shared) (σ : St) (H : Hp) (D : Ends), 0 < s.toks → Inv X pins σ H s → t D σ H → wpAny (model X.prog X.w) X.A (execs st X.env) (SP X pins D) X.xe s
def PSt (X : Cx) (st : Stmt) (t : TS) : Prop :=
 ∀ (pins : List (Addr × Obj)) (s : Shared) (σ : St) (H : Hp) (D : Ends), 0 < s.toks → Inv X pins σ H s → t D σ H → wpAny (model X.prog X.w) X.A (exec st X.env) (SP X pins D) X.xe s
def PEt (X : Cx) (e : Expr) (t : TE) : Prop :=
 ∀ (pins : List (Addr × Obj)) (s : Shared) (σ : St) (H : Hp) (Q : VK), 0 < s.toks → Inv X pins σ H s → t σ H Q → wpAny (model X.prog X.w) X.A (eval e X.env) (EP X pins σ Q) X.xe s
theorem psk_str {i : Nat} {x z : Str} {j : Nat} {pos pos' p2 : Pos} (hN : X.N.Nodup) (hi : X.N[i]? = some x) (hx : Loc X.env.scope x) (hs : swapsWith (.Constant (.str z) j p2) (some (.Name x pos')) pos.line X.env = pure false := by rfl) (hf : X.fn x = true ∨ X.env.scope.names.lookup x = some .local := by first | exact .inl rfl | exact .inr rfl | assumption) :
   PSk X (.Assign [.Name x pos'] (.Constant (.str z) j p2) pos) (tAsg (tC (.str z)) (gName i)) := by
 intro pins s σ H D I h
 refine wpAny_Assign_Name (Calls.Constant_str ?_) hs
 refine thn (wpAny_tok (store_ok (v := .str z) (I.tok _) hN hi hx ⟨_, rfl⟩ (fun s2 I2 => (show SP X pins D .next s2 from ⟨_, H, I2, h⟩)) hf)) fun _ s2 q => ⟨q.1, Nat.lt_of_lt_of_le (Nat.succ_pos _) q.2⟩
theorem pss_consK {st : Stmt} {rest : List Stmt} {t u : TS} (h1 : PSk X st t) (h2 : PSst X rest u) : PSs X (st :: rest) (tSeq t u) := by
 intro pins s σ H D I h
 refine wpAny_execs_cons (thn (h1 pins s σ H { D with nx := u D } I h) fun f s1 q => ?_)
 obtain ⟨q, hk⟩ := q
 cases f with
 | next =>
   obtain ⟨σ', H', I', q⟩ := q
   exact h2 pins s1 σ' H' D hk I' q
 | ret v => exact q
 | brk => exact q
 | cont => exact q
theorem psst_cons {st : Stmt} {rest : List Stmt} {t u : TS} (h1 : PSt X st t) (h2 : PSs X rest u) : PSst X (st :: rest) (tSeq t u) := by
 intro pins s σ H D hk I h
 refine wpAny_execs_cons (thn (h1 pins s σ H { D with nx := u D } hk I h) fun f s1 q => ?_)
 cases f with
 | next =>
   obtain ⟨σ', H', I', q⟩ := q
   exact h2 pins s1 σ' H' D I' q
 | ret v => exact q
 | brk => exact q
 | cont => exact q
theorem pst_set {i : Nat} {x : Str} {e : Expr} {te : TE} {pos pos' : Pos} (hN : X.N.Nodup) (hi : X.N[i]? = some x) (hx : Loc X.env.scope x) (he : PEt X e te) (hs : swapsWith e (some (.Name x pos')) pos.line X.env = pure false := by rfl) (hf : X.fn x = true ∨ X.env.scope.names.lookup x = some .local := by first | exact .inl rfl | exact .inr rfl | assumption) :
   PSt X (.Assign [.Name x pos'] e pos) (tAsg te (gName i)) := by
 intro pins s σ H D hk I h
 refine wpAny_Assign_Name (thn (he pins s σ H _ hk I h) fun v s1 ⟨y, H1, I1, r1, q1⟩ => ?_) hs
 exact store_ok I1 hN hi hx r1 (fun s2 I2 => ⟨_, H1, I2, q1⟩) hf
theorem pet_op {op : Operator} {r : R2} {a b : Expr} {ta tb : TE} {pos : Pos} (ho : OpR X (binaryOp op) r) (ha : PE X a ta) (hb : PEt X b tb) : PEt X (.BinOp a op b pos) (tOp r ta tb) := by
 intro pins s σ H Q hk I h
 refine wpAny_BinOp (thn (wpAny_tok (ha pins s σ H _ I h)) fun v s1 q => ?_)
 obtain ⟨⟨x, H1, I1, r1, q1⟩, hk1⟩ := q
 refine thn (hb pins s1 σ H1 _ (Nat.lt_of_lt_of_le hk hk1) I1 q1) fun u s2 ⟨y, H2, I2, r2, q2⟩ => ?_
 exact ho pins s2 σ H2 x y v u Q I2 r1 r2 q2
def tRep (to : TE) (y z : Str) : TE := fun σ H Q => to σ H fun x H1 => ∃ u, x = .str u ∧ (y == z) = false ∧ u.length + (u.length + 1) * z.length ≤ 16777216 ∧ Q (.str (Txt.replace u y z)) H1
theorem pet_replace {o : Expr} {to : TE} {y z : Str} {j1 j2 : Nat} {p1 p2 apos cpos : Pos} (ho : PE X o to)
   (hbase : attributeBase o "replace" X.env (eval o X.env) = eval o X.env := by rfl)
   (hfew : ((backTo cpos (starEach [.Constant (.str y) j1 p1, .Constant (.str z) j2 p2] X.env)).all (fun x => !x.1) && (backToKw cpos (keywordEach [] X.env)).all (fun x => x.1.isSome)
     && decide (([.Constant (.str y) j1 p1, .Constant (.str z) j2 p2] : List Expr).length + ([] : List Keyword).length + (if ([] : List Keyword).isEmpty then 0 else 1) < 30)) = true := by rfl)
   (hline : (apos.endLine == cpos.line) = true := by rfl) (hs : starEach [.Constant (.str y) j1 p1, .Constant (.str z) j2 p2] X.env = [(false, eval (.Constant (.str y) j1 p1) X.env), (false, eval (.Constant (.str z) j2 p2) X.env)] := by rfl) :
   PEt X (.Call (.Attribute o "replace" apos) [.Constant (.str y) j1 p1, .Constant (.str z) j2 p2] [] cpos) (tRep to y z) := by
 intro pins s σ H Q hk I h
 refine wpAny_Call_method_late hbase hfew hline rfl (thn (wpAny_tok (ho pins s σ H _ I h)) fun v s1 q => ?_)
 obtain ⟨⟨x, H1, I1, r1, u, rfl, hyz, hb, q1⟩, hk1⟩ := q
 obtain ⟨t, rfl⟩ := r1
 have hk1 : 0 < s1.toks := Nat.lt_of_lt_of_le hk hk1
 refine ⟨"str", "str.replace", PySem.F.plainAttrs_str, PySem.F.slot_str_replace, PySem.F.type_str_replace, typeIs_str _ _ _, (fun a e => nomatch e), ?_⟩
 rw [hs]
 refine Calls.callWith_builtin rfl (Calls.evalArgs_plain ?_)
 show wpAny _ _ (spliced ((false, eval (.Constant (.str y) j1 p1) X.env) :: backTo cpos [(false, eval (.Constant (.str z) j2 p2) X.env)])) _ _ _
 refine Calls.spliced_cons (Calls.Constant_str ?_)
 show wpAny _ _ (spliced ((false, eval (.Constant (.str z) j2 p2) X.env) :: backTo cpos [])) _ _ _
 refine Calls.spliced_cons (Calls.Constant_str ?_)
 refine Calls.spliced_nil ?_
 exact SC.replace (show s1.toks ≠ 0 from Nat.ne_of_gt hk1) (show s1.toks + 1 ≠ 0 from Nat.succ_ne_zero _) (show s1.toks ≠ s1.toks + 1 from (Nat.succ_ne_self _).symm) hyz hb fun t' k => ⟨.str _, H1, ((I1.tok _).tok _).tok _, ⟨t', rfl⟩, q1⟩
end
structure OwnCls (K : W.Frag) (C : Addr) : Prop where
 ha : W.findIn K (.ref C) "__class__" = some (some (.builtin "object.__class__"))
 hn : W.specialIn K (.builtin "object.__class__") "__get__" = some (some (.builtin "getset_descriptor.__get__"))
 tk : W.takesIn K (.builtin "object.__class__") = some true
 hm : W.mroIn K C (.type "object") = some true
 nt : W.kitOne K (.ref C) (.type "tuple") = some false
theorem OwnCls.not_tuple {K : W.Frag} {C a dx : Addr} {H : Hp} {fs : List (Str × V)} (o : OwnCls K C) (c : Cls K C) (e : H a = some (.ins C dx fs)) : isiV K (.type "tuple") (.ref a) H false := ⟨_, .ins e c o.ha o.hn o.tk o.hm, o.nt⟩
end L2
namespace K86
open PySem L2
def top (i : Nat) : Stmt := PySem.Challenge.pw_tellroads_k86_journal_texts.main.body.getD i (.Pass ⟨0, 0, 0, 0⟩)
structure Txt (mg : Str → Option Value) : Prop where
 b_isinstance : mg "isinstance" = none
 b_int : mg "int" = none
 b_bool : mg "bool" = none
 b_str : mg "str" = none
 b_tuple : mg "tuple" = none
 b_all : mg "all" = none
 b_len : mg "len" = none
 b_range : mg "range" = none
 b_list : mg "list" = none
 b_sorted : mg "sorted" = none
 b_set : mg "set" = none
 b_max : mg "max" = none
 b_ValueError : mg "ValueError" = none
 g_LETTERS : ∃ u, mg "LETTERS" = some u ∧ RelV (.str "abcdefghijklmnopqrstuvwxyz") u
 g_TEXT_SIGNS : ∃ u, mg "TEXT_SIGNS" = some u ∧ RelV (.str "abcdefghijklmnopqrstuvwxyz \n") u
 g_GREATEST_NUMBER : ∃ u, mg "GREATEST_NUMBER" = some u ∧ RelV (.int 999999) u
 g_LONGEST_TOPIC : ∃ u, mg "LONGEST_TOPIC" = some u ∧ RelV (.int 3) u
 g_LONGEST_TEXT : ∃ u, mg "LONGEST_TEXT" = some u ∧ RelV (.int 8) u
 g_DIGITS : ∃ u, mg "DIGITS" = some u ∧ RelV (.str "0123456789") u
 g_NUMBER_FRONT : ∃ u, mg "NUMBER_FRONT" = some u ∧ RelV (.str "id: ") u
 g_TOPIC_FRONT : ∃ u, mg "TOPIC_FRONT" = some u ∧ RelV (.str "topic: ") u
 g_TEXT_FRONT : ∃ u, mg "TEXT_FRONT" = some u ∧ RelV (.str "data: ") u
 g_LEFT_OUT_FRONT : ∃ u, mg "LEFT_OUT_FRONT" = some u ∧ RelV (.str ":") u
 g_TRIM_FRONT : ∃ u, mg "TRIM_FRONT" = some u ∧ RelV (.str "trim: ") u
 g_ON_LINE : ∃ u, mg "ON_LINE" = some u ∧ RelV (.str "on\n") u
structure TxtC (K : W.Frag) (mg : Str → Option Value) (C CD : Addr) : Prop where
 R_Journal : JournalC K mg C
 R_Reader : ReaderC K mg CD
section
variable {K : W.Frag} {mg : Str → Option Value} {C CD : Addr} (h : TxtC K mg C CD)
include h
theorem TxtC.cl_Journal : Cls K C := h.R_Journal.cl_Journal
theorem TxtC.mg_Journal : mg "Journal" = some (.ref C) := h.R_Journal.mg_Journal
end
def cellF (ns : List Int) (k : Int) : Int := if ns = [] then 7 * k else ns.getD (k % (ns.length : Int)).toNat 0 + 6553 * (k / (ns.length : Int))
def draw1 (c k : Int) : Int := (c % 2147483563 * 69069 + 104723 * (k + 1)) % 2147483563
def draw2 (h : Int) : Int := (h * h + h / 3) % 2147483399
def draw3 (h m : Int) : Int := (h * h + h / 7) % 2147483647 / 11 % m
def drawnF (ns : List Int) (k m : Int) : Int := draw3 (draw2 (draw1 (cellF ns k) k)) m
theorem drawn_nn (ns : List Int) (k : Int) {m : Int} (h : 0 < m) : 0 ≤ drawnF ns k m := Int.emod_nonneg _ (by omega)
theorem drawn_lt (ns : List Int) (k : Int) {m : Int} (h : 0 < m) : drawnF ns k m < m := Int.emod_lt_of_pos _ h
def saidL (ns : List Int) (at' : Int) : List Str := (List.range (drawnF ns at' 5).toNat).map fun (k : Nat) => (⟨#[[97, 98, 32, 10, 122].getD (drawnF ns (at' + 1 + (k : Int)) 5).toNat 97]⟩ : Str)
def saidF (ns : List Int) (at' : Int) : Str := Txt.join "" (saidL ns at')
theorem saidL_len (ns : List Int) (at' : Int) : (saidL ns at').length ≤ 4 := by
 unfold saidL
 rw [List.length_map, List.length_range]
 have := drawn_nn ns at' (m := 5) (by decide)
 have := drawn_lt ns at' (m := 5) (by decide)
 omega
def spCell (K : W.Frag) : Sp := fun vs H Q _ => ∃ (a : Addr) (ns : List Int) (k : Int), vs = [.ref a, .int k] ∧ SqL K H a (ns.map V.int) ∧ ns.length ≤ 63 ∧ 0 ≤ k ∧ ∀ H', Same H H' → Q (.int (cellF ns k)) H'
def spDrawn (K : W.Frag) : Sp := fun vs H Q _ => ∃ (a : Addr) (ns : List Int) (k m : Int), vs = [.ref a, .int k, .int m] ∧ SqL K H a (ns.map V.int) ∧ ns.length ≤ 63 ∧ 0 ≤ k ∧ 0 < m ∧ ∀ H', Same H H' → Q (.int (drawnF ns k m)) H'
def spSaid (K : W.Frag) : Sp := fun vs H Q _ => ∃ (a : Addr) (ns : List Int) (k : Int), vs = [.ref a, .int k] ∧ SqL K H a (ns.map V.int) ∧ ns.length ≤ 63 ∧ 0 ≤ k ∧ ∀ H', Same H H' → Q (.str (saidF ns k)) H'
section
variable {P : Program} {w : World} {K : W.Frag} {mg : Str → Option Value} {base : Heap}
abbrev s_l_cell : Stmt := top 46
abbrev N_l_cell : List Str := ["_law_script", "_law_k"]
theorem sc_l_cell : FnScope N_l_cell ["_law_script", "_law_k"] (qQ s_l_cell) := ⟨rfl, rfl, rfl, by decide +kernel, rfl, by decide +kernel, by decide +kernel⟩
theorem ok_l_cell {f : Addr} {fd : FuncData} (F : Fun K "_law_cell" "_law_cell" s_l_cell f fd) (T : Txt mg) : FnOk P w K mg base CX0 1 f fd ["_law_script", "_law_k"] (spCell K) := by
 refine F.ok sc_l_cell (fun vs H Q E h => ?_) (fun cdv A outer s H vs Q E hr h => ?_)
 · obtain ⟨a, ns, k, rfl, _⟩ := h; rfl
 · obtain ⟨a, ns, k, rfl, hS, hlen, hk, q⟩ := h
   refine ⟨_, (qV (ps_if (yv (k_eq0 K hr.units0) (pv 0) (as_lst qZ) (nomark _)) (qM (yJ (qz op_mul qG (pv 1)))) pss_nil)
     (qM (yJ (qz op_add (pe_ix (k_ix_list K) (pv 0) (qz op_mod (pv 1) (yG (k_len_seq K) (by rfl) T.b_len PySem.boot_len (qJ (pv 0) qZ))) (fun _ _ => rfl)) (qz op_mul qG (qz op_fdiv (pv 1) (yG (k_len_seq K) (by rfl) T.b_len PySem.boot_len (qJ (pv 0) qZ)))))))), ?_⟩
   refine ⟨_, rfl, by decide, fun p hp => ?_⟩
   have s1 : Same H (upd H p (.lst [])) := Same.new hp
   refine ⟨a, p, _, rfl, rfl, s1.seq hS, SqL.ofL qY, _, rfl, ?_⟩
   refine ite2 (fun he => ?_) (fun he => ?_)
   · have e : ns = [] := by simpa using he
     refine ⟨_, rfl, _, _, rfl, rfl, .inl ⟨by decide, by decide⟩, ?_⟩
     have z := q _ s1
     unfold cellF at z
     rw [if_pos e] at z
     exact z
   · have e : ns ≠ [] := by simpa using he
     have hl : 0 < ns.length := List.length_pos_iff.mpr e
     refine ⟨_, rfl, _, rfl, _, rfl, a, _, rfl, .inl (s1.seq hS), _, _, rfl, rfl, ?_, ?_⟩
     · show (0 : Int) < ((ns.map V.int).length : Int)
       rw [List.length_map]; omega
     · have hlt : (k % (ns.length : Int)).toNat < ns.length := by
         have h1 := Int.emod_nonneg k (b := (ns.length : Int)) (by omega)
         have h2 := Int.emod_lt_of_pos k (b := (ns.length : Int)) (by omega)
         omega
       have hi : atI (ns.map V.int) (k % ((ns.map V.int).length : Int)) = some (V.int (ns.getD (k % (ns.length : Int)).toNat 0)) := by
         rw [List.length_map]
         have h1 := Int.emod_nonneg k (b := (ns.length : Int)) (by omega)
         have e2 : k % (ns.length : Int) = ((k % (ns.length : Int)).toNat : Int) := by omega
         rw [e2]
         refine atI_nat ?_
         rw [Int.toNat_natCast, List.getElem?_map, List.getElem?_eq_getElem hlt]
         simp [List.getD, List.getElem?_eq_getElem hlt]
       refine ⟨a, _, _, _, rfl, rfl, s1.seq hS, hi, _, rfl, _, rfl, a, _, rfl, .inl (s1.seq hS), _, _, rfl, rfl, ?_, _, _, rfl, rfl, .inl ⟨by decide, by decide⟩, _, _, rfl, rfl, ?_⟩
       · show (0 : Int) < ((ns.map V.int).length : Int) ∧ ((ns.map V.int).length : Int) < 1073741824
         rw [List.length_map]; omega
       · have z := q _ s1
         unfold cellF at z
         rw [if_neg e] at z
         show Q (.int (ns.getD (k % (ns.length : Int)).toNat 0 + 6553 * (k / ((ns.map V.int).length : Int)))) _
         rw [List.length_map]
         exact z
abbrev s_l_drawn : Stmt := top 47
abbrev N_l_drawn : List Str := ["_law_script", "_law_k", "_law_many", "_law_cell_here"]
theorem sc_l_drawn : FnScope N_l_drawn ["_law_script", "_law_k", "_law_many"] (qQ s_l_drawn) := ⟨rfl, rfl, rfl, by decide +kernel, rfl, by decide +kernel, by decide +kernel⟩
theorem ok_l_drawn {f : Addr} {fd : FuncData} (F : Fun K "_law_drawn" "_law_drawn" s_l_drawn f fd) (T : Txt mg) (c_l_cell : Callee P w K mg base 1 "_law_cell" ["_law_script", "_law_k"] (spCell K)) :
   FnOk P w K mg base CX0 2 f fd ["_law_script", "_law_k", "_law_many"] (spDrawn K) := by
 refine F.ok sc_l_drawn (fun vs H Q E h => ?_) (fun cdv A outer s H vs Q E hr h => ?_)
 · obtain ⟨a, ns, k, m, rfl, _⟩ := h; rfl
 · obtain ⟨a, ns, k, m, rfl, hS, hlen, hk, hm, q⟩ := h
   refine ⟨_, (qV (yV (i := 3) sc_l_drawn.nd rfl (Or.inl rfl) (qz op_mod (qz op_add (qz op_mul (qz op_mod (yy c_l_cell (hr.mono (by decide)) (qJ (pv 0) (qU (pv 1) qZ))) qG) qG) (qz op_mul qG (qz op_add (pv 1) qG))) qG))
     (qV (yV (i := 3) sc_l_drawn.nd rfl (Or.inl rfl) (qz op_mod (qz op_add (qz op_mul (pv 3) (pv 3)) (qz op_fdiv (pv 3) qG)) qG))
     (qM (yJ (qz op_mod (qz op_fdiv (qz op_mod (qz op_add (qz op_mul (pv 3) (pv 3)) (qz op_fdiv (pv 3) qG)) qG) qG) (pv 2)))))), ?_⟩
   refine ⟨_, rfl, _, rfl, a, ns, k, rfl, hS, hlen, hk, fun H1 s1 => ?_⟩
   have b1 : ∀ x : Int, 0 ≤ x % 2147483563 ∧ x % 2147483563 < 2147483563 := fun x => ⟨Int.emod_nonneg _ (by decide), Int.emod_lt_of_pos _ (by decide)⟩
   have b2 : ∀ x : Int, 0 ≤ x % 2147483399 ∧ x % 2147483399 < 2147483399 := fun x => ⟨Int.emod_nonneg _ (by decide), Int.emod_lt_of_pos _ (by decide)⟩
   refine ⟨_, _, rfl, rfl, (by decide : (0 : Int) < 2147483563), _, _, rfl, rfl, .inr ⟨by decide, by decide⟩, _, rfl, _, _, rfl, rfl, _, _, rfl, rfl, .inl ⟨by decide, by decide⟩, _, _, rfl, rfl, _, _, rfl, rfl, (by decide : (0 : Int) < 2147483563), ?_⟩
   have c1 := b1 (cellF ns k % 2147483563 * 69069 + 104723 * (k + 1))
   refine ⟨_, rfl, _, rfl, _, _, rfl, rfl, .inl ⟨?_, ?_⟩, _, rfl, _, _, rfl, rfl, ⟨by decide, by decide⟩, _, _, rfl, rfl, _, _, rfl, rfl, (by decide : (0 : Int) < 2147483399), ?_⟩
   · exact Int.lt_of_lt_of_le (by decide) c1.1
   · exact Int.lt_trans c1.2 (by decide)
   have c2 := b2 (draw1 (cellF ns k) k * draw1 (cellF ns k) k + draw1 (cellF ns k) k / 3)
   refine ⟨_, rfl, _, rfl, _, _, rfl, rfl, .inl ⟨?_, ?_⟩, _, rfl, _, _, rfl, rfl, ⟨by decide, by decide⟩, _, _, rfl, rfl, _, _, rfl, rfl, (by decide : (0 : Int) < 2147483647), _, _, rfl, rfl, ⟨by decide, by decide⟩, _, rfl, _, _, rfl, rfl, hm, ?_⟩
   · exact Int.lt_of_lt_of_le (by decide) c2.1
   · exact Int.lt_trans c2.2 (by decide)
   exact q H1 s1
abbrev s_l_said : Stmt := top 48
abbrev N_l_said : List Str := ["_law_script", "_law_at"]
theorem sc_l_said : FnScope N_l_said ["_law_script", "_law_at"] (qQ s_l_said) := ⟨rfl, rfl, rfl, by decide +kernel, rfl, by decide +kernel, by decide +kernel⟩
theorem ok_l_said {f : Addr} {fd : FuncData} (F : Fun K "_law_said" "_law_said" s_l_said f fd) (T : Txt mg) (c_l_drawn : Callee P w K mg base 2 "_law_drawn" ["_law_script", "_law_k", "_law_many"] (spDrawn K)) :
   FnOk P w K mg base CX0 3 f fd ["_law_script", "_law_at"] (spSaid K) := by
 refine F.ok sc_l_said (fun vs H Q E h => ?_) (fun cdv A outer s H vs Q E hr h => ?_)
 · obtain ⟨a, ns, k, rfl, _⟩ := h; rfl
 · obtain ⟨a, ns, k, rfl, hS, hlen, hk, q⟩ := h
   refine ⟨_, (qM (yJ (k_bm K PySem.F.plainAttrs_str PySem.F.slot_str_join PySem.F.type_str_join (k_join K) qD (yz (pe_comp (N' := ["_law_k", "_law_script", "_law_at"]) (ix := [none, some 0, some 1]) (own := [0]) rfl (cs_of (osc := qQ s_l_said) (ON := N_l_said) rfl rfl (by decide +kernel)) (by decide) (pi_range1 (by rfl) T.b_range (yz (yy c_l_drawn (hr.mono (by decide)) (qJ (pv 0) (qU (pv 1) (qU qG qZ)))) pa_nil)) (fun _ _ _ _ => (pg_name (i := 0) (show (["_law_k", "_law_script", "_law_at"] : List Str).Nodup by decide +kernel) rfl (Or.inl rfl))) own_name (fun _ _ _ _ => pifs_nil) (fun _ _ _ _ => (pe_ix ix_str qD (yy c_l_drawn (hr.mono (by decide)) (qJ (pv 1) (qU (qz op_add (qz op_add (pv 2) qG) (pv 0)) (qU qG qZ)))) (fun _ _ => rfl)))) pa_nil)))), ?_⟩
   have h0 := drawn_nn ns k (m := 5) (by decide)
   have h5 := drawn_lt ns k (m := 5) (by decide)
   refine ⟨rfl, _, rfl, _, rfl, a, ns, k, 5, rfl, hS, hlen, hk, by decide, fun H1 s1 => ⟨_, rfl, by omega, by omega, (drawnF ns k 5).toNat, fun i ys H2 => Same H H2 ∧ ys = ((saidL ns k).take i).map V.str, ?_, ⟨s1, by simp⟩, ?_, ?_⟩⟩
   · have : (drawnF ns k 5).toNat < 5 := by omega
     exact Nat.le_trans (Nat.le_of_lt this) (by decide)
   · rintro i ys H2 hi ⟨s2, rfl⟩
     refine ⟨hi, fun x H3 => ?_⟩
     rintro ⟨rfl, rfl⟩
     refine rd_name (rd_yes (iteT ?_))
     have g0 := drawn_nn ns (k + 1 + (i : Int)) (m := 5) (by decide)
     have g5 := drawn_lt ns (k + 1 + (i : Int)) (m := 5) (by decide)
     refine ⟨_, rfl, _, rfl, _, _, rfl, rfl, _, rfl, _, _, rfl, rfl, a, ns, k + 1 + (i : Int), 5, ?_, s2.seq hS, hlen, by omega, by decide, fun H4 s4 => ?_⟩
     · simp
     · have hg : atI ("ab \nz" : Str).cps.toList (drawnF ns (k + 1 + (i : Int)) 5) = some ([97, 98, 32, 10, 122].getD (drawnF ns (k + 1 + (i : Int)) 5).toNat 97) := by
         generalize drawnF ns (k + 1 + (i : Int)) 5 = x at g0 g5
         have : x = 0 ∨ x = 1 ∨ x = 2 ∨ x = 3 ∨ x = 4 := by omega
         rcases this with rfl | rfl | rfl | rfl | rfl <;> decide +kernel
       refine ⟨_, _, _, rfl, rfl, by decide, hg, s2.trans s4, ?_⟩
       have hlt : i < (saidL ns k).length := by unfold saidL; rw [List.length_map, List.length_range]; exact hi
       rw [List.take_add_one, List.getElem?_eq_getElem hlt, List.map_append]
       simp [saidL]
   · rintro ys H2 ⟨s2, rfl⟩
     refine ⟨Nat.le_refl _, fun D hD => ⟨"", D, saidL ns k, rfl, rfl, ?_, ?_, q _ (s2.trans (Same.new hD))⟩⟩
     · refine SqL.ofL ?_
       rw [qY, List.take_of_length_le]
       unfold saidL; rw [List.length_map, List.length_range]; exact Nat.le_refl _
     · have h1 := saidL_len ns k
       have h2 : ((saidL ns k).map (·.length)).sum = (saidL ns k).length := by
         unfold saidL
         rw [List.map_map]
         induction (List.range (drawnF ns k 5).toNat) with
         | nil => rfl
         | cons x r ih => simp only [List.map_cons, List.sum_cons, List.length_cons, ih]; show 1 + _ = _; omega
       have h3 : ("" : Str).length = 0 := by decide +kernel
       rw [h2, h3]; omega
end
theorem join_codes : ∀ ys : List Str, (Txt.join "" ys).cps.toList = (ys.map (·.cps.toList)).flatten := by
 have key : ∀ ys : List Str, (Str.join "" ys).cps.toList = (ys.map (·.cps.toList)).flatten := by
   intro ys
   induction ys with
   | nil => rfl
   | cons y r ih =>
     cases r with
     | nil => simp [Str.join]
     | cons z q =>
       have e : Str.join "" (y :: z :: q) = y ++ ("" : Str) ++ Str.join "" (z :: q) := rfl
       have e2 : (y ++ ("" : Str) ++ Str.join "" (z :: q)).cps.toList = y.cps.toList ++ (Str.join "" (z :: q)).cps.toList := by
         show ((y.cps ++ ("" : Str).cps) ++ (Str.join "" (z :: q)).cps).toList = _
         have e0 : ("" : Str).cps = #[] := by decide +kernel
         rw [e0]; simp
       rw [e, e2, ih]
       simp
 intro ys
 unfold Txt.join
 rw [StrLaws.glued_eq_join]
 exact key ys
theorem said_codes (ns : List Int) (k : Int) : (saidF ns k).cps.toList.length ≤ 4 ∧ ∀ c ∈ (saidF ns k).cps.toList, c = 97 ∨ c = 98 ∨ c = 32 ∨ c = 10 ∨ c = 122 := by
 unfold saidF
 rw [join_codes]
 have h0 := saidL_len ns k
 have e : ((saidL ns k).map (·.cps.toList)).flatten = (List.range (drawnF ns k 5).toNat).map fun (j : Nat) => [97, 98, 32, 10, 122].getD (drawnF ns (k + 1 + (j : Int)) 5).toNat 97 := by
   unfold saidL
   induction (List.range (drawnF ns k 5).toNat) with
   | nil => rfl
   | cons x r ih => simp only [List.map_cons, List.flatten_cons, ih]; rfl
 rw [e]
 refine ⟨?_, fun c hc => ?_⟩
 · rw [List.length_map]
   unfold saidL at h0
   rw [List.length_map] at h0
   exact h0
 · obtain ⟨j, _, rfl⟩ := List.mem_map.mp hc
   have g0 := drawn_nn ns (k + 1 + (j : Int)) (m := 5) (by decide)
   have g5 := drawn_lt ns (k + 1 + (j : Int)) (m := 5) (by decide)
   generalize drawnF ns (k + 1 + (j : Int)) 5 = x at g0 g5
   have : x = 0 ∨ x = 1 ∨ x = 2 ∨ x = 3 ∨ x = 4 := by omega
   rcases this with rfl | rfl | rfl | rfl | rfl <;> decide
section
variable {P : Program} {w : World} {K : W.Frag} {mg : Str → Option Value} {base : Heap}
abbrev s_number_of : Stmt := top 11
abbrev N_number_of : List Str := ["message"]
theorem sc_number_of : FnScope N_number_of ["message"] (qQ s_number_of) := ⟨rfl, rfl, rfl, by decide +kernel, rfl, by decide +kernel, by decide +kernel⟩
theorem ok_number_of {f : Addr} {fd : FuncData} (F : Fun K "number_of" "number_of" s_number_of f fd) : FnOk P w K mg base CX0 1 f fd ["message"] (spItem 0) := by
 refine F.ok sc_number_of (fun vs H Q E h => ?_) (fun cdv A outer s H vs Q E hr h => ?_)
 · obtain ⟨a, x, y, z, rfl, _⟩ := h; rfl
 · obtain ⟨a, x, y, z, rfl, h1, q⟩ := h
   refine ⟨_, (qM (yJ (pe_ix (k_ix_tup K) (pv 0) qG (fun _ _ => rfl)))), ?_⟩
   exact ⟨_, rfl, a, _, 0, x, rfl, rfl, SqT.ofT h1, rfl, q⟩
abbrev s_topic_of : Stmt := top 12
abbrev N_topic_of : List Str := ["message"]
theorem sc_topic_of : FnScope N_topic_of ["message"] (qQ s_topic_of) := ⟨rfl, rfl, rfl, by decide +kernel, rfl, by decide +kernel, by decide +kernel⟩
theorem ok_topic_of {f : Addr} {fd : FuncData} (F : Fun K "topic_of" "topic_of" s_topic_of f fd) : FnOk P w K mg base CX0 1 f fd ["message"] (spItem 1) := by
 refine F.ok sc_topic_of (fun vs H Q E h => ?_) (fun cdv A outer s H vs Q E hr h => ?_)
 · obtain ⟨a, x, y, z, rfl, _⟩ := h; rfl
 · obtain ⟨a, x, y, z, rfl, h1, q⟩ := h
   refine ⟨_, (qM (yJ (pe_ix (k_ix_tup K) (pv 0) qG (fun _ _ => rfl)))), ?_⟩
   exact ⟨_, rfl, a, _, 1, y, rfl, rfl, SqT.ofT h1, rfl, q⟩
abbrev s_text_of : Stmt := top 13
abbrev N_text_of : List Str := ["message"]
theorem sc_text_of : FnScope N_text_of ["message"] (qQ s_text_of) := ⟨rfl, rfl, rfl, by decide +kernel, rfl, by decide +kernel, by decide +kernel⟩
theorem ok_text_of {f : Addr} {fd : FuncData} (F : Fun K "text_of" "text_of" s_text_of f fd) : FnOk P w K mg base CX0 1 f fd ["message"] (spItem 2) := by
 refine F.ok sc_text_of (fun vs H Q E h => ?_) (fun cdv A outer s H vs Q E hr h => ?_)
 · obtain ⟨a, x, y, z, rfl, _⟩ := h; rfl
 · obtain ⟨a, x, y, z, rfl, h1, q⟩ := h
   refine ⟨_, (qM (yJ (pe_ix (k_ix_tup K) (pv 0) qG (fun _ _ => rfl)))), ?_⟩
   exact ⟨_, rfl, a, _, 2, z, rfl, rfl, SqT.ofT h1, rfl, q⟩
abbrev s_last_ones : Stmt := top 20
abbrev N_last_ones : List Str := ["messages", "newest", "message"]
theorem sc_last_ones : FnScope N_last_ones ["messages"] (qQ s_last_ones) := ⟨rfl, rfl, rfl, by decide +kernel, rfl, by decide +kernel, by decide +kernel⟩
theorem ok_last_ones {f : Addr} {fd : FuncData} (F : Fun K "last_ones" "last_ones" s_last_ones f fd) (T : Txt mg) (c_number_of : Callee P w K mg base 1 "number_of" ["message"] (spItem 0)) (c_topic_of : Callee P w K mg base 1 "topic_of" ["message"] (spItem 1)) :
   FnOk P w K mg base CX0 4 f fd ["messages"] spLast := by
 refine F.ok sc_last_ones (fun vs H Q E h => ?_) (fun cdv A outer s H vs Q E hr h => ?_)
 · obtain ⟨a, xs, ms, rfl, _⟩ := h; rfl
 · obtain ⟨a, xs, ms, rfl, ha, hm, hlen, hd, q⟩ := h
   refine ⟨_, (qV (yV (i := 1) sc_last_ones.nd rfl (Or.inl rfl) pe_dnewK)
     (qV (ps_for PassesOwn.never rfl (k_it_list K (k_sortN K c_number_of (hr.mono (by decide)) rfl (pv 0) T.b_sorted)) (pg_name (i := 2) sc_last_ones.nd rfl (Or.inl rfl)) (qM (ps_dput (hu_of hr) (pv 1) (yy c_topic_of (hr.mono (by decide)) (qJ (pv 2) qZ)) (pv 2) rfl)))
     (qM (yJ (k_sortN K c_number_of (hr.mono (by decide)) rfl (k_bm0 K PySem.F.plainAttrs_dict PySem.F.slot_dict_values PySem.F.type_dict_values mt_values (pv 1)) T.b_sorted))))), ?_⟩
   intro d hdn
   have s1 := Same.new (o := .dK []) hdn
   refine ⟨_, rfl, xs, ms.map (·.n), .inl ⟨a, rfl, SqL.ofL (s1 _ _ ha)⟩, by rw [hm.len]; exact hlen, (hm.same s1).num, fun ys ps hsb hps => ?_⟩
   obtain ⟨ns, hns, hperm, hrise⟩ := sorted_ms hm hsb hd
   have s2 := s1.trans (Same.new (o := .lst ys) hps)
   have hdp : d ≠ ps := fun e => by rw [← e, qY] at hps; cases hps
   refine ⟨ps, rfl, ⟨ys, SqL.ofL qY⟩, for_list (K := K) (a := ps) (xs := ys) (fun i σ H2 => ∃ o kvs, σ = [some (.ref a), some (.ref d), o] ∧ Same H H2 ∧ H2 ps = some (.lst ys) ∧ H2 d = some (.dK kvs) ∧ DM H kvs (newest (ns.take i)))
     ⟨none, [], rfl, s2, qY, by rw [qv hdp]; exact qY, .nil⟩ (fun i σ H2 _ ⟨_, _, _, _, h, _⟩ => SqL.ofL h) ?_ ?_⟩
   · rintro i x σ H2 hi ⟨o, kvs, rfl, s3, h1, h2, hdm⟩
     have hil : i < ns.length := by rw [← hns.len]; exact (List.getElem?_eq_some_iff.mp hi).1
     obtain ⟨c, ec, hc⟩ := hns.get hil
     rw [hi] at ec
     obtain rfl := Option.some.inj ec
     refine rd_name ?_
     have hkl : kvs.length < sizeLine := by
       have h1 := newest_len (ns.take i)
       have h2 := hperm.length_eq
       rw [List.length_take] at h1
       rw [hdm.len, sizeLine_eq]
       omega
     refine ⟨_, rfl, _, rfl, _, rfl, c, _, _, _, rfl, s3 _ _ hc, d, _, rfl, DPut.k (k := Sum.inr ns[i].t) h2 hkl, ?_⟩
     refine ⟨_, _, rfl, s3.put hdn, ?_, qY, ?_⟩
     · rw [qv (Ne.symm hdp)]; exact h1
     · rw [List.take_add_one, List.getElem?_eq_getElem hil]
       show DM H _ (newest (ns.take i ++ [ns[i]]))
       rw [newest_snoc]
       exact hdm.put _ (msg_has hc)
   · rintro σ H2 ⟨o, kvs, rfl, s3, h1, h2, hdm⟩
     rw [hns.len, List.take_length] at hdm
     refine ⟨_, rfl, .inr (.inr (.inl ⟨rfl, .inl ⟨kvs, h2⟩⟩)), d, kvs, rfl, rfl, h2, fun pv hpv => ?_⟩
     have s4 := Same.new (o := ValsO pv d) hpv
     have hnl : (newest ns).length < 64 := by
       have h1 := newest_len ns
       have h2 := hperm.length_eq
       omega
     refine ⟨kvs.map (·.2), ((newest ns).map (·.2)).map (·.n), .inr ⟨pv, d, kvs, rfl, qY, s4 _ _ h2, rfl⟩, by rw [List.length_map, hdm.len]; exact hnl, (hdm.ms.same (s3.trans s4)).num, fun ys2 p2 hsb2 hp2 => ?_⟩
     have hdn' := newest_diff hrise
     obtain ⟨ls, hls, hlp, hlr⟩ := sorted_ms hdm.ms hsb2 hdn'
     have s5 := (s3.trans s4).trans (Same.new (o := .lst ys2) hp2)
     refine q p2 ys2 ls _ s5 ((s3.trans s4).free hp2) qY (hls.same s5) ⟨hlr, fun m => ?_⟩
     rw [hlp.mem_iff, mem_newest_snd hrise]
     exact Top.perm hperm
def inS (signs : Str) (c : Nat) : Bool := !(Builtin.Str.occurrences signs ⟨#[c]⟩ 0 signs.length 1).isEmpty
def onlyIn (signs z : Str) : Bool := z.cps.toList.all fun c => inS signs c
def isWhole : PyData → Bool
 | .int _ => true
 | _ => false
def isNum : PyData → Bool
 | .int i => decide (1 ≤ i) && decide (i ≤ 999999)
 | _ => false
def isTop : PyData → Bool
 | .str z => (decide ((1 : Int) ≤ (z.length : Int)) && decide ((z.length : Int) ≤ 3)) && onlyIn "abcdefghijklmnopqrstuvwxyz" z
 | _ => false
def isTxt : PyData → Bool
 | .str z => decide ((z.length : Int) ≤ 8) && onlyIn "abcdefghijklmnopqrstuvwxyz \n" z
 | _ => false
def spLook (C : PyData → Prop) (f : PyData → Bool) : Sp := fun vs H Q _ => ∃ v d, vs = [v] ∧ Has H v d ∧ C d ∧ ∀ H', Same H H' → Q (.bl (f d)) H'
def spOnly : Sp := fun vs H Q _ => ∃ z signs, vs = [.str z, .str signs] ∧ z.cps.size ≤ sizeLine ∧ ∀ H', Same H H' → Q (.bl (onlyIn signs z)) H'
abbrev s_is_whole : Stmt := top 14
abbrev N_is_whole : List Str := ["thing"]
theorem sc_is_whole : FnScope N_is_whole ["thing"] (qQ s_is_whole) := ⟨rfl, rfl, rfl, by decide +kernel, rfl, by decide +kernel, by decide +kernel⟩
theorem ok_is_whole {f : Addr} {fd : FuncData} (F : Fun K "is_whole" "is_whole" s_is_whole f fd) (T : Txt mg) : FnOk P w K mg base CX0 1 f fd ["thing"] (spLook (fun _ => True) isWhole) := by
 refine F.ok sc_is_whole (fun vs H Q E h => ?_) (fun cdv A outer s H vs Q E hr h => ?_)
 · obtain ⟨v, d, rfl, _⟩ := h; rfl
 · obtain ⟨v, d, rfl, hv, _, q⟩ := h
   refine ⟨_, (qM (yJ (pe_and (yG (k_isi K (c := .type "int") ty_one) (by rfl) T.b_isinstance PyProof.Rows.boot_isinstance (qJ (pv 0) (qU (pe_bltn (v := .ty "int") (by rfl) T.b_int PyProof.Rows.boot_int rfl) qZ))) (pe_one (pe_not (yG (k_isi K (c := .type "bool") ty_one) (by rfl) T.b_isinstance PyProof.Rows.boot_isinstance (qJ (pv 0) (qU (pe_bltn (v := .ty "bool") (by rfl) T.b_bool PyProof.Rows.boot_bool rfl) qZ)))))))), ?_⟩
   refine ⟨_, rfl, v, .ty "int", _, rfl, rfl, has_isiInt hv, _, rfl, ?_⟩
   refine ite2 (fun hi => ?_) (fun hi => ?_)
   · refine ⟨_, rfl, v, .ty "bool", _, rfl, rfl, has_isiBool hv, _, rfl, ?_⟩
     have e : (!isiBool d) = isWhole d := by cases d <;> first | rfl | (cases (show false = true from hi))
     rw [e]
     exact q H (Same.refl H)
   · have e : false = isWhole d := by cases d <;> first | rfl | (exact absurd rfl hi)
     rw [e]
     exact q H (Same.refl H)
abbrev s_is_number : Stmt := top 15
abbrev N_is_number : List Str := ["thing"]
theorem sc_is_number : FnScope N_is_number ["thing"] (qQ s_is_number) := ⟨rfl, rfl, rfl, by decide +kernel, rfl, by decide +kernel, by decide +kernel⟩
theorem ok_is_number {f : Addr} {fd : FuncData} (F : Fun K "is_number" "is_number" s_is_number f fd) (T : Txt mg) (c_is_whole : Callee P w K mg base 1 "is_whole" ["thing"] (spLook (fun _ => True) isWhole)) :
   FnOk P w K mg base CX0 2 f fd ["thing"] (spLook (fun _ => True) isNum) := by
 refine F.ok sc_is_number (fun vs H Q E h => ?_) (fun cdv A outer s H vs Q E hr h => ?_)
 · obtain ⟨v, d, rfl, _⟩ := h; rfl
 · obtain ⟨v, d, rfl, hv, _, q⟩ := h
   refine ⟨_, (qM (yJ (pe_and (yy c_is_whole (hr.mono (by decide)) (qJ (pv 0) qZ)) (pe_one (pe_chain op_le op_le qG (pv 0) (pe_gl T.g_GREATEST_NUMBER)))))), ?_⟩
   refine ⟨_, rfl, v, d, rfl, hv, trivial, fun H1 s1 => ⟨_, rfl, ?_⟩⟩
   refine ite2 (fun hi => ?_) (fun hi => ?_)
   · cases d with
     | int i =>
       unfold Has at hv
       subst hv
       refine ⟨_, rfl, _, _, rfl, rfl, _, rfl, ?_⟩
       refine ite2 (fun h1 => ?_) (fun h1 => ?_)
       · refine ⟨_, _, rfl, rfl, ?_⟩
         have e : isNum (.int i) = decide (i ≤ 999999) := by show (decide (1 ≤ i) && _) = _; rw [h1]; rfl
         have z := q H1 s1
         rw [e] at z
         exact z
       · have e : isNum (.int i) = false := by show (decide (1 ≤ i) && _) = _; rw [Bool.not_eq_true] at h1; rw [h1]; rfl
         have z := q H1 s1
         rw [e] at z
         exact z
     | _ => cases (show false = true from hi)
   · have e : false = isNum d := by cases d <;> first | rfl | (exact absurd rfl hi)
     rw [e]
     exact q H1 s1
abbrev s_has_only : Stmt := top 16
abbrev N_has_only : List Str := ["text", "signs"]
theorem sc_has_only : FnScope N_has_only ["text", "signs"] (qQ s_has_only) := ⟨rfl, rfl, rfl, by decide +kernel, rfl, by decide +kernel, by decide +kernel⟩
theorem ok_has_only {f : Addr} {fd : FuncData} (F : Fun K "has_only" "has_only" s_has_only f fd) (T : Txt mg) : FnOk P w K mg base CX0 1 f fd ["text", "signs"] spOnly := by
 refine F.ok sc_has_only (fun vs H Q E h => ?_) (fun cdv A outer s H vs Q E hr h => ?_)
 · obtain ⟨z, signs, rfl, _⟩ := h; rfl
 · obtain ⟨z, signs, rfl, hz, q⟩ := h
   refine ⟨_, (qM (yJ (yG (k_all K rfl) (by rfl) T.b_all PyProof.Rows.boot_all (qJ (pe_comp (N' := ["sign", "signs"]) (ix := [none, some 1]) (own := [0]) rfl (cs_of (osc := qQ s_has_only) (ON := N_has_only) rfl rfl (by decide +kernel)) (by decide) (pi_str (pv 0)) (fun _ _ _ _ => (pg_name (i := 0) (show (["sign", "signs"] : List Str).Nodup by decide +kernel) rfl (Or.inl rfl))) own_name (fun _ _ _ _ => pifs_nil) (fun _ _ _ _ => (pe_cmpR op_in_str (pv 0) (pv 1) (by with_unfolding_all rfl)))) qZ)))), ?_⟩
   refine ⟨_, rfl, z, rfl, z.cps.size, fun i ys H2 => H2 = H ∧ ys = (z.cps.toList.take i).map (fun c => V.bl (inS signs c)), hz, ⟨rfl, rfl⟩, ?_, ?_⟩
   · rintro i ys H2 hi ⟨rfl, rfl⟩
     refine ⟨hi, fun x H3 => ?_⟩
     rintro ⟨rfl, hx⟩
     have hi' : i < z.cps.toList.length := by simpa using hi
     have hx' : x = .str ⟨#[z.cps.toList[i]]⟩ := by
       unfold signV at hx
       rw [List.getElem?_eq_getElem hi'] at hx
       exact (Option.some.inj hx).symm
     subst hx'
     refine rd_name (rd_yes ?_)
     refine iteT ?_
     refine ⟨_, rfl, _, rfl, _, _, rfl, rfl, rfl, ?_⟩
     rw [List.take_add_one, List.getElem?_eq_getElem hi']
     simp [inS]
   · rintro ys H2 ⟨rfl, rfl⟩
     refine ⟨Nat.le_refl _, fun D hD => ⟨D, z.cps.toList.map (fun c => inS signs c), rfl, ?_, ?_⟩⟩
     · refine SqL.ofL ?_
       rw [qY, List.take_of_length_le (by simp)]
       simp
     · have e : (z.cps.toList.map (fun c => inS signs c)).all id = onlyIn signs z := by
         unfold onlyIn; rw [List.all_map]; rfl
       rw [e]
       exact q _ (Same.new hD)
abbrev s_is_topic : Stmt := top 17
abbrev N_is_topic : List Str := ["thing"]
theorem sc_is_topic : FnScope N_is_topic ["thing"] (qQ s_is_topic) := ⟨rfl, rfl, rfl, by decide +kernel, rfl, by decide +kernel, by decide +kernel⟩
def fit1 : PyData → Prop
 | .str z => z.length ≤ sizeLine
 | _ => True
def fitT : PyData → Prop
 | .tuple ds => ∀ x ∈ ds, fit1 x
 | _ => True
theorem ok_is_topic {f : Addr} {fd : FuncData} (F : Fun K "is_topic" "is_topic" s_is_topic f fd) (T : Txt mg) (c_has_only : Callee P w K mg base 1 "has_only" ["text", "signs"] spOnly) :
   FnOk P w K mg base CX0 2 f fd ["thing"] (spLook fit1 isTop) := by
 refine F.ok sc_is_topic (fun vs H Q E h => ?_) (fun cdv A outer s H vs Q E hr h => ?_)
 · obtain ⟨v, d, rfl, _⟩ := h; rfl
 · obtain ⟨v, d, rfl, hv, hf, q⟩ := h
   refine ⟨_, (qM (yJ (pe_and (yG (k_isi K (c := .type "str") ty_one) (by rfl) T.b_isinstance PyProof.Rows.boot_isinstance (qJ (pv 0) (qU (pe_bltn (v := .ty "str") (by rfl) T.b_str PyProof.Rows.boot_str rfl) qZ))) (pe_and (pe_chain op_le op_le qG (yG call_len_str (by rfl) T.b_len PySem.boot_len (qJ (pv 0) qZ)) (pe_gl T.g_LONGEST_TOPIC)) (pe_one (yy c_has_only (hr.mono (by decide)) (qJ (pv 0) (qU (pe_gl T.g_LETTERS) qZ)))))))), ?_⟩
   refine ⟨_, rfl, v, .ty "str", _, rfl, rfl, has_isiStr hv, _, rfl, ?_⟩
   refine ite2 (fun hi => ?_) (fun hi => ?_)
   · cases d with
     | str z =>
       unfold Has at hv
       subst hv
       refine ⟨_, rfl, z, rfl, hf, _, _, rfl, rfl, _, rfl, ?_⟩
       refine ite2 (fun h1 => ?_) (fun h1 => ?_)
       · refine ⟨_, _, rfl, rfl, _, rfl, ?_⟩
         refine ite2 (fun h2 => ?_) (fun h2 => ?_)
         · refine ⟨_, rfl, z, _, rfl, hf, fun H1 s1 => ?_⟩
           have z' := q H1 s1
           have e : isTop (.str z) = onlyIn "abcdefghijklmnopqrstuvwxyz" z := by show ((decide _ && decide _) && _) = _; rw [h1, h2]; rfl
           rw [e] at z'
           exact z'
         · have z' := q H (Same.refl H)
           have e : isTop (.str z) = false := by show ((decide _ && decide _) && _) = _; rw [Bool.not_eq_true] at h2; rw [h1, h2]; rfl
           rw [e] at z'
           exact z'
       · refine ⟨_, rfl, iteF ?_⟩
         have z' := q H (Same.refl H)
         have e : isTop (.str z) = false := by show ((decide _ && decide _) && _) = _; rw [Bool.not_eq_true] at h1; rw [h1]; rfl
         rw [e] at z'
         exact z'
     | _ => cases (show false = true from hi)
   · have z' := q H (Same.refl H)
     have e : isTop d = false := by cases d <;> first | rfl | (exact absurd rfl hi)
     rw [e] at z'
     exact z'
abbrev s_is_text : Stmt := top 18
abbrev N_is_text : List Str := ["thing"]
theorem sc_is_text : FnScope N_is_text ["thing"] (qQ s_is_text) := ⟨rfl, rfl, rfl, by decide +kernel, rfl, by decide +kernel, by decide +kernel⟩
theorem ok_is_text {f : Addr} {fd : FuncData} (F : Fun K "is_text" "is_text" s_is_text f fd) (T : Txt mg) (c_has_only : Callee P w K mg base 1 "has_only" ["text", "signs"] spOnly) :
   FnOk P w K mg base CX0 2 f fd ["thing"] (spLook fit1 isTxt) := by
 refine F.ok sc_is_text (fun vs H Q E h => ?_) (fun cdv A outer s H vs Q E hr h => ?_)
 · obtain ⟨v, d, rfl, _⟩ := h; rfl
 · obtain ⟨v, d, rfl, hv, hf, q⟩ := h
   refine ⟨_, (qM (yJ (pe_and (yG (k_isi K (c := .type "str") ty_one) (by rfl) T.b_isinstance PyProof.Rows.boot_isinstance (qJ (pv 0) (qU (pe_bltn (v := .ty "str") (by rfl) T.b_str PyProof.Rows.boot_str rfl) qZ))) (pe_and (pe_cmpR op_le (yG call_len_str (by rfl) T.b_len PySem.boot_len (qJ (pv 0) qZ)) (pe_gl T.g_LONGEST_TEXT) (nomark _)) (pe_one (yy c_has_only (hr.mono (by decide)) (qJ (pv 0) (qU (pe_gl T.g_TEXT_SIGNS) qZ)))))))), ?_⟩
   refine ⟨_, rfl, v, .ty "str", _, rfl, rfl, has_isiStr hv, _, rfl, ?_⟩
   refine ite2 (fun hi => ?_) (fun hi => ?_)
   · cases d with
     | str z =>
       unfold Has at hv
       subst hv
       refine ⟨_, rfl, z, rfl, hf, _, _, rfl, rfl, _, rfl, ?_⟩
       refine ite2 (fun h2 => ?_) (fun h2 => ?_)
       · refine ⟨_, rfl, z, _, rfl, hf, fun H1 s1 => ?_⟩
         have z' := q H1 s1
         have e : isTxt (.str z) = onlyIn "abcdefghijklmnopqrstuvwxyz \n" z := by show (decide _ && _) = _; rw [h2]; rfl
         rw [e] at z'
         exact z'
       · have z' := q H (Same.refl H)
         have e : isTxt (.str z) = false := by show (decide _ && _) = _; rw [Bool.not_eq_true] at h2; rw [h2]; rfl
         rw [e] at z'
         exact z'
     | _ => cases (show false = true from hi)
   · have z' := q H (Same.refl H)
     have e : isTxt d = false := by cases d <;> first | rfl | (exact absurd rfl hi)
     rw [e] at z'
     exact z'
def isMsg : PyData → Bool
 | .tuple [n, t, x] => isNum n && (isTop t && isTxt x)
 | _ => false
abbrev s_is_message : Stmt := top 19
abbrev N_is_message : List Str := ["thing"]
theorem sc_is_message : FnScope N_is_message ["thing"] (qQ s_is_message) := ⟨rfl, rfl, rfl, by decide +kernel, rfl, by decide +kernel, by decide +kernel⟩
theorem ok_is_message {f : Addr} {fd : FuncData} (F : Fun K "is_message" "is_message" s_is_message f fd) (T : Txt mg) (c_number_of : Callee P w K mg base 1 "number_of" ["message"] (spItem 0)) (c_topic_of : Callee P w K mg base 1 "topic_of" ["message"] (spItem 1))
   (c_text_of : Callee P w K mg base 1 "text_of" ["message"] (spItem 2)) (c_is_number : Callee P w K mg base 2 "is_number" ["thing"] (spLook (fun _ => True) isNum)) (c_is_topic : Callee P w K mg base 2 "is_topic" ["thing"] (spLook fit1 isTop))
   (c_is_text : Callee P w K mg base 2 "is_text" ["thing"] (spLook fit1 isTxt)) :
   FnOk P w K mg base CX0 3 f fd ["thing"] (spLook fitT isMsg) := by
 refine F.ok sc_is_message (fun vs H Q E h => ?_) (fun cdv A outer s H vs Q E hr h => ?_)
 · obtain ⟨v, d, rfl, _⟩ := h; rfl
 · obtain ⟨v, d, rfl, hv, hf, q⟩ := h
   refine ⟨_, (qV (ps_if (PW.pt (pw_or (pt_not (pt_val (yG (k_isi K (c := .type "tuple") ty_one) (by rfl) T.b_isinstance PyProof.Rows.boot_isinstance (qJ (pv 0) (qU (pe_bltn (v := .ty "tuple") (by rfl) T.b_tuple PyProof.Rows.boot_tuple rfl) qZ))))) (pw_or1 (yv op_ne (yG (k_len_seq K) (by rfl) T.b_len PySem.boot_len (qJ (pv 0) qZ)) qG (nomark _))))) (qM (yJ pe_bl)) pss_nil)
     (qM (yJ (pe_and (yy c_is_number (hr.mono (by decide)) (qJ (yy c_number_of (hr.mono (by decide)) (qJ (pv 0) qZ)) qZ)) (pe_and (yy c_is_topic (hr.mono (by decide)) (qJ (yy c_topic_of (hr.mono (by decide)) (qJ (pv 0) qZ)) qZ)) (pe_one (yy c_is_text (hr.mono (by decide)) (qJ (yy c_text_of (hr.mono (by decide)) (qJ (pv 0) qZ)) qZ)))))))), ?_⟩
   refine ⟨_, rfl, v, .ty "tuple", _, rfl, rfl, has_isiTup hv, _, rfl, ?_⟩
   cases d with
   | tuple ds =>
     refine iteF ?_
     have hv' := hv
     unfold Has at hv'
     obtain ⟨a, xs, rfl, ha, hl⟩ := hv'
     refine ⟨_, rfl, a, xs, rfl, .inr (SqT.ofT ha), rfl, _, rfl, ?_⟩
     refine ite2 (fun h3 => ?_) (fun h3 => ?_)
     · have z' := q H (Same.refl H)
       have hne : ds.length ≠ 3 := by
         have := hl.length
         intro z
         rw [z] at this
         rw [this] at h3
         simp at h3
       have e : isMsg (.tuple ds) = false := by
         match ds, hne with
         | [], _ => rfl
         | [_], _ => rfl
         | [_, _], _ => rfl
         | [_, _, _], h => exact absurd rfl h
         | _ :: _ :: _ :: _ :: _, _ => rfl
       rw [e] at z'
       exact z'
     · have hl3 : xs.length = 3 := by
         simp at h3
         omega
       have hd3 : ds.length = 3 := by rw [← hl.length]; exact hl3
       match ds, hd3, hl with
       | [d1, d2, d3], _, hl =>
         unfold HasL at hl
         obtain ⟨x, r, rfl, h1, hl⟩ := hl
         unfold HasL at hl
         obtain ⟨y, r2, rfl, h2, hl⟩ := hl
         unfold HasL at hl
         obtain ⟨zz, r3, rfl, h3', hl⟩ := hl
         unfold HasL at hl
         subst hl
         refine ⟨_, rfl, a, x, y, zz, rfl, ha, x, d1, rfl, h1, trivial, fun H1 s1 => ⟨_, rfl, ?_⟩⟩
         refine ite2 (fun b1 => ?_) (fun b1 => ?_)
         · refine ⟨_, rfl, a, x, y, zz, rfl, s1 _ _ ha, y, d2, rfl, h2.same s1, hf d2 (by simp), fun H2 s2 => ⟨_, rfl, ?_⟩⟩
           have s12 := s1.trans s2
           refine ite2 (fun b2 => ?_) (fun b2 => ?_)
           · refine ⟨_, rfl, a, x, y, zz, rfl, s12 _ _ ha, zz, d3, rfl, h3'.same s12, hf d3 (by simp), fun H3 s3 => ?_⟩
             have z' := q H3 (s12.trans s3)
             have e : isMsg (.tuple [d1, d2, d3]) = isTxt d3 := by show (isNum d1 && (isTop d2 && isTxt d3)) = _; rw [b1, b2]; rfl
             rw [e] at z'
             exact z'
           · have z' := q H2 s12
             have e : isMsg (.tuple [d1, d2, d3]) = false := by show (isNum d1 && (isTop d2 && isTxt d3)) = _; rw [Bool.not_eq_true] at b2; rw [b1, b2]; rfl
             rw [e] at z'
             exact z'
         · have z' := q H1 s1
           have e : isMsg (.tuple [d1, d2, d3]) = false := by show (isNum d1 && (isTop d2 && isTxt d3)) = _; rw [Bool.not_eq_true] at b1; rw [b1]; rfl
           rw [e] at z'
           exact z'
   | _ =>
     refine iteT ?_
     exact q H (Same.refl H)
theorem sV_of {z : Str} {l : List Nat} (h : z.cps.toList = l) : V.str z = sV l := by
 unfold sV; rw [← h, str_mk]
theorem line_id {n : Int} (h : 0 ≤ n) : V.str ("id: " ++ nT n) = sV (idF ++ dgT n.toNat) := by
 refine sV_of ?_
 have e := nT_cps n.toNat
 rw [Int.toNat_of_nonneg h] at e
 rw [yM, e]
 rfl
theorem line_tp {t : Str} : V.str ("topic: " ++ t) = sV (tpF ++ t.cps.toList) := by
 refine sV_of ?_
 rw [yM]
 rfl
theorem line_dt {l : List Nat} : V.str ("data: " ++ (⟨l.toArray⟩ : Str)) = sV (dtF ++ l) := by
 refine sV_of ?_
 rw [yM]
 rfl
theorem line_nl {l : List Nat} : V.str ((⟨l.toArray⟩ : Str) ++ "\n") = sV (l ++ [10]) := by
 refine sV_of ?_
 rw [yM, nl_cps]
theorem nT_len {n : Int} (h0 : 0 ≤ n) (h : n ≤ 999999) : (nT n).length ≤ 6 := by
 have e := nT_cps n.toNat
 rw [Int.toNat_of_nonneg h0] at e
 have := dgT_len 5 n.toNat (by omega)
 rw [← e] at this
 simpa [Str.length] using this
theorem n_log {n : Int} (h0 : 0 ≤ n) (h : n ≤ 999999) : n.natAbs.log2 < 1920 := by
 by_cases hz : n.natAbs = 0
 · rw [hz]; decide
 · exact Nat.lt_of_lt_of_le ((Nat.log2_lt hz).mpr (show n.natAbs < 2 ^ 20 by omega)) (by decide)
theorem sl_len (z : Str) : z.length = z.cps.toList.length := by simp [Str.length]
def spFrL : Sp := fun vs H Q _ => ∃ (c : Addr) (m : Msg), vs = [.ref c] ∧ H c = some (mT m) ∧ OkM m ∧ ∀ p H', Same H H' → H' p = some (.lst ((frB m ++ [[]]).map sV)) → Q (.ref p) H'
def spFrT : Sp := fun vs H Q _ => ∃ (c : Addr) (m : Msg), vs = [.ref c] ∧ H c = some (mT m) ∧ OkM m ∧ ∀ H', Same H H' → Q (sV (frC m)) H'
def spSmT : Sp := fun vs H Q _ => ∃ (a : Addr) (xs : List V) (ms : List Msg), vs = [.ref a] ∧ H a = some (.lst xs) ∧ Ms H xs ms ∧ ms.length ≤ 4000 ∧ (∀ m ∈ ms, OkM m) ∧ ∀ H', Same H H' → Q (sV (ms.map frC).flatten) H'
abbrev s_frame_lines : Stmt := top 30
abbrev N_frame_lines : List Str := ["message", "lines"]
theorem sc_frame_lines : FnScope N_frame_lines ["message"] (qQ s_frame_lines) := ⟨rfl, rfl, rfl, by decide +kernel, rfl, by decide +kernel, by decide +kernel⟩
theorem ok_frame_lines {f : Addr} {fd : FuncData} (F : Fun K "frame_lines" "frame_lines" s_frame_lines f fd) (T : Txt mg) (c_number_of : Callee P w K mg base 1 "number_of" ["message"] (spItem 0)) (c_topic_of : Callee P w K mg base 1 "topic_of" ["message"] (spItem 1))
   (c_text_of : Callee P w K mg base 1 "text_of" ["message"] (spItem 2)) : FnOk P w K mg base CX0 2 f fd ["message"] spFrL := by
 refine F.ok sc_frame_lines (fun vs H Q E h => ?_) (fun cdv A outer s H vs Q E hr h => ?_)
 · obtain ⟨c, m, rfl, _⟩ := h; rfl
 · obtain ⟨c, m, rfl, hc, ok, q⟩ := h
   refine ⟨_, (qV (yV (i := 1) sc_frame_lines.nd rfl (Or.inl rfl) (as_lst (qU (qz qB (pe_gl T.g_NUMBER_FRONT) (as_callTy call_strI (by rfl) T.b_str PyProof.Rows.boot_str (qJ (yy c_number_of (hr.mono (by decide)) (qJ (pv 0) qZ)) qZ))) (qU (qz qB (pe_gl T.g_TOPIC_FRONT) (yy c_topic_of (hr.mono (by decide)) (qJ (pv 0) qZ))) qZ))))
     (qV (ps_expr (k_bm K PySem.F.plainAttrs_list PySem.F.slot_list_extend PySem.F.type_list_extend mt_extend (pv 1) (yz (pe_comp (N' := ["part"]) (ix := [none]) (own := [0]) rfl (cs_of (osc := qQ s_frame_lines) (ON := N_frame_lines) rfl rfl (by decide +kernel)) (by decide) (k_it_list K (k_bm K PySem.F.plainAttrs_str PySem.F.slot_str_split PySem.F.type_str_split mt_split (yy c_text_of (hr.mono (by decide)) (qJ (pv 0) qZ)) (yz qD pa_nil))) (fun _ _ _ _ => (pg_name (i := 0) (show (["part"] : List Str).Nodup by decide +kernel) rfl (Or.inl rfl))) own_name (fun _ _ _ _ => pifs_nil) (fun _ _ _ _ => (qz qB (pe_gl T.g_TEXT_FRONT) (pv 0)))) pa_nil)))
     (qM (yJ (qz op_cat (pv 1) (as_lst (qU qD qZ))))))), ?_⟩
   have hn : 0 ≤ m.n := by have := ok.1.1; omega
   have hn6 := nT_len hn ok.1.2
   have ht3 := sl_len m.t
   have hx8 := sl_len m.x
   have ht3' := ok.2.1.2.1
   have hx8' := ok.2.2.1
   refine ⟨_, rfl, c, _, _, _, rfl, hc, m.n, rfl, n_log hn ok.1.2, _, _, rfl, rfl, ?_, _, rfl, c, _, _, _, rfl, hc, _, _, rfl, rfl, ?_, ?_⟩
   · have e : ("id: " : Str).length = 4 := by decide +kernel
     rw [e, sizeLine_eq]; omega
   · show _ + m.t.length ≤ _
     have e : ("topic: " : Str).length = 7 := by decide +kernel
     rw [e, sizeLine_eq]; omega
   refine ⟨(show 2 ≤ sizeLine by decide), fun p hp => ?_⟩
   have s1 := Same.new (o := .lst [.str ("id: " ++ nT m.n), .str ("topic: " ++ m.t)]) hp
   have e1 : upd H p (.lst [.str ("id: " ++ nT m.n), .str ("topic: " ++ m.t)]) p = some (.lst [sV (idF ++ dgT m.n.toNat), sV (tpF ++ m.t.cps.toList)]) := by rw [qY, line_id hn, line_tp]
   generalize upd H p (.lst [.str ("id: " ++ nT m.n), .str ("topic: " ++ m.t)]) = H1 at s1 e1 ⊢
   refine ⟨_, rfl, .inl ⟨rfl, _, SqL.ofL e1⟩, _, rfl, c, _, _, _, rfl, s1 _ _ hc, ?_⟩
   refine ⟨rfl, m.x, "\n", rfl, rfl, (by decide +kernel), (by rw [sizeLine_eq]; show m.x.length + 2 ≤ _; omega), fun r hr => ?_⟩
   have s2 := Same.new (o := .lst ((PySem.Txt.split m.x "\n").map V.str)) hr
   have e2 : upd H1 r (.lst ((PySem.Txt.split m.x "\n").map V.str)) r = some (.lst ((spl m.x.cps.toList).map sV)) := by rw [qY, split_spl, List.map_map]; rfl
   have n2 : ∀ (b : Addr), b = r → b ≠ p := fun b e z => by rw [← z, e] at e1; rw [hr] at e1; cases e1
   generalize upd H1 r (.lst ((PySem.Txt.split m.x "\n").map V.str)) = H2 at s2 e2 ⊢
   have hl := Nat.le_trans (spl_len m.x.cps.toList) (Nat.succ_le_succ hx8')
   have k2 : ∀ H', Same H2 H' → SqL K H' r ((spl m.x.cps.toList).map sV) := fun H' s' => SqL.ofL (s' _ _ e2)
   have lv : (((spl m.x.cps.toList).map (dtF ++ ·)).map sV).length = ((spl m.x.cps.toList).map sV).length := by simp
   refine ⟨r, rfl, ⟨_, k2 _ (Same.refl _)⟩, ((spl m.x.cps.toList).map sV).length, GMap H2 (((spl m.x.cps.toList).map (dtF ++ ·)).map sV), ?_, GMap.zero, GMap.step k2 lv ?_, fun ys H3 hG => ?_⟩
   · rw [List.length_map, sizeLine_eq]; omega
   · intro i x v H3 R N hx hv s3 hR
     rw [List.getElem?_map] at hx hv
     rw [List.getElem?_map] at hv
     cases hi : (spl m.x.cps.toList)[i]? with
     | none => rw [hi] at hx; cases hx
     | some l =>
       rw [hi] at hx hv
       obtain rfl := Option.some.inj hx
       obtain rfl := Option.some.inj hv
       have hll := spl_part _ l (List.mem_of_getElem? hi)
       refine rd_name (rd_yes (iteT ?_))
       refine ⟨_, rfl, _, _, rfl, rfl, ?_, ?_⟩
       · have e : ("data: " : Str).length = 6 := by decide +kernel
         have e' : (⟨l.toArray⟩ : Str).length = l.length := by simp [Str.length]
         rw [e, e', sizeLine_eq]; omega
       · rw [line_dt]; exact hR _ s3
   · obtain ⟨st, s3, rfl⟩ := GMap.done k2 lv hG
     refine ⟨st, fun D hD => ?_⟩
     have s4 := Same.new (o := .lst (((spl m.x.cps.toList).map (dtF ++ ·)).map sV)) hD
     have e4 : upd H3 D (.lst (((spl m.x.cps.toList).map (dtF ++ ·)).map sV)) D = some (.lst (((spl m.x.cps.toList).map (dtF ++ ·)).map sV)) := qY
     generalize upd H3 D (.lst (((spl m.x.cps.toList).map (dtF ++ ·)).map sV)) = H4 at s4 e4 ⊢
     have e4p := s4 _ _ (s3 _ _ (s2 _ _ e1))
     refine ⟨p, D, _, _, rfl, rfl, e4p, e4, ?_, ?_⟩
     · rw [List.length_map, List.length_map, sizeLine_eq]; show 2 + _ ≤ _; omega
     have s5 : Same H (upd H4 p (.lst ([sV (idF ++ dgT m.n.toNat), sV (tpF ++ m.t.cps.toList)] ++ ((spl m.x.cps.toList).map (dtF ++ ·)).map sV))) := by
       intro b o hb
       have hbp : b ≠ p := fun e => by rw [e, hp] at hb; cases hb
       rw [qv hbp]
       exact s4 _ _ (s3 _ _ (s2 _ _ (s1 _ _ hb)))
     have e5 : upd H4 p (.lst ([sV (idF ++ dgT m.n.toNat), sV (tpF ++ m.t.cps.toList)] ++ ((spl m.x.cps.toList).map (dtF ++ ·)).map sV)) p = some (.lst ((frB m).map sV)) := qY
     generalize upd H4 p (.lst ([sV (idF ++ dgT m.n.toNat), sV (tpF ++ m.t.cps.toList)] ++ ((spl m.x.cps.toList).map (dtF ++ ·)).map sV)) = H5 at s5 e5 ⊢
     refine ⟨_, rfl, (show 1 ≤ sizeLine by decide), fun d hd => ?_⟩
     have s6 := Same.new (o := .lst [.str ""]) hd
     have e6 : upd H5 d (.lst [.str ""]) d = some (.lst [.str ""]) := qY
     generalize upd H5 d (.lst [.str ""]) = H6 at s6 e6 ⊢
     refine ⟨p, d, _, _, rfl, rfl, s6 _ _ e5, e6, ?_, fun a ha => ?_⟩
     · unfold frB; simp only [List.length_map, List.length_cons, List.length_nil]; rw [sizeLine_eq]; omega
     refine q a _ (s5.trans (s6.trans (Same.new ha))) ?_
     rw [qY, List.map_append]
     rfl
theorem frB_len {m : Msg} (ok : OkM m) : (frB m).length ≤ 11 := by
 have := spl_len m.x.cps.toList
 have := ok.2.2.1
 unfold frB
 simp only [List.length_map, List.length_cons]
 omega
theorem frB_part {m : Msg} (ok : OkM m) : ∀ l ∈ frB m, l.length ≤ 20 := by
 intro l hl
 unfold frB at hl
 rcases List.mem_cons.mp hl with e | hl
 · have := dgT_len 5 m.n.toNat (by have := ok.1; omega)
   rw [e, List.length_append]; show 4 + _ ≤ _; omega
 rcases List.mem_cons.mp hl with e | hl
 · have := ok.2.1.2.1
   rw [e, List.length_append]; show 7 + _ ≤ _; omega
 obtain ⟨q, hq, rfl⟩ := List.mem_map.mp hl
 have := spl_part _ q hq
 have := ok.2.2.1
 rw [List.length_append]; show 6 + _ ≤ _; omega
theorem lnC_len {B : Nat} : ∀ {ls : List (List Nat)}, (∀ l ∈ ls, l.length ≤ B) → (lnC ls).length ≤ ls.length * (B + 1)
 | [], _ => Nat.zero_le _
 | l :: r, h => by
   have h1 := h l List.mem_cons_self
   have h2 := lnC_len (ls := r) fun x hx => h x (List.mem_cons_of_mem _ hx)
   rw [lnC_cons, List.length_append, List.length_cons, List.length_cons, Nat.succ_mul]
   omega
theorem frC_len {m : Msg} (ok : OkM m) : (frC m).length ≤ 252 := by
 have h1 := frB_len ok
 have h2 := lnC_len (B := 20) (ls := frB m ++ [[]]) (fun l hl => by
   rcases List.mem_append.mp hl with hl | hl
   · exact frB_part ok l hl
   · rw [List.mem_singleton] at hl; rw [hl]; exact Nat.zero_le _)
 unfold frC
 rw [List.length_append, List.length_singleton] at h2
 have := Nat.mul_le_mul_right (20 + 1) (show (frB m).length + 1 ≤ 12 by omega)
 omega
def mkS (l : List Nat) : Str := ⟨l.toArray⟩
theorem join_fit (ls : List (List Nat)) (h : ls.flatten.length ≤ 16777216) : ((ls.map mkS).map (·.length)).sum + (ls.map mkS).length * ("" : Str).length ≤ 16777216 := by
 have e : ("" : Str).length = 0 := by decide +kernel
 have e2 : ((fun (z : Str) => z.length) ∘ mkS) = List.length := by funext l; simp [mkS, Str.length]
 rw [e, Nat.mul_zero, Nat.add_zero, List.map_map, e2, ← List.length_flatten]
 exact h
theorem frs_len : ∀ {ms : List Msg}, (∀ m ∈ ms, OkM m) → (ms.map frC).flatten.length ≤ ms.length * 252
 | [], _ => Nat.zero_le _
 | m :: r, h => by
   have h1 := frC_len (h m List.mem_cons_self)
   have h2 := frs_len (ms := r) fun x hx => h x (List.mem_cons_of_mem _ hx)
   rw [List.map_cons, List.flatten_cons, List.length_append, List.length_cons, Nat.succ_mul]
   omega
theorem join_sV (ls : List (List Nat)) : V.str (Txt.join "" (ls.map mkS)) = sV ls.flatten := by
 refine sV_of ?_
 rw [join_codes', List.map_map]
 have : ((fun (y : Str) => y.cps.toList) ∘ mkS) = id := by funext l; simp [mkS]
 rw [this, List.map_id]
abbrev s_frame_text : Stmt := top 31
abbrev N_frame_text : List Str := ["message"]
theorem sc_frame_text : FnScope N_frame_text ["message"] (qQ s_frame_text) := ⟨rfl, rfl, rfl, by decide +kernel, rfl, by decide +kernel, by decide +kernel⟩
theorem ok_frame_text {f : Addr} {fd : FuncData} (F : Fun K "frame_text" "frame_text" s_frame_text f fd) (T : Txt mg) (c_frame_lines : Callee P w K mg base 2 "frame_lines" ["message"] spFrL) : FnOk P w K mg base CX0 3 f fd ["message"] spFrT := by
 refine F.ok sc_frame_text (fun vs H Q E h => ?_) (fun cdv A outer s H vs Q E hr h => ?_)
 · obtain ⟨c, m, rfl, _⟩ := h; rfl
 · obtain ⟨c, m, rfl, hc, ok, q⟩ := h
   refine ⟨_, (qM (yJ (k_bm K PySem.F.plainAttrs_str PySem.F.slot_str_join PySem.F.type_str_join (k_join K) qD (yz (pe_comp (N' := ["line"]) (ix := [none]) (own := [0]) rfl (cs_of (osc := qQ s_frame_text) (ON := N_frame_text) rfl rfl (by decide +kernel)) (by decide) (k_it_list K (yy c_frame_lines (hr.mono (by decide)) (qJ (pv 0) qZ))) (fun _ _ _ _ => (pg_name (i := 0) (show (["line"] : List Str).Nodup by decide +kernel) rfl (Or.inl rfl))) own_name (fun _ _ _ _ => pifs_nil) (fun _ _ _ _ => (qz qB (pv 0) qD))) pa_nil)))), ?_⟩
   refine ⟨rfl, _, rfl, c, m, rfl, hc, ok, fun r H1 s1 e1 => ?_⟩
   have hl := frB_len ok
   have k1 : ∀ H', Same H1 H' → SqL K H' r ((frB m ++ [[]]).map sV) := fun H' s' => SqL.ofL (s' _ _ e1)
   have lv : (((frB m ++ [[]]).map (· ++ [10])).map sV).length = ((frB m ++ [[]]).map sV).length := by simp
   refine ⟨r, rfl, ⟨_, k1 _ (Same.refl _)⟩, ((frB m ++ [[]]).map sV).length, GMap H1 (((frB m ++ [[]]).map (· ++ [10])).map sV), ?_, GMap.zero, GMap.step k1 lv ?_, fun ys H3 hG => ?_⟩
   · rw [List.length_map, List.length_append, List.length_singleton, sizeLine_eq]; omega
   · intro i x v H3 R N hx hv s3 hR
     rw [List.getElem?_map] at hx hv
     rw [List.getElem?_map] at hv
     cases hi : (frB m ++ [[]])[i]? with
     | none => rw [hi] at hx; cases hx
     | some l =>
       rw [hi] at hx hv
       obtain rfl := Option.some.inj hx
       obtain rfl := Option.some.inj hv
       have hll : l.length ≤ 20 := by
         rcases List.mem_append.mp (List.mem_of_getElem? hi) with hl | hl
         · exact frB_part ok l hl
         · rw [List.mem_singleton] at hl; rw [hl]; exact Nat.zero_le _
       refine rd_name (rd_yes (iteT ?_))
       refine ⟨_, rfl, _, _, rfl, rfl, ?_, ?_⟩
       · have e : ("\n" : Str).length = 1 := by decide +kernel
         have e' : (⟨l.toArray⟩ : Str).length = l.length := by simp [Str.length]
         rw [e, e', sizeLine_eq]; omega
       · rw [line_nl]; exact hR _ s3
   · obtain ⟨st, s3, rfl⟩ := GMap.done k1 lv hG
     refine ⟨st, fun D hD => ?_⟩
     refine ⟨"", D, ((frB m ++ [[]]).map (· ++ [10])).map mkS, rfl, rfl, ?_, join_fit _ (Nat.le_trans (show (lnC (frB m ++ [[]])).length ≤ 252 from frC_len ok) (by decide)), ?_⟩
     · rw [List.map_map (g := V.str)]; exact SqL.ofL qY
     · show Q (V.str (Txt.join "" (((frB m ++ [[]]).map (· ++ [10])).map mkS))) _
       rw [join_sV]
       exact q _ (s1.trans (s3.trans (Same.new hD)))
abbrev s_stream_text : Stmt := top 32
abbrev N_stream_text : List Str := ["messages"]
theorem sc_stream_text : FnScope N_stream_text ["messages"] (qQ s_stream_text) := ⟨rfl, rfl, rfl, by decide +kernel, rfl, by decide +kernel, by decide +kernel⟩
theorem ok_stream_text {f : Addr} {fd : FuncData} (F : Fun K "stream_text" "stream_text" s_stream_text f fd) (T : Txt mg) (c_frame_text : Callee P w K mg base 3 "frame_text" ["message"] spFrT) : FnOk P w K mg base CX0 4 f fd ["messages"] spSmT := by
 refine F.ok sc_stream_text (fun vs H Q E h => ?_) (fun cdv A outer s H vs Q E hr h => ?_)
 · obtain ⟨a, xs, ms, rfl, _⟩ := h; rfl
 · obtain ⟨a, xs, ms, rfl, ha, hm, hl, ok, q⟩ := h
   refine ⟨_, (qM (yJ (k_bm K PySem.F.plainAttrs_str PySem.F.slot_str_join PySem.F.type_str_join (k_join K) qD (yz (pe_comp (N' := ["message"]) (ix := [none]) (own := [0]) rfl (cs_of (osc := qQ s_stream_text) (ON := N_stream_text) rfl rfl (by decide +kernel)) (by decide) (k_it_list K (pv 0)) (fun _ _ _ _ => (pg_name (i := 0) (show (["message"] : List Str).Nodup by decide +kernel) rfl (Or.inl rfl))) own_name (fun _ _ _ _ => pifs_nil) (fun _ _ _ _ => (yy c_frame_text (hr.mono (by decide)) (qJ (pv 0) qZ)))) pa_nil)))), ?_⟩
   have hxl := hm.len
   have k1 : ∀ H', Same H H' → SqL K H' a xs := fun H' s' => SqL.ofL (s' _ _ ha)
   have lv : ((ms.map frC).map sV).length = xs.length := by simp [hxl]
   refine ⟨rfl, _, rfl, a, rfl, ⟨_, k1 _ (Same.refl _)⟩, xs.length, GMap H ((ms.map frC).map sV), ?_, GMap.zero, GMap.step k1 lv ?_, fun ys H3 hG => ?_⟩
   · rw [sizeLine_eq]; omega
   · intro i x v H3 R N hx hv s3 hR
     have hi : i < ms.length := by rw [← hxl]; exact (List.getElem?_eq_some_iff.mp hx).1
     obtain ⟨c, ec, hc⟩ := hm.get hi
     rw [hx] at ec
     obtain rfl := Option.some.inj ec
     rw [List.getElem?_map, List.getElem?_map, List.getElem?_eq_getElem hi] at hv
     obtain rfl := Option.some.inj hv
     refine rd_name (rd_yes (iteT ?_))
     refine ⟨_, rfl, c, ms[i], rfl, s3 _ _ hc, ok _ (List.getElem_mem hi), fun H4 s4 => hR _ (s3.trans s4)⟩
   · obtain ⟨st, s3, rfl⟩ := GMap.done k1 lv hG
     refine ⟨st, fun D hD => ?_⟩
     refine ⟨"", D, (ms.map frC).map mkS, rfl, rfl, ?_, join_fit _ (Nat.le_trans (frs_len ok) ?_), ?_⟩
     · rw [List.map_map (g := V.str)]; exact SqL.ofL qY
     · have := Nat.mul_le_mul_right 252 hl
       omega
     · show Q (V.str (Txt.join "" ((ms.map frC).map mkS))) _
       rw [join_sV]
       exact q _ (s3.trans (Same.new hD))
def spWFX (CN : Addr) : Sp := fun vs H Q E => ∃ (z front : Str), vs = [.str z, .str front] ∧ z.length ≤ sizeLine ∧ (∀ l, z.cps.toList = front.cps.toList ++ l → Q (sV l) H) ∧ ((∀ l, z.cps.toList ≠ front.cps.toList ++ l) → E (.ref CN) none H)
def spNInX (CN : Addr) : Sp := fun vs H Q E => ∃ (z : Str), vs = [.str z] ∧ z.length ≤ sizeLine ∧ (∀ n : Nat, z.cps.toList = dgT n → 1 ≤ n → n ≤ 999999 → ∀ H', Same H H' → Q (.int n) H') ∧ ((∀ n : Nat, 1 ≤ n → n ≤ 999999 → z.cps.toList ≠ dgT n) → ∀ H', Same H H' → E (.ref CN) none H')
def spMInX (CN : Addr) : Sp := fun vs H Q E => ∃ (a : Addr) (ls : List (List Nat)), vs = [.ref a] ∧ H a = some (.lst (ls.map sV)) ∧ (∀ l ∈ ls, l.length ≤ 4000 ∧ 10 ∉ l) ∧ ls.length ≤ 4000 ∧
 (∀ m, minG ls = some m → ∀ c H', Same H H' → H' c = some (mT m) → Q (.ref c) H') ∧ (minG ls = none → ∀ H', Same H H' → E (.ref CN) none H')
theorem front_is (z front : Str) : Txt.startswith z front = true ↔ ∃ l, z.cps.toList = front.cps.toList ++ l := by
 rw [starts_is, decide_eq_true_iff]
 refine ⟨fun h => ⟨z.cps.toList.drop front.length, ?_⟩, fun ⟨l, h⟩ => ?_⟩
 · rw [← h, List.take_append_drop]
 · rw [h, ← yY, List.take_left]
abbrev s_without_front : Stmt := top 33
abbrev N_without_front : List Str := ["line", "front"]
theorem sc_without_front : FnScope N_without_front ["line", "front"] (qQ s_without_front) := ⟨rfl, rfl, rfl, by decide +kernel, rfl, by decide +kernel, by decide +kernel⟩
theorem okx_without_front {f CN : Addr} {fd : FuncData} (F : Fun K "without_front" "without_front" s_without_front f fd) (T : Txt mg) (x_NoText : Exc K mg "NoText" CN) : FnOk P w K mg base (CXF P w) 1 f fd ["line", "front"] (spWFX CN) := by
 refine F.okX sc_without_front (fun vs H Q E h => ?_) (fun cdv A outer s H vs Q E hr h => ?_)
 · obtain ⟨z, front, rfl, _⟩ := h; rfl
 · obtain ⟨z, front, rfl, hsz, q1, q2⟩ := h
   refine ⟨_, (qV (ps_if (pt_not (pt_val (k_bm K PySem.F.plainAttrs_str PySem.F.slot_str_startswith PySem.F.type_str_startswith mt_startswith (pv 0) (yz (pv 1) pa_nil)))) (qM (ps_raise x_NoText (qJ qD qZ))) pss_nil)
     (qM (yJ (pe_slice sl_str (pv 0) (po_some (yG call_len_str (by rfl) T.b_len PySem.boot_len (qJ (pv 1) qZ))) po_none)))), ?_⟩
   refine ⟨_, rfl, rfl, _, rfl, z, front, rfl, rfl, _, rfl, ite2 (fun b => ?_) (fun b => ?_)⟩
   · refine ⟨(by decide), q2 fun l hl => ?_⟩
     rw [(front_is z front).mpr ⟨l, hl⟩] at b
     cases b
   · have b' : Txt.startswith z front = true := by
       cases e : Txt.startswith z front with
       | true => rfl
       | false => rw [e] at b; exact absurd rfl b
     obtain ⟨l, hz⟩ := (front_is z front).mp b'
     have hfl : front.length ≤ z.length := by rw [← yY, ← yY, hz, List.length_append]; omega
     refine ⟨_, rfl, _, rfl, front, rfl, by omega, _, rfl, z, rfl, hsz, ?_⟩
     have e : Txt.slice z (some (front.length : Int)) none = ⟨l.toArray⟩ := by
       rw [slice_drop (by rw [yY]; exact hfl), hz, ← yY, List.drop_left]
     rw [e]
     exact q1 l hz
theorem sum_le {B : Nat} : ∀ (ls : List (List Nat)), (∀ l ∈ ls, l.length ≤ B) → (ls.map List.length).sum ≤ ls.length * B
 | [], _ => Nat.zero_le _
 | l :: r, h => by
   have h1 := h l List.mem_cons_self
   have h2 := sum_le r fun x hx => h x (List.mem_cons_of_mem _ hx)
   rw [List.map_cons, List.sum_cons, List.length_cons, Nat.succ_mul]
   omega
theorem jn_len {B : Nat} : ∀ {ls : List (List Nat)}, (∀ l ∈ ls, l.length ≤ B) → (jn ls).length ≤ ls.length * (B + 1)
 | [], _ => Nat.zero_le _
 | [x], h => by have := h x List.mem_cons_self; show x.length ≤ _; simp; omega
 | x :: y :: r, h => by
   have h1 := h x List.mem_cons_self
   have h2 := jn_len (ls := y :: r) fun q hq => h q (List.mem_cons_of_mem _ hq)
   show (x ++ 10 :: jn (y :: r)).length ≤ _
   rw [List.length_append, List.length_cons, List.length_cons (a := x), Nat.succ_mul]
   omega
theorem inS_mem (signs : Str) (c : Nat) : inS signs c = decide (c ∈ signs.cps.toList) := StrLaws.found_one signs c
theorem only_iff (signs z : Str) : onlyIn signs z = true ↔ ∀ c ∈ z.cps.toList, c ∈ signs.cps.toList := by
 unfold onlyIn
 rw [List.all_eq_true]
 refine ⟨fun h c hc => ?_, fun h c hc => ?_⟩
 · have := h c hc
   rw [inS_mem] at this
   exact of_decide_eq_true this
 · rw [inS_mem]; exact decide_eq_true (h c hc)
theorem digs_cps : ("0123456789" : Str).cps.toList = List.range' 48 10 := by decide +kernel
theorem only_digs (z : Str) : onlyIn "0123456789" z = true ↔ DigL z.cps.toList := by
 rw [only_iff, digs_cps]
 refine ⟨fun h c hc => ?_, fun h c hc => ?_⟩
 · have := List.mem_range'_1.mp (h c hc); omega
 · have := h c hc; exact List.mem_range'_1.mpr (by omega)
theorem digN_lt : ∀ {cs : List Nat}, DigL cs → digN cs < 10 ^ cs.length := by
 intro cs
 induction cs using snoc_ind with
 | nil => intro _; decide
 | append_singleton cs c ih =>
   intro h
   have h1 := ih fun x hx => h x (List.mem_append_left _ hx)
   have h2 := h c (by simp)
   rw [digN_snoc, List.length_append, List.length_singleton, Nat.pow_succ]
   omega
theorem digN_pos {cs : List Nat} (h : DigL cs) (h0 : cs ≠ []) (h1 : cs.head? ≠ some 48) : 1 ≤ digN cs := by
 rcases Nat.eq_zero_or_pos (digN cs) with e | e
 · exfalso
   have := dgT_uniq h h0 h1
   rw [e] at this
   rw [← this] at h1
   exact h1 (by decide +kernel)
 · exact e
abbrev s_number_in : Stmt := top 34
abbrev N_number_in : List Str := ["text", "fits"]
theorem sc_number_in : FnScope N_number_in ["text"] (qQ s_number_in) := ⟨rfl, rfl, rfl, by decide +kernel, rfl, by decide +kernel, by decide +kernel⟩
theorem okx_number_in {f CN : Addr} {fd : FuncData} (F : Fun K "number_in" "number_in" s_number_in f fd) (T : Txt mg) (x_NoText : Exc K mg "NoText" CN) (c_has_only : Callee P w K mg base 1 "has_only" ["text", "signs"] spOnly) : FnOk P w K mg base (CXF P w) 2 f fd ["text"] (spNInX CN) := by
 refine F.okX sc_number_in (fun vs H Q E h => ?_) (fun cdv A outer s H vs Q E hr h => ?_)
 · obtain ⟨z, rfl, _⟩ := h; rfl
 · obtain ⟨z, rfl, hsz, q1, q2⟩ := h
   refine ⟨_, (qV (yV (i := 1) sc_number_in.nd rfl (Or.inl rfl) (pe_and (pe_chain op_le op_le qG (yG call_len_str (by rfl) T.b_len PySem.boot_len (qJ (pv 0) qZ)) (yG call_len_str (by rfl) T.b_len PySem.boot_len (qJ (as_callTy call_strI (by rfl) T.b_str PyProof.Rows.boot_str (qJ (pe_gl T.g_GREATEST_NUMBER) qZ)) qZ))) (pe_one (yy c_has_only (hr.mono (by decide)) (qJ (pv 0) (qU (pe_gl T.g_DIGITS) qZ))))))
     (qV (ps_if (PW.pt (pw_or (pt_not (pt_val (pv 1))) (pw_or1 (pt_val (k_bm K PySem.F.plainAttrs_str PySem.F.slot_str_startswith PySem.F.type_str_startswith mt_startswith (pv 0) (yz qD pa_nil)))))) (qM (ps_raise x_NoText (qJ qD qZ))) pss_nil)
     (qM (yJ (as_callTy call_intS (by rfl) T.b_int PyProof.Rows.boot_int (qJ (pv 0) qZ)))))), ?_⟩
   have e6 : (nT 999999).length = 6 := by
     have := nT_cps 999999
     rw [← yY]
     show (nT ((999999 : Nat) : Int)).cps.toList.length = 6
     rw [this]
     decide +kernel
   have key : ∀ n : Nat, 1 ≤ n → n ≤ 999999 → z.cps.toList = dgT n → (1 ≤ z.length ∧ z.length ≤ 6) ∧ onlyIn "0123456789" z = true ∧ z.cps.toList.head? ≠ some 48 := fun n h1 h9 hz => by
     have hl := dgT_len 5 n (by omega)
     have hl1 : 1 ≤ (dgT n).length := List.length_pos_iff.mpr (dgT_ne n)
     rw [← yY, only_digs, hz]
     exact ⟨⟨hl1, hl⟩, dgT_dig n, dgT_head n h1⟩
   refine ⟨_, rfl, _, rfl, hsz, _, _, rfl, rfl, _, rfl, ite2 (fun b1 => ?_) (fun b1 => ?_)⟩
   · refine ⟨999999, rfl, n_log (by decide) (by decide), nT 999999, rfl, by rw [e6]; decide, _, _, rfl, rfl, _, rfl, ite2 (fun b2 => ?_) (fun b2 => ?_)⟩
     · refine ⟨_, rfl, _, _, rfl, by rw [← yY] at hsz; simpa using hsz, fun H1 s1 => ?_⟩
       have b1' : 1 ≤ z.length := by have := of_decide_eq_true b1; omega
       have b2' : z.length ≤ 6 := by have := of_decide_eq_true b2; rw [e6] at this; omega
       refine ⟨_, rfl, _, rfl, ite2 (fun b3 => ?_) (fun b3 => ?_)⟩
       · refine ⟨by decide, q2 (fun n h1 h9 hz => ?_) _ s1⟩
         rw [(key n h1 h9 hz).2.1] at b3
         cases b3
       · have b3' : onlyIn "0123456789" z = true := by
           cases e : onlyIn "0123456789" z with
           | true => rfl
           | false => rw [e] at b3; exact absurd rfl b3
         have hd := (only_digs z).mp b3'
         have e0 : ("0" : Str) = ⟨#[48]⟩ := by decide +kernel
         refine ⟨_, rfl, rfl, _, "0", rfl, rfl, _, rfl, ite2 (fun b4 => ?_) (fun b4 => ?_)⟩
         · refine ⟨by decide, q2 (fun n h1 h9 hz => ?_) _ s1⟩
           rw [e0, starts_one] at b4
           exact (key n h1 h9 hz).2.2 (of_decide_eq_true b4)
         · have hh : z.cps.toList.head? ≠ some 48 := fun e => b4 (by rw [e0, starts_one]; exact decide_eq_true e)
           have hne : z.cps.toList ≠ [] := fun e => by
             have := congrArg List.length e
             rw [yY] at this
             simp at this; omega
           refine ⟨_, rfl, _, rfl, hd, hne, by rw [yY]; omega, ?_⟩
           have h9 := digN_lt hd
           rw [yY] at h9
           have h10 := Nat.pow_le_pow_right (n := 10) (by decide) b2'
           exact q1 (digN z.cps.toList) (dgT_uniq hd hne hh).symm (digN_pos hd hne hh) (by rw [show (10 : Nat) ^ 6 = 1000000 from by decide] at h10; omega) _ s1
     · refine ⟨_, rfl, _, rfl, iteT ⟨by decide, q2 (fun n h1 h9 hz => b2 (decide_eq_true ?_)) _ (Same.refl _)⟩⟩
       have := (key n h1 h9 hz).1.2
       rw [e6]; omega
   · refine ⟨_, rfl, iteF ⟨_, rfl, _, rfl, iteT ⟨by decide, q2 (fun n h1 h9 hz => b1 (decide_eq_true ?_)) _ (Same.refl _)⟩⟩⟩
     have := (key n h1 h9 hz).1.1
     omega
theorem msg_iff (m : Msg) : isMsg (mD m) = true ↔ OkM m := by
 have e1 : ("abcdefghijklmnopqrstuvwxyz" : Str).cps.toList = List.range' 97 26 := by decide +kernel
 have e2 : ("abcdefghijklmnopqrstuvwxyz \n" : Str).cps.toList = List.range' 97 26 ++ [32, 10] := by decide +kernel
 have h1 : isNum (.int m.n) = true ↔ 1 ≤ m.n ∧ m.n ≤ 999999 := by
   show (decide _ && decide _) = true ↔ _
   rw [Bool.and_eq_true, decide_eq_true_iff, decide_eq_true_iff]
 have h2 : isTop (.str m.t) = true ↔ (1 ≤ m.t.cps.toList.length ∧ m.t.cps.toList.length ≤ 3 ∧ ∀ c ∈ m.t.cps.toList, 97 ≤ c ∧ c ≤ 122) := by
   show ((decide (1 ≤ (m.t.length : Int)) && decide ((m.t.length : Int) ≤ 3)) && onlyIn "abcdefghijklmnopqrstuvwxyz" m.t) = true ↔ _
   rw [Bool.and_eq_true, Bool.and_eq_true, decide_eq_true_iff, decide_eq_true_iff, only_iff, e1, yY, and_assoc]
   refine and_congr (by omega) (and_congr (by omega) ⟨fun h c hc => ?_, fun h c hc => ?_⟩)
   · have := List.mem_range'_1.mp (h c hc); omega
   · have := h c hc; exact List.mem_range'_1.mpr (by omega)
 have h3 : isTxt (.str m.x) = true ↔ (m.x.cps.toList.length ≤ 8 ∧ ∀ c ∈ m.x.cps.toList, (97 ≤ c ∧ c ≤ 122) ∨ c = 32 ∨ c = 10) := by
   show (decide ((m.x.length : Int) ≤ 8) && onlyIn "abcdefghijklmnopqrstuvwxyz \n" m.x) = true ↔ _
   rw [Bool.and_eq_true, decide_eq_true_iff, only_iff, e2, yY]
   refine and_congr (by omega) ⟨fun h c hc => ?_, fun h c hc => ?_⟩
   · rcases List.mem_append.mp (h c hc) with h | h
     · have := List.mem_range'_1.mp h; exact .inl (by omega)
     · simp only [List.mem_cons, List.not_mem_nil, or_false] at h; exact .inr h
   · refine List.mem_append.mpr ?_
     rcases h c hc with h | h | h
     · exact .inl (List.mem_range'_1.mpr (by omega))
     · exact .inr (by rw [h]; simp)
     · exact .inr (by rw [h]; simp)
 show (isNum (.int m.n) && (isTop (.str m.t) && isTxt (.str m.x))) = true ↔ _
 rw [Bool.and_eq_true, Bool.and_eq_true, h1, h2, h3]
 exact Iff.rfl
theorem lines_fr {n : Nat} {t : List Nat} {ps : List (List Nat)} (h : ps ≠ []) (hp : ∀ p ∈ ps, 10 ∉ p) : (idF ++ dgT n) :: (tpF ++ t) :: ps.map (dtF ++ ·) = frB ⟨(n : Int), ⟨t.toArray⟩, ⟨(jn ps).toArray⟩⟩ := by
 unfold frB
 simp only [Int.toNat_natCast]
 rw [spl_jn h hp]
theorem minG_ok {m : Msg} (h0 : 0 ≤ m.n) : minG (frB m) = if OkM m then some m else none := by
 unfold minG
 rw [minF_fr h0]
 simp
theorem len3 (m : Msg) : 3 ≤ (frB m).length := by
 have := List.length_pos_iff.mpr (spl_ne m.x.cps.toList)
 unfold frB; simp only [List.length_cons, List.length_map]; omega
theorem minG_no {ls : List (List Nat)} (h : ∀ m, OkM m → ls ≠ frB m) : minG ls = none := by
 cases e : minG ls with
 | none => rfl
 | some m => exact absurd (minG_some e).1 (h m (minG_some e).2)
abbrev s_message_in : Stmt := top 35
abbrev N_message_in : List Str := ["lines", "number", "topic", "text", "message"]
theorem sc_message_in : FnScope N_message_in ["lines"] (qQ s_message_in) := ⟨rfl, rfl, rfl, by decide +kernel, rfl, by decide +kernel, by decide +kernel⟩
theorem okx_message_in {f CN : Addr} {fd : FuncData} (F : Fun K "message_in" "message_in" s_message_in f fd) (T : Txt mg) (x_NoText : Exc K mg "NoText" CN) (cx_number_in : CalleeX P w K mg base 2 "number_in" ["text"] (spNInX CN)) (cx_without_front : CalleeX P w K mg base 1 "without_front" ["line", "front"] (spWFX CN)) (c_is_message : Callee P w K mg base 3 "is_message" ["thing"] (spLook fitT isMsg)) : FnOk P w K mg base (CXF P w) 4 f fd ["lines"] (spMInX CN) := by
 refine F.okX sc_message_in (fun vs H Q E h => ?_) (fun cdv A outer s H vs Q E hr h => ?_)
 · obtain ⟨a, ls, rfl, _⟩ := h; rfl
 · obtain ⟨a, ls, rfl, ha, hls, hll, q1, q2⟩ := h
   refine ⟨_, (qV (ps_if (yv op_lt (yG (k_len_seq K) (by rfl) T.b_len PySem.boot_len (qJ (pv 0) qZ)) qG (nomark _)) (qM (ps_raise x_NoText (qJ qD qZ))) pss_nil)
     (qV (yV (i := 1) sc_message_in.nd rfl (Or.inl rfl) (as_fnX cx_number_in (hr.mono (by decide)) pass_on (qJ (as_fnX cx_without_front (hr.mono (by decide)) pass_on (qJ (pe_ix (k_ix_list K) (pv 0) qG (fun _ _ => rfl)) (qU (pe_gl T.g_NUMBER_FRONT) qZ))) qZ)))
     (qV (yV (i := 2) sc_message_in.nd rfl (Or.inl rfl) (as_fnX cx_without_front (hr.mono (by decide)) pass_on (qJ (pe_ix (k_ix_list K) (pv 0) qG (fun _ _ => rfl)) (qU (pe_gl T.g_TOPIC_FRONT) qZ))))
     (qV (yV (i := 3) sc_message_in.nd rfl (Or.inl rfl) (k_bm K PySem.F.plainAttrs_str PySem.F.slot_str_join PySem.F.type_str_join (k_join K) qD (yz (pe_compX (N' := ["line"]) (ix := [none]) (own := [0]) rfl (cs_of (osc := qQ s_message_in) (ON := N_message_in) rfl rfl (by decide +kernel)) (by decide) (k_it_list K (pe_slice (k_sl_list K) (pv 0) (po_some qG) po_none)) (fun _ _ _ _ => (pg_name (i := 0) (show (["line"] : List Str).Nodup by decide +kernel) rfl (Or.inl rfl))) own_name (fun _ _ _ _ => pifs_nil) (fun _ _ _ _ => (as_fnX cx_without_front (hr.mono (by decide)) pass_blk (qJ (pv 0) (qU (pe_gl T.g_TEXT_FRONT) qZ)))) passF_on) pa_nil)))
     (qV (yV (i := 4) sc_message_in.nd rfl (Or.inl rfl) (as_tup (qU (pv 1) (qU (pv 2) (qU (pv 3) qZ)))))
     (qV (ps_if (pt_not (pt_val (yy c_is_message (hr.mono (by decide)) (qJ (pv 4) qZ)))) (qM (ps_raise x_NoText (qJ qD qZ))) pss_nil)
     (qM (yJ (pv 4))))))))), ?_⟩
   refine ⟨_, rfl, a, _, rfl, .inl (SqL.ofL ha), _, _, rfl, rfl, _, rfl, ite2 (fun b => ?_) (fun b => ?_)⟩
   · refine ⟨by decide, q2 (minG_no fun m _ e => ?_) _ (Same.refl _)⟩
     have := of_decide_eq_true b
     rw [List.length_map, e] at this
     have := len3 m
     omega
   have b' : ¬ ((ls.map sV).length : Int) < 3 := fun z => b (decide_eq_true z)
   rw [List.length_map] at b'
   obtain ⟨l0, l1, l2, r, rfl⟩ : ∃ l0 l1 l2 r, ls = l0 :: l1 :: l2 :: r := by
     match ls, b' with
     | l0 :: l1 :: l2 :: r, _ => exact ⟨l0, l1, l2, r, rfl⟩
     | [], b' => simp at b'
     | [_], b' => simp at b'
     | [_, _], b' => simp at b'
   have szm : ∀ {l : List Nat}, l.length ≤ 4000 → (⟨l.toArray⟩ : Str).length ≤ sizeLine := fun {l} h => by
     have : (⟨l.toArray⟩ : Str).length = l.length := by simp [Str.length]
     rw [this, sizeLine_eq]; omega
   have ci : ("id: " : Str).cps.toList = idF := by decide +kernel
   have ct : ("topic: " : Str).cps.toList = tpF := by decide +kernel
   have cd : ("data: " : Str).cps.toList = dtF := by decide +kernel
   have g0 := hls l0 (by simp)
   have g1 := hls l1 (by simp)
   refine ⟨_, rfl, a, _, 0, _, rfl, rfl, SqL.ofL ha, atI_nat (j := 0) rfl, _, "id: ", rfl, szm g0.1, fun l hl => ?_, fun hl => ?_⟩
   · have hl' : l0 = idF ++ l := by rw [← ci]; exact hl
     subst hl'
     have hg : l.length ≤ 4000 := by have := g0.1; rw [List.length_append] at this; omega
     refine ⟨_, rfl, szm hg, fun n hn n1 n9 H1 s1 => ?_, fun hno => ?_⟩
     · have hn' : l = dgT n := hn
       subst hn'
       have ha1 := s1 _ _ ha
       refine ⟨_, rfl, a, _, 1, _, rfl, rfl, SqL.ofL ha1, atI_nat (j := 1) rfl, _, "topic: ", rfl, szm g1.1, fun t ht => ?_, fun ht => ?_⟩
       · have ht' : l1 = tpF ++ t := by rw [← ct]; exact ht
         subst ht'
         refine ⟨rfl, _, rfl, _, rfl, a, _, rfl, SqL.ofL ha1, fun rr hrr => ?_⟩
         rw [cut_from (by decide)]
         have s2 := Same.new (o := .lst ((((idF ++ dgT n) :: (tpF ++ t) :: l2 :: r).map sV).drop (2 : Int).toNat)) hrr
         have e2 : upd H1 rr (.lst ((((idF ++ dgT n) :: (tpF ++ t) :: l2 :: r).map sV).drop (2 : Int).toNat)) rr = some (.lst ((l2 :: r).map sV)) := qY
         generalize upd H1 rr (.lst ((((idF ++ dgT n) :: (tpF ++ t) :: l2 :: r).map sV).drop (2 : Int).toNat)) = H2 at s2 e2 ⊢
         have hls2 : ∀ l ∈ l2 :: r, l.length ≤ 4000 ∧ 10 ∉ l := fun l hl => hls l (List.mem_cons_of_mem _ (List.mem_cons_of_mem _ hl))
         have hll2 : (l2 :: r).length ≤ 4000 := by simp at hll ⊢; omega
         have hne2 : (l2 :: r) ≠ [] := List.cons_ne_nil _ _
         have q2' : (∀ m, OkM m → (l2 :: r) ≠ (spl m.x.cps.toList).map (dtF ++ ·)) → ∀ H', Same H H' → E (.ref CN) none H' := fun hno => q2 (minG_no fun m om e => by
           injection e with _ e
           injection e with _ e
           exact hno m om e)
         have q1' : ∀ ps : List (List Nat), l2 :: r = ps.map (dtF ++ ·) → ps ≠ [] ∧ (∀ p ∈ ps, 10 ∉ p) ∧ minG ((idF ++ dgT n) :: (tpF ++ t) :: l2 :: r) = if OkM ⟨(n : Int), ⟨t.toArray⟩, ⟨(jn ps).toArray⟩⟩ then some ⟨(n : Int), ⟨t.toArray⟩, ⟨(jn ps).toArray⟩⟩ else none := fun ps hps => by
           have h1 : ps ≠ [] := fun e => by rw [e] at hps; cases hps
           have h2 : ∀ p ∈ ps, 10 ∉ p := fun p hp z => (hls2 (dtF ++ p) (by rw [hps]; exact List.mem_map.mpr ⟨p, hp, rfl⟩)).2 (List.mem_append_right _ z)
           refine ⟨h1, h2, ?_⟩
           rw [hps, lines_fr h1 h2]
           exact minG_ok (Int.natCast_nonneg _)
         generalize l2 :: r = R at e2 hls2 hll2 hne2 q1 q2' q1' q2 ⊢
         have k2 : ∀ H', Same H2 H' → SqL K H' rr (R.map sV) := fun H' s' => SqL.ofL (s' _ _ e2)
         refine ⟨rr, rfl, ⟨_, k2 _ (Same.refl _)⟩, (R.map sV).length, fun i ys H' => Same H2 H' ∧ ∃ ps : List (List Nat), ys = ps.map sV ∧ R.take i = ps.map (dtF ++ ·), ?_, ⟨Same.refl _, [], rfl, rfl⟩, ?_, ?_⟩
         · rw [List.length_map, sizeLine_eq]; omega
         · rintro i ys H' hi ⟨s3, ps, rfl, hps⟩
           rw [List.length_map] at hi
           have ec : (R.map sV)[i]? = some (sV R[i]) := by rw [List.getElem?_map, List.getElem?_eq_getElem hi]; rfl
           refine ⟨⟨_, _, k2 _ s3, ec⟩, ?_⟩
           rintro x H3 ⟨rfl, hx⟩
           have hx' := hx _ (k2 _ s3)
           rw [ec] at hx'
           obtain rfl := Option.some.inj hx'
           have hRi := hls2 _ (List.getElem_mem hi)
           refine rd_name (rd_yes (iteT ?_))
           refine ⟨_, rfl, _, "data: ", rfl, szm hRi.1, fun l hl => ⟨s3, ps ++ [l], by rw [List.map_append]; rfl, ?_⟩, fun hl => ?_⟩
           · have hl' : R[i] = dtF ++ l := by rw [← cd]; exact hl
             rw [List.take_add_one, List.getElem?_eq_getElem hi, hps, hl', List.map_append]; rfl
           · refine q2' (fun m om e => ?_) _ (s1.trans (s2.trans s3))
             have : R[i] ∈ (spl m.x.cps.toList).map (dtF ++ ·) := e ▸ List.getElem_mem hi
             obtain ⟨p, _, hp⟩ := List.mem_map.mp this
             exact hl p (by rw [cd]; exact hp.symm)
         · rintro ys H3 ⟨s3, ps, rfl, hps⟩
           rw [List.length_map, List.take_length] at hps
           obtain ⟨hne, hfree, hmin⟩ := q1' ps hps
           refine ⟨⟨_, k2 _ s3, Nat.le_refl _⟩, fun D hD => ?_⟩
           have hpl : ps.length ≤ 4000 := by rw [hps, List.length_map] at hll2; exact hll2
           have hpp : ∀ p ∈ ps, p.length ≤ 4000 := fun p hp => by
             have := (hls2 (dtF ++ p) (by rw [hps]; exact List.mem_map.mpr ⟨p, hp, rfl⟩)).1
             rw [List.length_append] at this; omega
           have ej : V.str (Txt.join "\n" (ps.map mkS)) = sV (jn ps) := sV_of (by
             rw [join_jn, List.map_map]
             have : ((fun (y : Str) => y.cps.toList) ∘ mkS) = id := by funext l; simp [mkS]
             rw [this, List.map_id])
           have hsum := sum_le ps hpp
           have hsz : ((ps.map mkS).map (fun z : Str => z.length)).sum ≤ 16000000 := by
             have e2 : ((fun (z : Str) => z.length) ∘ mkS) = List.length := by funext l; simp [mkS, Str.length]
             rw [List.map_map, e2]
             have := Nat.mul_le_mul_right 4000 hpl
             omega
           refine ⟨"\n", D, ps.map mkS, rfl, rfl, ?_, ?_, ?_⟩
           · rw [List.map_map (g := V.str)]; exact SqL.ofL qY
           · have e : ("\n" : Str).length = 1 := by decide +kernel
             rw [e, List.length_map]
             omega
           rw [ej]
           have hjl : (⟨(jn ps).toArray⟩ : Str).length ≤ sizeLine := by
             have h1 := jn_len hpp
             have h2 := Nat.mul_le_mul_right 4001 hpl
             have : (⟨(jn ps).toArray⟩ : Str).length = (jn ps).length := by simp [Str.length]
             rw [this, sizeLine_eq]; omega
           have htl : (⟨t.toArray⟩ : Str).length ≤ sizeLine := szm (by have := g1.1; rw [List.length_append] at this; omega)
           have s4 := Same.new (o := .lst (ps.map sV)) hD
           generalize upd H3 D (.lst (ps.map sV)) = H4 at s4 ⊢
           refine ⟨_, rfl, _, rfl, _, rfl, (show 3 ≤ sizeLine by decide), fun c hc => ?_⟩
           have s5 := Same.new (o := mT ⟨(n : Int), ⟨t.toArray⟩, ⟨(jn ps).toArray⟩⟩) hc
           have e5 : upd H4 c (mT ⟨(n : Int), ⟨t.toArray⟩, ⟨(jn ps).toArray⟩⟩) c = some (mT ⟨(n : Int), ⟨t.toArray⟩, ⟨(jn ps).toArray⟩⟩) := qY
           show (fun H5 : Hp => _) (upd H4 c (mT ⟨(n : Int), ⟨t.toArray⟩, ⟨(jn ps).toArray⟩⟩))
           generalize upd H4 c (mT ⟨(n : Int), ⟨t.toArray⟩, ⟨(jn ps).toArray⟩⟩) = H5 at s5 e5
           have sall := s1.trans (s2.trans (s3.trans (s4.trans s5)))
           refine ⟨_, rfl, .ref c, mD ⟨(n : Int), ⟨t.toArray⟩, ⟨(jn ps).toArray⟩⟩, rfl, msg_has e5, ?_, fun H6 s6 => ⟨_, rfl, ite2 (fun b => ?_) (fun b => ?_)⟩⟩
           · intro x hx
             simp only [List.mem_cons, List.not_mem_nil, or_false] at hx
             rcases hx with rfl | rfl | rfl
             · trivial
             · exact htl
             · exact hjl
           · refine ⟨by decide, q2 ?_ _ (sall.trans s6)⟩
             rw [hmin, if_neg fun o => ?_]
             rw [(msg_iff _).mpr o] at b
             cases b
           · have ok : OkM ⟨(n : Int), ⟨t.toArray⟩, ⟨(jn ps).toArray⟩⟩ := (msg_iff _).mp (by
               cases e : isMsg (mD ⟨(n : Int), ⟨t.toArray⟩, ⟨(jn ps).toArray⟩⟩) with
               | true => rfl
               | false => rw [e] at b; exact absurd rfl b)
             rw [if_pos ok] at hmin
             exact ⟨_, rfl, q1 _ hmin c _ (sall.trans s6) (s6 _ _ e5)⟩
       · refine q2 (minG_no fun m _ e => ?_) _ s1
         injection e with _ e
         injection e with e _
         exact ht _ (by rw [ct]; exact e)
     · refine q2 (minG_no fun m om e => ?_)
       injection e with e _
       have e' : l = dgT m.n.toNat := List.append_cancel_left e
       have h1 := om.1.1
       have h2 := om.1.2
       exact absurd e' (hno m.n.toNat (by omega) (by omega))
   · refine q2 (minG_no fun m _ e => ?_) _ (Same.refl _)
     injection e with e _
     exact hl _ (by rw [ci]; exact e)
abbrev s_Reader___init__ : Stmt := inClass (top 36) 0
abbrev N_Reader___init__ : List Str := ["self"]
theorem sc_Reader___init__ : FnScope N_Reader___init__ ["self"] (qQ s_Reader___init__) := ⟨rfl, rfl, rfl, by decide +kernel, rfl, by decide +kernel, by decide +kernel⟩
theorem ok_Reader_init {f C : Addr} {fd : FuncData} (F : Fun K "__init__" "Reader.__init__" s_Reader___init__ f fd) (TC : ReaderC K mg C) : FnOk P w K mg base CX0 1 f fd ["self"] (spDInit C) := by
 refine F.ok sc_Reader___init__ (fun vs H Q E h => ?_) (fun cdv A outer s H vs Q E hr h => ?_)
 · obtain ⟨p, dx, rfl, _⟩ := h; rfl
 · obtain ⟨p, dx, rfl, hp, q⟩ := h
   refine ⟨_, (qV (k_sfld K (pv 0) qD rfl)
     (qM (k_sfld K (pv 0) (as_lst qZ) rfl))), ?_⟩
   have l1 := putF_len "line_begun" (.str "") []
   have l0 : ([] : List (Str × V)).length = 0 := rfl
   refine ⟨_, rfl, p, C, dx, [], rfl, hp, TC.cl_Reader, TC.n_line_begun, (by show 0 < 1000; decide), ?_⟩
   refine ⟨Nat.zero_le _, fun r hr => ?_⟩
   have npr : p ≠ r := qy qY hr
   refine ⟨_, rfl, p, C, dx, _, rfl, (by rw [qv npr]; exact qY), TC.cl_Reader, TC.n_lines_begun, by omega, ?_⟩
   rw [rdF_make]
   have hr0 : H r = none := by rw [qv npr.symm] at hr; exact hr
   refine q r _ ⟨⟨dx, qY⟩, ?_⟩ ⟨fun b o e hb => ?_, fun b xs e => ?_, fun c hc => ?_⟩
   · rw [qv npr.symm, qY]; rfl
   · have hb' : b ≠ p := by simpa using hb
     rw [qv hb', qv (qy e hr0), qv hb']; exact e
   · have hb' : b ≠ p := ne_of e hp (by intro z; cases z)
     rw [qv hb', qv (qy e hr0), qv hb']; exact e
   · simp only [List.mem_cons, List.not_mem_nil, or_false] at hc
     rcases hc with rfl | rfl
     · exact .inl (by simp)
     · exact .inr hr0
def spFeedX (C CN : Addr) : Sp := fun vs H Q E => ∃ (p l : Addr) (z : Str) (ls : List (List Nat)) (cur : List Nat), vs = [.ref p, .str z] ∧ DAt C H p ls cur l ∧ 10 ∉ cur ∧ (∀ x ∈ ls, x.length ≤ 4000 ∧ 10 ∉ x) ∧ ls.length + cur.length + z.cps.toList.length ≤ 4000 ∧
 (∀ ms ls' cur', rdC ([], ls, cur) z.cps.toList = some (ms, ls', cur') → ∀ q ys l' H', DAt C H' p ls' cur' l' → Stp [p, l] H [p, l'] H' → H q = none → q ∉ [p, l'] → H' q = some (.lst ys) → Ms H' ys ms → Q (.ref q) H') ∧
 (rdC ([], ls, cur) z.cps.toList = none → ∀ H', Same H H' → E (.ref CN) none H')
theorem fold_to {α β : Type} {f : α → β → Option α} {a s s' : α} {D : List β} {i : Nat} (hi : i < D.length) (hs : (D.take i).foldlM f a = some s) (h : f s D[i] = some s') : (D.take (i + 1)).foldlM f a = some s' := by
 rw [List.take_add_one, List.getElem?_eq_getElem hi, List.foldlM_append, hs]
 show (f s D[i]).bind (fun q => some q) = _
 rw [h]; rfl
theorem fold_no {α β : Type} {f : α → β → Option α} {a s : α} {D : List β} {i : Nat} (hi : i < D.length) (hs : (D.take i).foldlM f a = some s) (h : f s D[i] = none) : D.foldlM f a = none := by
 have e : D = D.take i ++ D[i] :: D.drop (i + 1) := by rw [← List.drop_eq_getElem_cons hi, List.take_append_drop]
 rw [e, List.foldlM_append, hs]
 show (f s D[i]).bind (fun q => List.foldlM f q (D.drop (i + 1))) = none
 rw [h]; rfl
abbrev s_Reader_feed : Stmt := inClass (top 36) 1
abbrev N_Reader_feed : List Str := ["self", "piece", "found", "lines", "parts", "line"]
theorem sc_Reader_feed : FnScope N_Reader_feed ["self", "piece"] (qQ s_Reader_feed) := ⟨rfl, rfl, rfl, by decide +kernel, rfl, by decide +kernel, by decide +kernel⟩
theorem okx_Reader_feed {f C CN : Addr} {fd : FuncData} (F : Fun K "feed" "Reader.feed" s_Reader_feed f fd) (T : Txt mg) (TC : ReaderC K mg C) (cx_message_in : CalleeX P w K mg base 4 "message_in" ["lines"] (spMInX CN)) : FnOk P w K mg base (CXF P w) 5 f fd ["self", "piece"] (spFeedX C CN) := by
 refine F.okX sc_Reader_feed (fun vs H Q E h => ?_) (fun cdv A outer s H vs Q E hr h => ?_)
 · obtain ⟨p, l, z, ls, cur, rfl, _⟩ := h; rfl
 · obtain ⟨p, l, z, ls, cur, rfl, hD, hc, hlsx, hl, q, qe⟩ := h
   refine ⟨_, (qV (yV (i := 2) sc_Reader_feed.nd rfl (Or.inl rfl) (as_lst qZ))
     (qV (yV (i := 3) sc_Reader_feed.nd rfl (Or.inl rfl) (as_callTy (k_list_of K) (by rfl) T.b_list PyProof.Rows.boot_list (qJ (k_fld K (pv 0) rfl) qZ)))
     (qV (yV (i := 4) sc_Reader_feed.nd rfl (Or.inl rfl) (k_bm K PySem.F.plainAttrs_str PySem.F.slot_str_split PySem.F.type_str_split mt_split (qz qB (k_fld K (pv 0) rfl) (pv 1)) (yz qD pa_nil)))
     (qV (ps_for PassesOwn.leaving rfl (k_it_list K (pe_slice (k_sl_list K) (pv 4) po_none (po_some (pe_un un_neg qG)))) (pg_name (i := 5) sc_Reader_feed.nd rfl (Or.inl rfl)) (qM (ps_if (PW.pt (pw_and (yv op_eq (pv 5) qD (nomark _)) (pw_and1 (yv (k_ne0 K hr.units0) (pv 3) (as_lst qZ) (nomark _))))) (qV (ps_expr (k_bm K PySem.F.plainAttrs_list PySem.F.slot_list_append PySem.F.type_list_append mt_append (pv 2) (yz (as_fnX cx_message_in (hr.mono (by decide)) pass_on (qJ (pv 3) qZ)) pa_nil)))
     (qM (yV (i := 3) sc_Reader_feed.nd rfl (Or.inl rfl) (as_lst qZ)))) (qM (ps_if (PW.pt (pw_and (yv op_ne (pv 5) qD (nomark _)) (pw_and1 (pt_not (pt_val (k_bm K PySem.F.plainAttrs_str PySem.F.slot_str_startswith PySem.F.type_str_startswith mt_startswith (pv 5) (yz (pe_gl T.g_LEFT_OUT_FRONT) pa_nil))))))) (qM (ps_expr (k_bm K PySem.F.plainAttrs_list PySem.F.slot_list_append PySem.F.type_list_append mt_append (pv 3) (yz (pv 5) pa_nil)))) pss_nil)))))
     (qV (k_sfld K (pv 0) (pe_ix (k_ix_list K) (pv 4) (pe_un un_neg qG) (fun _ _ => rfl)) rfl)
     (qV (k_sfld K (pv 0) (pv 3) rfl)
     (qM (yJ (pv 2))))))))), ?_⟩
   have hwl := spl_len (cur ++ z.cps.toList)
   rw [List.length_append] at hwl
   obtain ⟨W, last, eW⟩ : ∃ W last, spl (cur ++ z.cps.toList) = W ++ [last] := by
     have := spl_ne (cur ++ z.cps.toList)
     exact ⟨_, _, (List.dropLast_concat_getLast this).symm⟩
   have hcat : ((⟨cur.toArray⟩ : Str) ++ z).cps.toList = cur ++ z.cps.toList := by rw [yM]
   have hrun : rdC ([], ls, cur) z.cps.toList = (W.foldlM closeL ([], ls)).map fun q => (q.1, q.2, last) := by
     rw [run_lines _ _ _ _ hc, eW, List.dropLast_concat]
     congr 1
     funext q
     simp
   have hWx : ∀ x ∈ W, x.length ≤ 4000 ∧ 10 ∉ x := fun x hx => by
     have hx' : x ∈ spl (cur ++ z.cps.toList) := by rw [eW]; exact List.mem_append_left _ hx
     have h1 := spl_part _ x hx'
     rw [List.length_append] at h1
     exact ⟨by omega, spl_all _ x hx'⟩
   rw [eW] at hwl
   rw [List.length_append, List.length_singleton] at hwl
   obtain ⟨⟨dx, h1⟩, h2⟩ := id hD
   refine ⟨Nat.zero_le _, fun f0 hf0 => ?_⟩
   have s1 := Same.new (o := .lst []) hf0
   have e1 : upd H f0 (.lst []) f0 = some (.lst []) := qY
   generalize upd H f0 (.lst []) = H1 at s1 e1 ⊢
   refine ⟨_, rfl, p, C, dx, _, _, rfl, s1 _ _ h1, TC.cl_Reader, TC.n_lines_begun, rdF_lines, l, _, rfl, .inl (SqL.ofL (s1 _ _ h2)), fun l3 hl3 => ?_⟩
   have s2 := Same.new (o := .lst (ls.map sV)) hl3
   have e2 : upd H1 l3 (.lst (ls.map sV)) l3 = some (.lst (ls.map sV)) := qY
   have hl30 : H l3 = none := same_none s1 hl3
   have n30 : l3 ≠ f0 := fun e => by rw [e, e1] at hl3; cases hl3
   have e1' := s2 _ _ e1
   generalize upd H1 l3 (.lst (ls.map sV)) = H2 at s2 e2 e1' ⊢
   have s12 := s1.trans s2
   refine ⟨_, rfl, p, C, dx, _, _, rfl, s12 _ _ h1, TC.cl_Reader, TC.n_line_begun, rdF_line, _, rfl, _, _, rfl, rfl, ?_, rfl, _, "\n", rfl, rfl, by decide +kernel, ?_, fun r4 hr4 => ?_⟩
   · rw [← yY, ← yY, sizeLine_eq]; simp; simp at hl; omega
   · rw [← yY, hcat, List.length_append, sizeLine_eq]; omega
   rw [split_spl, hcat, eW]
   have s3 := Same.new (o := .lst (((W ++ [last]).map fun l => (⟨l.toArray⟩ : Str)).map V.str)) hr4
   have e3 : upd H2 r4 (.lst (((W ++ [last]).map fun l => (⟨l.toArray⟩ : Str)).map V.str)) r4 = some (.lst ((W ++ [last]).map sV)) := by rw [qY, List.map_map]; rfl
   generalize upd H2 r4 (.lst (((W ++ [last]).map fun l => (⟨l.toArray⟩ : Str)).map V.str)) = H3 at s3 e3 ⊢
   have s13 := s12.trans s3
   have e1'' := s3 _ _ e1'
   have e2'' := s3 _ _ e2
   have n43 : l3 ≠ r4 := fun e => by rw [e, hr4] at e2; cases e2
   have n40 : f0 ≠ r4 := fun e => by rw [e, hr4] at e1'; cases e1'
   refine ⟨_, rfl, 1, rfl, _, rfl, r4, _, rfl, SqL.ofL e3, fun r5 hr5 => ?_⟩
   have ecut : cutV ((W ++ [last]).map sV) none (some (-1)) = W.map sV := by rw [cut_last, List.map_append]; exact List.dropLast_concat
   rw [show (-(1 : Int)) = -1 from rfl, ecut]
   have s4 := Same.new (o := .lst (W.map sV)) hr5
   have e4 : upd H3 r5 (.lst (W.map sV)) r5 = some (.lst (W.map sV)) := qY
   have n53 : l3 ≠ r5 := fun e => by rw [e, hr5] at e2''; cases e2''
   have n50 : f0 ≠ r5 := fun e => by rw [e, hr5] at e1''; cases e1''
   have e34 := s4 _ _ e3
   have e14 := s4 _ _ e1''
   have e24 := s4 _ _ e2''
   generalize upd H3 r5 (.lst (W.map sV)) = H4 at s4 e4 e34 e14 e24 ⊢
   have s14 := s13.trans s4
   refine ⟨r5, rfl, ⟨_, SqL.ofL e4⟩, for_list (K := K) (a := r5) (xs := W.map sV) (fun i σ H' => ∃ (li : Addr) (o5 : Option V) (ys : List V) (msi : List Msg) (lsi : List (List Nat)), σ = [some (.ref p), some (.str z), some (.ref f0), some (.ref li), some (.ref r4), o5] ∧
       H' f0 = some (.lst ys) ∧ Ms H' ys msi ∧ H' li = some (.lst (lsi.map sV)) ∧ (W.take i).foldlM closeL ([], ls) = some (msi, lsi) ∧ Same H H' ∧ H' r4 = some (.lst ((W ++ [last]).map sV)) ∧ H' r5 = some (.lst (W.map sV)) ∧ li ≠ f0 ∧ H li = none ∧ li ≠ r4 ∧ li ≠ r5 ∧ msi.length ≤ i ∧ lsi.length ≤ ls.length + i ∧ ∀ x ∈ lsi, x.length ≤ 4000 ∧ 10 ∉ x)
     ⟨l3, none, [], [], ls, rfl, e14, Ms.nil, e24, rfl, s14, e34, e4, n30, hl30, n43, n53, Nat.le_refl _, Nat.le_refl _, hlsx⟩ (fun i σ H' _ ⟨_, _, _, _, _, _, _, _, _, _, _, _, h5, _⟩ => SqL.ofL h5) ?_ ?_⟩
   · rintro i y σ H' hi ⟨li, o5, ys, msi, lsi, rfl, hf, hM, hli, hfo, sH, h4, h5, nl0, hli0, nl4, nl5, hmi, hlsi, hlx⟩
     rw [List.getElem?_map] at hi
     have hiW : i < W.length := by
       cases e : W[i]? with
       | none => rw [e] at hi; cases hi
       | some w => exact (List.getElem?_eq_some_iff.mp e).1
     rw [List.getElem?_eq_getElem hiW] at hi
     obtain rfl := Option.some.inj hi
     have fto := fun s' h => fold_to (s' := s') hiW hfo h
     have fno := fun h => fold_no hiW hfo h
     have hlx2 := hWx W[i] (List.getElem_mem hiW)
     generalize W[i] = line at fto fno hlx2 ⊢
     have ee : decide (sV line = V.str "") = decide (line = []) := by
       have e0 : ("" : Str).cps.toList = [] := by decide +kernel
       by_cases hc : line = []
       · rw [decide_eq_true hc, hc]; exact decide_eq_true rfl
       · rw [decide_eq_false hc]
         refine decide_eq_false fun w => hc ?_
         injection w with w
         have := congrArg (fun z : Str => z.cps.toList) w
         rw [e0] at this
         simpa using this
     refine rd_name ?_
     refine ⟨_, rfl, rfl, ?_⟩
     refine ⟨_, rfl, ?_⟩
     rw [ee]
     unfold closeL at fto fno
     have c1 : (":" : Str) = ⟨#[58]⟩ := by decide +kernel
     by_cases hne : line = []
     · rw [if_pos hne] at fto fno
       refine ite2 (fun _ => ?_) (fun z => absurd (decide_eq_true hne) z)
       refine ⟨_, rfl, Nat.zero_le _, fun r hr => ?_⟩
       have t1 := Same.new (o := .lst []) hr
       have er : upd H' r (.lst []) r = some (.lst []) := qY
       have hf1 := t1 _ _ hf
       have hli1 := t1 _ _ hli
       have h41 := t1 _ _ h4
       have h51 := t1 _ _ h5
       have hM1 := hM.same t1
       have sH1 := sH.trans t1
       generalize upd H' r (.lst []) = G1 at t1 er hf1 hli1 h41 h51 hM1 sH1 ⊢
       refine ⟨li, r, _, rfl, rfl, SqL.ofL hli1, SqL.ofL er, _, rfl, ?_⟩
       by_cases hls : lsi = []
       · rw [if_pos hls] at fto
         have hfo' := fto _ rfl
         subst hls
         refine iteF ?_
         have eq : sV line = V.str "" := of_decide_eq_true (by rw [ee]; exact decide_eq_true hne)
         refine ⟨_, rfl, rfl, _, rfl, ite2 (fun z => absurd eq (by simpa using z)) (fun _ => ?_)⟩
         refine iteF ?_
         exact ⟨li, _, ys, msi, [], rfl, hf1, hM1, hli1, hfo', sH1, h41, h51, nl0, hli0, nl4, nl5, Nat.le_succ_of_le hmi, Nat.zero_le _, nofun⟩
       · rw [if_neg hls] at fto fno
         dsimp only at fto fno
         refine ite2 (fun _ => ?_) (fun z => ?_)
         · refine ⟨_, rfl, .inl ⟨rfl, _, SqL.ofL hf1⟩, _, rfl, li, lsi, rfl, hli1, hlx, by omega, fun m hm c G2 u2 hc => ?_, fun hm => ?_⟩
           · have hfo' := fto (msi ++ [m], []) (by rw [hm]; rfl)
             refine ⟨f0, ys, .ref c, rfl, rfl, u2 _ _ hf1, (by rw [hM1.len, sizeLine_eq]; omega), ?_⟩
             have st3 : Stp [f0] G2 [f0] (upd G2 f0 (.lst (ys ++ [.ref c]))) := Stp.put (u2 _ _ hf1) (by intro xs w; cases w) (by simp)
             have hM3 : Ms (upd G2 f0 (.lst (ys ++ [.ref c]))) (ys ++ [.ref c]) (msi ++ [m]) := ((hM1.same u2).append (Ms.one hc)).step st3
             have hf3 : upd G2 f0 (.lst (ys ++ [.ref c])) f0 = some (.lst (ys ++ [.ref c])) := qY
             have h43 : upd G2 f0 (.lst (ys ++ [.ref c])) r4 = some (.lst ((W ++ [last]).map sV)) := by rw [qv n40.symm]; exact u2 _ _ h41
             have h53 : upd G2 f0 (.lst (ys ++ [.ref c])) r5 = some (.lst (W.map sV)) := by rw [qv n50.symm]; exact u2 _ _ h51
             have sH3 : Same H (upd G2 f0 (.lst (ys ++ [.ref c]))) := same_upd (sH1.trans u2) hf0
             generalize upd G2 f0 (.lst (ys ++ [.ref c])) = G3 at st3 hM3 hf3 h43 h53 sH3 ⊢
             refine ⟨Nat.zero_le _, fun l' hl' => ?_⟩
             have t4 := Same.new (o := .lst []) hl'
             refine ⟨l', _, ys ++ [.ref c], msi ++ [m], [], rfl, t4 _ _ hf3, hM3.same t4, qY, hfo', sH3.trans t4, t4 _ _ h43, t4 _ _ h53, ?_, same_none sH3 hl', ?_, ?_, ?_, Nat.zero_le _, nofun⟩
             · intro e; rw [e, hf3] at hl'; cases hl'
             · intro e; rw [e, h43] at hl'; cases hl'
             · intro e; rw [e, h53] at hl'; cases hl'
             · rw [List.length_append, List.length_singleton]; omega
           · have hno : W.foldlM closeL ([], ls) = none := fno (by rw [hm]; rfl)
             rw [hno] at hrun
             exact fun H5 s5 => qe hrun _ (sH1.trans s5)
         · refine absurd ?_ z
           cases lsi with
           | nil => exact absurd rfl hls
           | cons a q => rfl
     · rw [if_neg hne] at fto
       refine ite2 (fun z => absurd (of_decide_eq_true z) hne) (fun _ => ?_)
       refine iteF ?_
       have neq : sV line ≠ V.str "" := fun w => hne (of_decide_eq_true (by rw [← ee]; exact decide_eq_true w))
       refine ⟨_, rfl, rfl, _, rfl, ite2 (fun _ => ?_) (fun z => absurd (by simpa using neq) z)⟩
       refine ⟨_, rfl, rfl, _, ":", rfl, rfl, ?_⟩
       rw [c1, starts_one]
       by_cases h58 : line.head? = some 58
       · rw [if_pos h58] at fto
         have hfo' := fto _ rfl
         have ed : decide ((⟨line.toArray⟩ : Str).cps.toList.head? = some 58) = true := decide_eq_true (by simpa using h58)
         rw [ed]
         refine ⟨_, rfl, iteF ?_⟩
         exact ⟨li, _, ys, msi, lsi, rfl, hf, hM, hli, hfo', sH, h4, h5, nl0, hli0, nl4, nl5, Nat.le_succ_of_le hmi, Nat.le_succ_of_le hlsi, hlx⟩
       · rw [if_neg h58] at fto
         have hfo' := fto _ rfl
         have ed : decide ((⟨line.toArray⟩ : Str).cps.toList.head? = some 58) = false := decide_eq_false (by simpa using h58)
         rw [ed]
         refine ⟨_, rfl, ite2 (fun _ => ?_) (fun z => absurd rfl z)⟩
         refine ⟨_, rfl, .inl ⟨rfl, _, SqL.ofL hli⟩, _, rfl, li, _, _, rfl, rfl, hli, (by rw [List.length_map, sizeLine_eq]; omega), ?_⟩
         have st3 : Stp [li] H' [li] (upd H' li (.lst (lsi.map sV ++ [sV line]))) := Stp.put hli (by intro xs w; cases w) (by simp)
         refine ⟨li, _, ys, msi, lsi ++ [line], rfl, by rw [qv nl0.symm]; exact hf, hM.step st3, by rw [qY, List.map_append]; rfl, hfo', same_upd sH hli0, by rw [qv nl4.symm]; exact h4, by rw [qv nl5.symm]; exact h5, nl0, hli0, nl4, nl5, Nat.le_succ_of_le hmi, ?_, fun x hx => ?_⟩
         · rw [List.length_append, List.length_singleton]; omega
         · rcases List.mem_append.mp hx with hx | hx
           · exact hlx x hx
           · rw [List.mem_singleton.mp hx]; exact hlx2
   · rintro σ H' ⟨li, o5, ys, msi, lsi, rfl, hf, hM, hli, hfo, sH, h4, h5, nl0, hli0, nl4, nl5, hmi, hlsi, hlx⟩
     rw [List.length_map, List.take_length] at hfo
     rw [hfo] at hrun
     refine ⟨_, rfl, 1, rfl, r4, _, -1, _, rfl, rfl, SqL.ofL h4, (by rw [List.map_append]; exact atI_last _ _), _, rfl, p, C, dx, _, rfl, sH _ _ h1, TC.cl_Reader, TC.n_line_begun, (by show 2 < 1000; decide), ?_⟩
     refine ⟨_, rfl, _, rfl, p, C, dx, _, rfl, qY, TC.cl_Reader, TC.n_lines_begun, (by have := putF_len "line_begun" (sV last) (rdF ⟨cur.toArray⟩ l); show _ < 1000; unfold rdF at this ⊢; simp at this; omega), ?_⟩
     rw [show putF "lines_begun" (.ref li) (putF "line_begun" (sV last) (rdF ⟨cur.toArray⟩ l)) = rdF ⟨last.toArray⟩ li from rdF_set]
     have npl : p ≠ li := fun e => by rw [e, hli0] at h1; cases h1
     have npf : p ≠ f0 := fun e => by rw [e, hf0] at h1; cases h1
     refine ⟨_, rfl, q msi lsi last hrun f0 ys li _ ⟨⟨dx, qY⟩, ?_⟩ ⟨fun b o e hb => ?_, fun b xs e => ?_, fun c hc => ?_⟩ hf0 ?_ ?_ ?_⟩
     · rw [qv npl.symm, qv npl.symm]; exact hli
     · have hb' : b ≠ p := fun w => hb (by simp [w])
       rw [qv hb', qv hb']; exact sH _ _ e
     · have hb' : b ≠ p := ne_of e h1 (by intro z; cases z)
       rw [qv hb', qv hb']; exact sH _ _ e
     · simp only [List.mem_cons, List.not_mem_nil, or_false] at hc
       rcases hc with rfl | rfl
       · exact .inl (by simp)
       · exact .inr hli0
     · simp only [List.mem_cons, List.not_mem_nil, or_false, not_or]
       exact ⟨npf.symm, nl0.symm⟩
     · rw [qv npf.symm, qv npf.symm]; exact hf
     · refine (hM.step (Stp.put (ps := [p]) (sH _ _ h1) (by intro xs w; cases w) (by simp))).step (Stp.put (ps := [p]) qY (by intro xs w; cases w) (by simp))
def spReadX (CN : Addr) : Sp := fun vs H Q E => ∃ (z : Str), vs = [.str z] ∧ z.cps.toList.length ≤ 4000 ∧
 (∀ ms, rdA z.cps.toList = some ms → ∀ q ys H', Same H H' → H q = none → H' q = some (.lst ys) → Ms H' ys ms → Q (.ref q) H') ∧ (rdA z.cps.toList = none → ∀ H', Same H H' → E (.ref CN) none H')
abbrev s_read : Stmt := top 37
abbrev N_read : List Str := ["text", "messages"]
theorem sc_read : FnScope N_read ["text"] (qQ s_read) := ⟨rfl, rfl, rfl, by decide +kernel, rfl, by decide +kernel, by decide +kernel⟩
theorem okx_read {f C CN : Addr} {fd : FuncData} (F : Fun K "read" "read" s_read f fd) (TC : ReaderC K mg C) (x_NoText : Exc K mg "NoText" CN) (i_Reader : CalleeI P w K mg base 1 C ["self"] (spDInit C)) (mx_feed : CalleeMX P w K mg base 5 C "feed" ["self", "piece"] (spFeedX C CN)) (c_stream_text : Callee P w K mg base 4 "stream_text" ["messages"] spSmT) : FnOk P w K mg base (CXF P w) 6 f fd ["text"] (spReadX CN) := by
 refine F.okX sc_read (fun vs H Q E h => ?_) (fun cdv A outer s H vs Q E hr h => ?_)
 · obtain ⟨z, rfl, _⟩ := h; rfl
 · obtain ⟨z, rfl, hz, q1, q2⟩ := h
   refine ⟨_, (qV (yV (i := 1) sc_read.nd rfl (Or.inl rfl) (as_methX mx_feed TC.cl_Reader (hr.mono (by decide)) pass_on (as_make0 i_Reader (hr.mono (by decide)) TC.mg_Reader) (qJ (pv 0) qZ)))
     (qV (ps_if (yv op_ne (yy c_stream_text (hr.mono (by decide)) (qJ (pv 1) qZ)) (pv 0) (nomark _)) (qM (ps_raise x_NoText (qJ qD qZ))) pss_nil)
     (qM (yJ (pv 1))))), ?_⟩
   have sv : ∀ X : List Nat, sV X = V.str z ↔ X = z.cps.toList := fun X => by
     refine ⟨fun e => ?_, fun e => by rw [e]; unfold sV; rw [str_mk]⟩
     injection e with e
     rw [← e]
   intro p dx np nd nx
   have o1 := Stp.obj (o := .own p) (o' := .ins C dx []) np nd
   refine ⟨p, dx, rfl, qY, fun l1 H1 hD1 st1 => ⟨rfl, ?_⟩⟩
   have st := o1.trans st1
   obtain ⟨dx2, hob⟩ := id hD1.ob
   refine ⟨p, dx2, _, rfl, hob, rdF_no (by decide +kernel) (by decide +kernel), _, rfl, p, l1, z, [], [], rfl, hD1, nofun, nofun, by show 0 + 0 + _ ≤ _; omega, fun ms ls' cur' hrun a ys l' H2 hD2 st2 ha na ha2 hM2 => ?_, fun hno H2 s2 => q2 (by unfold rdA; rw [hno]; rfl) _ (st.same.trans s2)⟩
   have st12 := st.trans st2
   have hok := run_okm _ hrun nofun
   have hml : ms.length ≤ 0 + z.cps.toList.length := hok.2
   refine ⟨_, rfl, a, ys, ms, rfl, ha2, hM2, by omega, hok.1, fun H3 t3 => ⟨_, rfl, rfl, _, rfl, ite2 (fun b => ?_) (fun b => ?_)⟩⟩
   · refine ⟨by decide, q2 ?_ _ (st12.same.trans t3)⟩
     unfold rdA
     rw [hrun]
     show (if (ms.map frC).flatten = z.cps.toList then some ms else none) = none
     rw [if_neg fun e => ?_]
     simp [(sv _).mpr e] at b
   · have e : (ms.map frC).flatten = z.cps.toList := by
       refine Classical.byContradiction fun ne => b ?_
       rw [decide_eq_false (fun w => ne ((sv _).mp w))]; rfl
     have hA : rdA z.cps.toList = some ms := by
       unfold rdA
       rw [hrun]
       show (if (ms.map frC).flatten = z.cps.toList then some ms else none) = some ms
       rw [if_pos e]
     exact ⟨_, rfl, q1 ms hA a ys H3 (st12.same.trans t3) (same_none st.same ha) (t3 _ _ ha2) (hM2.same t3)⟩
theorem no_j {g tr : Int} {o r t b : Addr} {f : Str} (h : f = "write" ∨ f = "told" ∨ f = "trim" ∨ f = "refuse_unknown" ∨ f = "kept" ∨ f = "last" ∨ f = "last_at" ∨ f = "state_at" ∨ f = "step_on" ∨ f = "do_step") : (jF g tr o r t b).lookup f = none := by
 rcases h with rfl | rfl | rfl | rfl | rfl | rfl | rfl | rfl | rfl | rfl <;> exact jF_no (by decide +kernel) (by decide +kernel) (by decide +kernel) (by decide +kernel) (by decide +kernel) (by decide +kernel)
abbrev s_Journal_told : Stmt := inClass (top 22) 2
abbrev N_Journal_told : List Str := ["self"]
theorem sc_Journal_told : FnScope N_Journal_told ["self"] (qQ s_Journal_told) := ⟨rfl, rfl, rfl, by decide +kernel, rfl, by decide +kernel, by decide +kernel⟩
theorem ok_Journal_told {f C : Addr} {fd : FuncData} (F : Fun K "told" "Journal.told" s_Journal_told f fd) (T : Txt mg) (TC : JournalC K mg C) : FnOk P w K mg base CX0 1 f fd ["self"] (spToldJ C) := by
 refine F.ok sc_Journal_told (fun vs H Q E h => ?_) (fun cdv A outer s0 H vs Q E hr h => ?_)
 · obtain ⟨a, s, rfl, _⟩ := h; rfl
 · obtain ⟨a, s, rfl, J, q⟩ := h
   refine ⟨_, (qM (yJ (qz op_add (k_fld K (pv 0) rfl) (yG (k_len_seq K) (by rfl) T.b_len PySem.boot_len (qJ (k_fld K (pv 0) rfl) qZ))))), ?_⟩
   obtain ⟨dx, h1⟩ := J.ob
   obtain ⟨ys, h2, m2⟩ := J.ro
   refine ⟨_, rfl, a.p, C, dx, _, _, rfl, h1, TC.cl_Journal, TC.n_ground, jF_ground, _, rfl, a.p, C, dx, _, _, rfl, h1, TC.cl_Journal, TC.n_row, jF_row, a.r, ys, rfl, .inl (SqL.ofL h2), _, _, rfl, rfl, ?_⟩
   rw [m2.len]
   exact q
abbrev yD : Stmt := inClass (top 22) 4
abbrev N_Journal_refuse_unknown : List Str := ["self", "number"]
theorem sc_Journal_refuse_unknown : FnScope N_Journal_refuse_unknown ["self", "number"] (qQ yD) := ⟨rfl, rfl, rfl, by decide +kernel, rfl, by decide +kernel, by decide +kernel⟩
theorem okx_Journal_refuse_unknown {f C CN : Addr} {fd : FuncData} (F : Fun K "refuse_unknown" "Journal.refuse_unknown" yD f fd) (TC : JournalC K mg C) (x_NoNumber : Exc K mg "NoNumber" CN) (m_told : CalleeM P w K mg base 1 C "told" ["self"] (spToldJ C)) : FnOk P w K mg base (CXF P w) 2 f fd ["self", "number"] (spUnkX C CN) := by
 refine F.okX sc_Journal_refuse_unknown (fun vs H Q E h => ?_) (fun cdv A outer s0 H vs Q E hr h => ?_)
 · obtain ⟨a, s, n, rfl, _⟩ := h; rfl
 · obtain ⟨a, s, n, rfl, J, q⟩ := h
   refine ⟨_, (qM (ps_if (PW.pt (pw_or (yv op_gt (pv 1) (as_meth0 m_told TC.cl_Journal (hr.mono (by decide)) (pv 0)) (nomark _)) (pw_or1 (yv op_lt (pv 1) (k_fld K (pv 0) rfl) (nomark _))))) (qM (ps_raise x_NoNumber (qJ qD qZ))) pss_nil)), ?_⟩
   obtain ⟨dx, h1⟩ := J.ob
   refine ⟨_, rfl, _, rfl, a.p, dx, _, rfl, h1, no_j (.inr (.inl rfl)), a, s, rfl, J, _, _, rfl, rfl, _, rfl, ?_⟩
   refine ite2 (fun z => ?_) (fun z => ?_)
   · have z' : n > s.told := of_decide_eq_true z
     rcases q with ⟨_, q1, _⟩ | ⟨_, q⟩
     · omega
     · exact iteT ⟨(show 1 ≤ sizeLine by decide), q⟩
   · have z' : ¬ n > s.told := fun y => z (decide_eq_true y)
     refine ⟨_, rfl, _, rfl, a.p, C, dx, _, _, rfl, h1, TC.cl_Journal, TC.n_trimmed, jF_tr, _, _, rfl, rfl, _, rfl, ?_⟩
     refine ite2 (fun y => ?_) (fun y => ?_)
     · have y' : n < s.tr := of_decide_eq_true y
       rcases q with ⟨q0, _⟩ | ⟨_, q⟩
       · omega
       · exact ⟨(show 1 ≤ sizeLine by decide), q⟩
     · have y' : ¬ n < s.tr := fun x => y (decide_eq_true x)
       rcases q with ⟨_, _, q⟩ | ⟨q0, _⟩
       · exact q
       · exact absurd ⟨by omega, by omega⟩ q0
abbrev s_Journal_do_step : Stmt := inClass (top 22) 11
abbrev N_Journal_do_step : List Str := ["self", "step"]
theorem sc_Journal_do_step : FnScope N_Journal_do_step ["self", "step"] (qQ s_Journal_do_step) := ⟨rfl, rfl, rfl, by decide +kernel, rfl, by decide +kernel, by decide +kernel⟩
theorem ok_Journal_do_step {f C : Addr} {fd : FuncData} (F : Fun K "do_step" "Journal.do_step" s_Journal_do_step f fd) (TC : JournalC K mg C) : FnOk P w K mg base CX0 1 f fd ["self", "step"] (spDoJ C) := by
 refine F.ok sc_Journal_do_step (fun vs H Q E h => ?_) (fun cdv A outer s0 H vs Q E hr h => ?_)
 · obtain ⟨a, s, v, x, rfl, _⟩ := h; rfl
 · obtain ⟨a, s, v, x, rfl, J, hsz, hv, q⟩ := h
   refine ⟨_, (qM (ps_if (yv op_eq (pe_ix (k_ix_tup K) (pv 1) qG (fun _ _ => rfl)) qD (nomark _)) (qM (ps_expr (k_bm K PySem.F.plainAttrs_list PySem.F.slot_list_append PySem.F.type_list_append mt_append (k_fld K (pv 0) rfl) (yz (pe_ix (k_ix_tup K) (pv 1) qG (fun _ _ => rfl)) pa_nil)))) (qM (k_sfld K (pv 0) (pe_ix (k_ix_tup K) (pv 1) qG (fun _ _ => rfl)) rfl)))), ?_⟩
   obtain ⟨dx, h1⟩ := J.ob
   obtain ⟨npo, npr, npt, npb⟩ := J.np
   obtain ⟨a1, a2, a3, a4, a5, a6⟩ := J.ap
   obtain ⟨y2, h2, m2⟩ := J.on
   obtain ⟨y3, h3, m3⟩ := J.ro
   obtain ⟨y4, h4, m4⟩ := J.ss
   obtain ⟨y5, h5, m5⟩ := J.sk
   have l3 := m3.len
   cases x with
   | w m =>
     obtain ⟨c, v0, v1, v2, rfl, hc, e0, e1, e2⟩ := has_tup3 hv
     obtain rfl := has_str_inv e0
     refine ⟨_, rfl, c, _, 0, _, rfl, rfl, SqT.ofT hc, rfl, rfl, _, rfl, iteT ?_⟩
     refine ⟨_, rfl, a.p, C, dx, _, _, rfl, h1, TC.cl_Journal, TC.n_row, jF_row, .inl ⟨rfl, _, SqL.ofL h3⟩, _, rfl, c, _, 2, _, rfl, rfl, SqT.ofT hc, rfl, a.r, y3, _, rfl, rfl, h3, by rw [sizeLine_eq]; omega, ?_⟩
     have st := Stp.put (ps := [a.r]) (o := .lst (y3 ++ [v2])) h3 (fun _ z => by cases z) (by simp)
     refine q _ ⟨⟨dx, st.keep h1 (by simp [npr])⟩, ⟨y2, st.keep h2 (by simp [a1]), m2.step st⟩, ⟨_, qY, (m3.step st).append ?_⟩, ⟨y4, st.keep h4 (by simp [a4.symm]), m4.step st⟩, ⟨y5, st.keep h5 (by simp [a5.symm]), m5.step st⟩, J.ap⟩ (st.up (by simp [JA.fp]))
     exact yZ (e2.tups st.tup (noLst_m m)) hasL_nil
   | t p0 b0 =>
     obtain ⟨c, v0, v1, v2, rfl, hc, e0, e1, e2⟩ := has_tup3 hv
     obtain rfl := has_str_inv e0
     obtain rfl := has_int_inv e2
     refine ⟨_, rfl, c, _, 0, _, rfl, rfl, SqT.ofT hc, rfl, rfl, _, rfl, iteF ?_⟩
     refine ⟨_, rfl, c, _, 2, _, rfl, rfl, SqT.ofT hc, rfl, _, rfl, a.p, C, dx, _, rfl, h1, TC.cl_Journal, TC.n_trimmed, jF_len, ?_⟩
     rw [jF_setTr]
     have st := Stp.put (ps := [a.p]) (o := .ins C dx (jF s.g b0 a.o a.r a.t a.b)) h1 (fun _ z => by cases z) (by simp)
     exact q _ ⟨⟨dx, qY⟩, ⟨y2, st.keep h2 (by simp [npo.symm]), m2.step st⟩, ⟨y3, st.keep h3 (by simp [npr.symm]), m3.step st⟩, ⟨y4, st.keep h4 (by simp [npt.symm]), m4.step st⟩, ⟨y5, st.keep h5 (by simp [npb.symm]), m5.step st⟩, J.ap⟩ (st.up (by simp [JA.fp]))
abbrev s_Journal_step_on : Stmt := inClass (top 22) 10
abbrev N_Journal_step_on : List Str := ["self", "step"]
theorem sc_Journal_step_on : FnScope N_Journal_step_on ["self", "step"] (qQ s_Journal_step_on) := ⟨rfl, rfl, rfl, by decide +kernel, rfl, by decide +kernel, by decide +kernel⟩
theorem ok_Journal_step_on {f C : Addr} {fd : FuncData} (F : Fun K "step_on" "Journal.step_on" s_Journal_step_on f fd) (TC : JournalC K mg C) (m_do_step : CalleeM P w K mg base 1 C "do_step" ["self", "step"] (spDoJ C)) : FnOk P w K mg base CX0 2 f fd ["self", "step"] (spOnJ C) := by
 refine F.ok sc_Journal_step_on (fun vs H Q E h => ?_) (fun cdv A outer s0 H vs Q E hr h => ?_)
 · obtain ⟨a, s, v, x, rfl, _⟩ := h; rfl
 · obtain ⟨a, s, v, x, rfl, J, hsz, hst, hv, q⟩ := h
   refine ⟨_, (qV (ps_expr (as_meth m_do_step TC.cl_Journal (hr.mono (by decide)) (pv 0) (qJ (pv 1) qZ)))
     (qV (ps_expr (k_bm K PySem.F.plainAttrs_list PySem.F.slot_list_append PySem.F.type_list_append mt_append (k_fld K (pv 0) rfl) (yz (pv 1) pa_nil)))
     (qM (k_sfld K (pv 0) (as_lst qZ) rfl)))), ?_⟩
   obtain ⟨dx0, h0⟩ := J.ob
   refine ⟨_, rfl, a.p, dx0, _, rfl, h0, no_j (.inr (.inr (.inr (.inr (.inr (.inr (.inr (.inr (.inr rfl))))))))), _, rfl, a, s, v, x, rfl, J, hsz, hv, fun H1 J1 st1 => ?_⟩
   have hst1 : (doJ s x).st = s.st := by cases x <;> rfl
   obtain ⟨dx, h1⟩ := J1.ob
   obtain ⟨npo, npr, npt, npb⟩ := J1.np
   obtain ⟨a1, a2, a3, a4, a5, a6⟩ := J1.ap
   obtain ⟨y2, h2, m2⟩ := J1.on
   obtain ⟨y3, h3, m3⟩ := J1.ro
   obtain ⟨y4, h4, m4⟩ := J1.ss
   have l4 := m4.len
   rw [hst1] at m4 l4
   refine ⟨_, rfl, a.p, C, dx, _, _, rfl, h1, TC.cl_Journal, TC.n_steps, jF_steps, .inl ⟨rfl, _, SqL.ofL h4⟩, _, rfl, a.t, y4, v, rfl, rfl, h4, by rw [sizeLine_eq]; omega, ?_⟩
   have st2 := Stp.put (ps := [a.t]) (o := .lst (y4 ++ [v])) h4 (fun _ z => by cases z) (by simp)
   have g1 := st2.keep h1 (by simp [npt])
   have g4 := qY (H := H1) (a := a.t) (o := .lst (y4 ++ [v]))
   have g2 := st2.keep h2 (by simp [a2])
   have g3 := st2.keep h3 (by simp [a4])
   have st12 := st1.trans (st2.up (qs := a.fp) (by simp [JA.fp]))
   have hv2 := hv.tups st12.tup (noLst_j x)
   have m4' := (m4.step st2).snoc hv2
   have m2' := m2.step st2
   have m3' := m3.step st2
   generalize upd H1 a.t (.lst (y4 ++ [v])) = H2 at g1 g2 g3 g4 st12 m4' m2' m3' ⊢
   refine ⟨Nat.zero_le _, fun b' nb => ?_⟩
   have s3 := Same.new (o := .lst []) nb
   refine ⟨_, rfl, a.p, C, dx, _, rfl, s3 _ _ g1, TC.cl_Journal, TC.n_steps_back, jF_len, ?_⟩
   rw [jF_setBack]
   have npb' : a.p ≠ b' := qy g1 nb
   have nob : a.o ≠ b' := qy g2 nb
   have nrb : a.r ≠ b' := qy g3 nb
   have ntb : a.t ≠ b' := qy g4 nb
   have st4 := Stp.put (ps := [a.p]) (o := .ins C dx (jF (doJ s x).g (doJ s x).tr a.o a.r a.t b')) (s3 _ _ g1) (fun _ z => by cases z) (by simp)
   have e1 : (onJ s x).g = (doJ s x).g := rfl
   refine q ⟨a.p, a.o, a.r, a.t, b'⟩ _ rfl ⟨⟨dx, qY⟩, ⟨y2, st4.keep (s3 _ _ g2) (by simp [npo.symm]), ?_⟩, ⟨y3, st4.keep (s3 _ _ g3) (by simp [npr.symm]), ?_⟩, ⟨_, st4.keep (s3 _ _ g4) (by simp [npt.symm]), (m4'.same s3).step st4⟩, ⟨[], st4.keep qY (by simp [npb'.symm]), StL.nil⟩, ⟨a1, a2, nob, a4, nrb, ntb⟩⟩ ?_
   · exact (m2'.same s3).step st4
   · exact (m3'.same s3).step st4
   · have z := (st12.trans (Stp.make (o := .lst []) nb)).trans (st4.up (qs := b' :: a.fp) (by simp [JA.fp]))
     exact ⟨z.1, z.2, fun c hc => z.3 c (by simp only [JA.fp, List.mem_cons, List.not_mem_nil, or_false] at hc ⊢; rcases hc with e | e | e | e | e <;> simp [e])⟩
abbrev s_Journal_write : Stmt := inClass (top 22) 1
abbrev N_Journal_write : List Str := ["self", "topic", "text", "message"]
theorem sc_Journal_write : FnScope N_Journal_write ["self", "topic", "text"] (qQ s_Journal_write) := ⟨rfl, rfl, rfl, by decide +kernel, rfl, by decide +kernel, by decide +kernel⟩
theorem ok_Journal_write {f C : Addr} {fd : FuncData} (F : Fun K "write" "Journal.write" s_Journal_write f fd) (TC : JournalC K mg C) (m_told : CalleeM P w K mg base 1 C "told" ["self"] (spToldJ C)) (m_step_on : CalleeM P w K mg base 2 C "step_on" ["self", "step"] (spOnJ C)) : FnOk P w K mg base CX0 3 f fd ["self", "topic", "text"] (spWriteJ C) := by
 refine F.ok sc_Journal_write (fun vs H Q E h => ?_) (fun cdv A outer s0 H vs Q E hr h => ?_)
 · obtain ⟨a, s, t, x, rfl, _⟩ := h; rfl
 · obtain ⟨a, s, t, x, rfl, J, hsz, hst, q⟩ := h
   refine ⟨_, (qV (yV (i := 3) sc_Journal_write.nd rfl (Or.inl rfl) (as_tup (qU (qz op_add (as_meth0 m_told TC.cl_Journal (hr.mono (by decide)) (pv 0)) qG) (qU (pv 1) (qU (pv 2) qZ)))))
     (qV (ps_expr (as_meth m_step_on TC.cl_Journal (hr.mono (by decide)) (pv 0) (qJ (as_tup (qU qD (qU pe_non (qU (pv 3) qZ)))) qZ)))
     (qM (yJ (as_meth0 m_told TC.cl_Journal (hr.mono (by decide)) (pv 0)))))), ?_⟩
   obtain ⟨dx, h1⟩ := J.ob
   refine ⟨_, rfl, a.p, dx, _, rfl, h1, no_j (.inr (.inl rfl)), a, s, rfl, J, _, _, rfl, rfl, _, rfl, _, rfl, (show 3 ≤ sizeLine by decide), fun c nc => ?_⟩
   have s1 := Same.new (o := .tup [.int (s.told + 1), .str t, .str x]) nc
   have hc : upd H c (.tup [.int (s.told + 1), .str t, .str x]) c = some (mT ⟨s.told + 1, t, x⟩) := qY
   have J1 := J.same s1
   generalize upd H c (.tup [.int (s.told + 1), .str t, .str x]) = H1 at s1 hc J1 ⊢
   obtain ⟨dx1, g1⟩ := J1.ob
   refine ⟨_, rfl, a.p, dx1, _, rfl, g1, no_j (.inr (.inr (.inr (.inr (.inr (.inr (.inr (.inr (.inl rfl))))))))), _, rfl, (show 3 ≤ sizeLine by decide), fun d nd => ?_⟩
   have s2 := Same.new (o := .tup [.str "write", .non, .ref c]) nd
   have J2 := J1.same s2
   refine ⟨a, s, .ref d, .w ⟨s.told + 1, t, x⟩, rfl, J2, hsz, hst, jw_has qY (s2 _ _ hc), fun a' H3 ep J3 st3 => ?_⟩
   obtain ⟨dx3, g3⟩ := J3.ob
   rw [ep] at g3
   refine ⟨_, rfl, a.p, dx3, _, rfl, g3, no_j (.inr (.inl rfl)), a', _, congrArg (fun x => [V.ref x]) ep.symm, J3, ?_⟩
   have e : (onJ s (.w ⟨s.told + 1, t, x⟩)).told = s.told + 1 := by
     show s.g + ((s.row ++ [(⟨s.told + 1, t, x⟩ : Msg)]).length : Int) = s.g + (s.row.length : Int) + 1
     rw [List.length_append]
     show s.g + ((s.row.length + 1 : Nat) : Int) = _
     omega
   rw [e]
   exact q a' H3 ep J3 (((s1.trans s2).step a.fp).trans st3)
abbrev s_Journal_trim : Stmt := inClass (top 22) 3
abbrev N_Journal_trim : List Str := ["self", "number", "fewer"]
theorem sc_Journal_trim : FnScope N_Journal_trim ["self", "number"] (qQ s_Journal_trim) := ⟨rfl, rfl, rfl, by decide +kernel, rfl, by decide +kernel, by decide +kernel⟩
theorem okx_Journal_trim {f C CN : Addr} {fd : FuncData} (F : Fun K "trim" "Journal.trim" s_Journal_trim f fd) (TC : JournalC K mg C) (mx_refuse_unknown : CalleeMX P w K mg base 2 C "refuse_unknown" ["self", "number"] (spUnkX C CN)) (m_step_on : CalleeM P w K mg base 2 C "step_on" ["self", "step"] (spOnJ C)) : FnOk P w K mg base (CXF P w) 3 f fd ["self", "number"] (spTrimX C CN) := by
 refine F.okX sc_Journal_trim (fun vs H Q E h => ?_) (fun cdv A outer s0 H vs Q E hr h => ?_)
 · obtain ⟨a, s, n, rfl, _⟩ := h; rfl
 · obtain ⟨a, s, n, rfl, J, hsz, hst, q⟩ := h
   refine ⟨_, (qV (ps_expr (as_methX mx_refuse_unknown TC.cl_Journal (hr.mono (by decide)) pass_on (pv 0) (qJ (pv 1) qZ)))
     (qV (yV (i := 2) sc_Journal_trim.nd rfl (Or.inl rfl) (qz op_sub (pv 1) (k_fld K (pv 0) rfl)))
     (qV (ps_expr (as_meth m_step_on TC.cl_Journal (hr.mono (by decide)) (pv 0) (qJ (as_tup (qU qD (qU (k_fld K (pv 0) rfl) (qU (pv 1) qZ)))) qZ)))
     (qM (yJ (pv 2)))))), ?_⟩
   obtain ⟨dx, h1⟩ := J.ob
   refine ⟨_, rfl, a.p, dx, _, rfl, h1, no_j (.inr (.inr (.inr (.inl rfl)))), _, rfl, a, s, n, rfl, J, ?_⟩
   rcases q with ⟨q0, q1, q⟩ | ⟨q0, q⟩
   case inr => exact .inr ⟨q0, q⟩
   refine .inl ⟨q0, q1, ?_⟩
   refine ⟨_, rfl, _, rfl, a.p, C, dx, _, _, rfl, h1, TC.cl_Journal, TC.n_trimmed, jF_tr, _, _, rfl, rfl, ?_⟩
   refine ⟨_, rfl, a.p, dx, _, rfl, h1, no_j (.inr (.inr (.inr (.inr (.inr (.inr (.inr (.inr (.inl rfl))))))))), _, rfl, a.p, C, dx, _, _, rfl, h1, TC.cl_Journal, TC.n_trimmed, jF_tr, _, rfl, (show 3 ≤ sizeLine by decide), fun d nd => ?_⟩
   have s2 := Same.new (o := .tup [.str "trim", .int s.tr, .int n]) nd
   refine ⟨a, s, .ref d, .t s.tr n, rfl, J.same s2, hsz, hst, jt_has qY, fun a' H3 ep J3 st3 => ?_⟩
   exact ⟨_, rfl, q a' H3 ep J3 ((s2.step a.fp).trans st3)⟩
abbrev s_Journal_kept : Stmt := inClass (top 22) 6
abbrev N_Journal_kept : List Str := ["self"]
theorem sc_Journal_kept : FnScope N_Journal_kept ["self"] (qQ s_Journal_kept) := ⟨rfl, rfl, rfl, by decide +kernel, rfl, by decide +kernel, by decide +kernel⟩
theorem ok_Journal_kept {f C : Addr} {fd : FuncData} (F : Fun K "kept" "Journal.kept" s_Journal_kept f fd) (TC : JournalC K mg C) : FnOk P w K mg base CX0 1 f fd ["self"] (spKeptJ C) := by
 refine F.ok sc_Journal_kept (fun vs H Q E h => ?_) (fun cdv A outer s0 H vs Q E hr h => ?_)
 · obtain ⟨a, s, rfl, _⟩ := h; rfl
 · obtain ⟨a, s, rfl, J, hg, q⟩ := h
   refine ⟨_, (qM (yJ (pe_slice (k_sl_list K) (k_fld K (pv 0) rfl) (po_some (qz op_sub (k_fld K (pv 0) rfl) (k_fld K (pv 0) rfl))) po_none))), ?_⟩
   obtain ⟨dx, h1⟩ := J.ob
   obtain ⟨ys, h2, m2⟩ := J.ro
   refine ⟨_, rfl, a.p, C, dx, _, _, rfl, h1, TC.cl_Journal, TC.n_row, jF_row, _, rfl, a.p, C, dx, _, _, rfl, h1, TC.cl_Journal, TC.n_trimmed, jF_tr, _, rfl, a.p, C, dx, _, _, rfl, h1, TC.cl_Journal, TC.n_ground, jF_ground, _, _, rfl, rfl, _, rfl, a.r, ys, rfl, SqL.ofL h2, fun l hl => ?_⟩
   rw [cut_from (by omega)]
   exact q l _ hl ((m2.same (Same.new hl)).drop _)
abbrev s_Journal_last_at : Stmt := inClass (top 22) 8
abbrev N_Journal_last_at : List Str := ["self", "number"]
theorem sc_Journal_last_at : FnScope N_Journal_last_at ["self", "number"] (qQ s_Journal_last_at) := ⟨rfl, rfl, rfl, by decide +kernel, rfl, by decide +kernel, by decide +kernel⟩
theorem ok_Journal_last_at {f C : Addr} {fd : FuncData} (F : Fun K "last_at" "Journal.last_at" s_Journal_last_at f fd) (TC : JournalC K mg C) (c_last_ones : Callee P w K mg base 4 "last_ones" ["messages"] spLast) : FnOk P w K mg base CX0 5 f fd ["self", "number"] (spLastAtJ C) := by
 refine F.ok sc_Journal_last_at (fun vs H Q E h => ?_) (fun cdv A outer s0 H vs Q E hr h => ?_)
 · obtain ⟨a, s, n, rfl, _⟩ := h; rfl
 · obtain ⟨a, s, n, rfl, J, hg, ok, q⟩ := h
   refine ⟨_, (qM (yJ (yy c_last_ones (hr.mono (by decide)) (qJ (qz op_cat (k_fld K (pv 0) rfl) (pe_slice (k_sl_list K) (k_fld K (pv 0) rfl) po_none (po_some (qz op_sub (pv 1) (k_fld K (pv 0) rfl))))) qZ)))), ?_⟩
   obtain ⟨dx, h1⟩ := J.ob
   obtain ⟨yo, h2, m2⟩ := J.on
   obtain ⟨ys, h3, m3⟩ := J.ro
   have hsz := ok.sz
   refine ⟨_, rfl, a.p, C, dx, _, _, rfl, h1, TC.cl_Journal, TC.n_ground_ones, jF_ones, _, rfl, a.p, C, dx, _, _, rfl, h1, TC.cl_Journal, TC.n_row, jF_row, _, rfl, _, rfl, a.p, C, dx, _, _, rfl, h1, TC.cl_Journal, TC.n_ground, jF_ground, _, _, rfl, rfl, _, rfl, a.r, ys, rfl, SqL.ofL h3, fun l1 n1 => ?_⟩
   rw [cut_to (by omega)]
   have s1 := Same.new (o := .lst (ys.take (n - s.g).toNat)) n1
   refine ⟨a.o, l1, _, _, rfl, rfl, s1 _ _ h2, qY, by rw [sizeLine_eq, m2.len, List.length_take, m3.len]; omega, fun l2 n2 => ?_⟩
   have s2 := Same.new (o := .lst (yo ++ ys.take (n - s.g).toNat)) n2
   have t2 := s1.trans s2
   have sub : (s.on ++ s.row.take (n - s.g).toNat).Sublist (s.on ++ s.row) := (List.Sublist.refl _).append (List.take_sublist _ _)
   refine ⟨l2, _, s.on ++ s.row.take (n - s.g).toNat, rfl, qY, (m2.same t2).append ((m3.same t2).take _), by rw [List.length_append, List.length_take]; omega, Rise.diff (List.Pairwise.sublist sub ok.rise), fun p y ls H' s3 np ep mp Lp => ?_⟩
   exact q p y ls H' (t2.trans s3) (t2.free np) ep mp Lp
abbrev s_Journal_last : Stmt := inClass (top 22) 7
abbrev N_Journal_last : List Str := ["self"]
theorem sc_Journal_last : FnScope N_Journal_last ["self"] (qQ s_Journal_last) := ⟨rfl, rfl, rfl, by decide +kernel, rfl, by decide +kernel, by decide +kernel⟩
theorem ok_Journal_last {f C : Addr} {fd : FuncData} (F : Fun K "last" "Journal.last" s_Journal_last f fd) (TC : JournalC K mg C) (m_told : CalleeM P w K mg base 1 C "told" ["self"] (spToldJ C)) (m_last_at : CalleeM P w K mg base 5 C "last_at" ["self", "number"] (spLastAtJ C)) : FnOk P w K mg base CX0 6 f fd ["self"] (spLastJ C) := by
 refine F.ok sc_Journal_last (fun vs H Q E h => ?_) (fun cdv A outer s0 H vs Q E hr h => ?_)
 · obtain ⟨a, s, rfl, _⟩ := h; rfl
 · obtain ⟨a, s, rfl, J, ok, q⟩ := h
   refine ⟨_, (qM (yJ (as_meth m_last_at TC.cl_Journal (hr.mono (by decide)) (pv 0) (qJ (as_meth0 m_told TC.cl_Journal (hr.mono (by decide)) (pv 0)) qZ)))), ?_⟩
   obtain ⟨dx, h1⟩ := J.ob
   have ht : s.told = s.g + (s.row.length : Int) := rfl
   refine ⟨_, rfl, a.p, dx, _, rfl, h1, no_j (.inr (.inr (.inr (.inr (.inr (.inr (.inl rfl))))))), _, rfl, a.p, dx, _, rfl, h1, no_j (.inr (.inl rfl)), a, s, rfl, J, a, s, _, rfl, J, by omega, ok, ?_⟩
   rw [show (s.told - s.g).toNat = s.row.length by omega, List.take_length]
   exact q
abbrev s_Journal___init__ : Stmt := inClass (top 22) 0
abbrev N_Journal___init__ : List Str := ["self"]
theorem sc_Journal___init__ : FnScope N_Journal___init__ ["self"] (qQ s_Journal___init__) := ⟨rfl, rfl, rfl, by decide +kernel, rfl, by decide +kernel, by decide +kernel⟩
theorem ok_Journal_init {f C : Addr} {fd : FuncData} (F : Fun K "__init__" "Journal.__init__" s_Journal___init__ f fd) (TC : JournalC K mg C) : FnOk P w K mg base CX0 1 f fd ["self"] (spInitJ C) := by
 refine F.ok sc_Journal___init__ (fun vs H Q E h => ?_) (fun cdv A outer s H vs Q E hr h => ?_)
 · obtain ⟨p, dx, rfl, _⟩ := h; rfl
 · obtain ⟨p, dx, rfl, hp, q⟩ := h
   refine ⟨_, (qV (k_sfld K (pv 0) qG rfl)
     (qV (k_sfld K (pv 0) (as_lst qZ) rfl)
     (qV (k_sfld K (pv 0) (as_lst qZ) rfl)
     (qV (k_sfld K (pv 0) qG rfl)
     (qV (k_sfld K (pv 0) (as_lst qZ) rfl)
     (qM (k_sfld K (pv 0) (as_lst qZ) rfl))))))), ?_⟩
   have l0 : ([] : List (Str × V)).length = 0 := rfl
   have l1 := putF_len "ground" (.int 0) []
   refine ⟨_, rfl, p, C, dx, [], rfl, hp, TC.cl_Journal, TC.n_ground, (by show 0 < 1000; decide), ?_⟩
   have st1 : Stp [p] H [p] _ := Stp.put (o := .ins C dx (putF "ground" (.int 0) [])) hp (fun _ z => by cases z) (by simp)
   have p1 := qY (H := H) (a := p) (o := .ins C dx (putF "ground" (.int 0) []))
   generalize upd H p (.ins C dx (putF "ground" (.int 0) [])) = H1 at st1 p1 ⊢
   refine ⟨Nat.zero_le _, fun o no => ?_⟩
   have npo : o ≠ p := (qy p1 no).symm
   have l2 := putF_len "ground_ones" (.ref o) (putF "ground" (.int 0) [])
   have st2 := st1.trans (Stp.make (o := .lst []) no)
   have p2 := (Same.new (o := .lst []) no) _ _ p1
   refine ⟨_, rfl, p, C, dx, _, rfl, p2, TC.cl_Journal, TC.n_ground_ones, by omega, ?_⟩
   have sq := Stp.put (ps := [p]) (o := .ins C dx (putF "ground_ones" (.ref o) (putF "ground" (.int 0) []))) p2 (fun _ z => by cases z) (by simp)
   have o3 := sq.keep (qY (H := H1) (a := o) (o := .lst [])) (by simp [npo])
   have st3 := st2.trans (sq.up (qs := [o, p]) (by simp))
   have p3 := qY (H := upd H1 o (.lst [])) (a := p) (o := .ins C dx (putF "ground_ones" (.ref o) (putF "ground" (.int 0) [])))
   generalize upd (upd H1 o (.lst [])) p (.ins C dx (putF "ground_ones" (.ref o) (putF "ground" (.int 0) []))) = H3 at o3 st3 p3 ⊢
   refine ⟨Nat.zero_le _, fun r nr => ?_⟩
   have npr : r ≠ p := (qy p3 nr).symm
   have nor : o ≠ r := qy o3 nr
   have l3 := putF_len "row" (.ref r) (putF "ground_ones" (.ref o) (putF "ground" (.int 0) []))
   have s4 := Same.new (o := .lst []) nr
   have p4 := s4 _ _ p3
   refine ⟨_, rfl, p, C, dx, _, rfl, p4, TC.cl_Journal, TC.n_row, by omega, ?_⟩
   have sq4 := Stp.put (ps := [p]) (o := .ins C dx (putF "row" (.ref r) (putF "ground_ones" (.ref o) (putF "ground" (.int 0) [])))) p4 (fun _ z => by cases z) (by simp)
   have o5 := sq4.keep (s4 _ _ o3) (by simp [npo])
   have r5 := sq4.keep (qY (H := H3) (a := r) (o := .lst [])) (by simp [npr])
   have st5 := (st3.trans (Stp.make (o := .lst []) nr)).trans (sq4.up (qs := [r, o, p]) (by simp))
   have p5 := qY (H := upd H3 r (.lst [])) (a := p) (o := .ins C dx (putF "row" (.ref r) (putF "ground_ones" (.ref o) (putF "ground" (.int 0) []))))
   generalize upd (upd H3 r (.lst [])) p (.ins C dx (putF "row" (.ref r) (putF "ground_ones" (.ref o) (putF "ground" (.int 0) [])))) = H5 at o5 r5 st5 p5 ⊢
   have l4 := putF_len "trimmed" (.int 0) (putF "row" (.ref r) (putF "ground_ones" (.ref o) (putF "ground" (.int 0) [])))
   refine ⟨_, rfl, p, C, dx, _, rfl, p5, TC.cl_Journal, TC.n_trimmed, by omega, ?_⟩
   have sq6 := Stp.put (ps := [p]) (o := .ins C dx (putF "trimmed" (.int 0) (putF "row" (.ref r) (putF "ground_ones" (.ref o) (putF "ground" (.int 0) []))))) p5 (fun _ z => by cases z) (by simp)
   have o6 := sq6.keep o5 (by simp [npo])
   have r6 := sq6.keep r5 (by simp [npr])
   have st6 := st5.trans (sq6.up (qs := [r, o, p]) (by simp))
   have p6 := qY (H := H5) (a := p) (o := .ins C dx (putF "trimmed" (.int 0) (putF "row" (.ref r) (putF "ground_ones" (.ref o) (putF "ground" (.int 0) [])))))
   generalize upd H5 p (.ins C dx (putF "trimmed" (.int 0) (putF "row" (.ref r) (putF "ground_ones" (.ref o) (putF "ground" (.int 0) []))))) = H6 at o6 r6 st6 p6 ⊢
   refine ⟨Nat.zero_le _, fun t nt => ?_⟩
   have npt : t ≠ p := (qy p6 nt).symm
   have notn : o ≠ t := qy o6 nt
   have nrt : r ≠ t := qy r6 nt
   have l5 := putF_len "steps" (.ref t) (putF "trimmed" (.int 0) (putF "row" (.ref r) (putF "ground_ones" (.ref o) (putF "ground" (.int 0) []))))
   have s7 := Same.new (o := .lst []) nt
   have p7 := s7 _ _ p6
   refine ⟨_, rfl, p, C, dx, _, rfl, p7, TC.cl_Journal, TC.n_steps, by omega, ?_⟩
   have sq7 := Stp.put (ps := [p]) (o := .ins C dx (putF "steps" (.ref t) (putF "trimmed" (.int 0) (putF "row" (.ref r) (putF "ground_ones" (.ref o) (putF "ground" (.int 0) [])))))) p7 (fun _ z => by cases z) (by simp)
   have o8 := sq7.keep (s7 _ _ o6) (by simp [npo])
   have r8 := sq7.keep (s7 _ _ r6) (by simp [npr])
   have t8 := sq7.keep (qY (H := H6) (a := t) (o := .lst [])) (by simp [npt])
   have st8 := (st6.trans (Stp.make (o := .lst []) nt)).trans (sq7.up (qs := [t, r, o, p]) (by simp))
   have p8 := qY (H := upd H6 t (.lst [])) (a := p) (o := .ins C dx (putF "steps" (.ref t) (putF "trimmed" (.int 0) (putF "row" (.ref r) (putF "ground_ones" (.ref o) (putF "ground" (.int 0) []))))))
   generalize upd (upd H6 t (.lst [])) p (.ins C dx (putF "steps" (.ref t) (putF "trimmed" (.int 0) (putF "row" (.ref r) (putF "ground_ones" (.ref o) (putF "ground" (.int 0) [])))))) = H8 at o8 r8 t8 st8 p8 ⊢
   refine ⟨Nat.zero_le _, fun b nb => ?_⟩
   have npb : b ≠ p := (qy p8 nb).symm
   have nob : o ≠ b := qy o8 nb
   have nrb : r ≠ b := qy r8 nb
   have ntb : t ≠ b := qy t8 nb
   have s9 := Same.new (o := .lst []) nb
   have p9 := s9 _ _ p8
   refine ⟨_, rfl, p, C, dx, _, rfl, p9, TC.cl_Journal, TC.n_steps_back, by omega, ?_⟩
   rw [jF_make]
   have sq9 := Stp.put (ps := [p]) (o := .ins C dx (jF 0 0 o r t b)) p9 (fun _ z => by cases z) (by simp)
   have st9 := (st8.trans (Stp.make (o := .lst []) nb)).trans (sq9.up (qs := [b, t, r, o, p]) (by simp))
   refine q ⟨p, o, r, t, b⟩ _ rfl ⟨⟨dx, qY⟩, ⟨[], sq9.keep (s9 _ _ o8) (by simp [npo]), Ms.nil⟩, ⟨[], sq9.keep (s9 _ _ r8) (by simp [npr]), Ms.nil⟩, ⟨[], sq9.keep (s9 _ _ t8) (by simp [npt]), StL.nil⟩, ⟨[], sq9.keep qY (by simp [npb]), StL.nil⟩, ⟨nor, notn, nob, nrt, nrb, ntb⟩⟩ ?_
   exact ⟨st9.1, st9.2, fun c hc => st9.3 c (by simp only [JA.fp, List.mem_cons, List.not_mem_nil, or_false] at hc ⊢; rcases hc with e | e | e | e | e <;> simp [e])⟩
abbrev s_Journal_counts : Stmt := inClass (top 22) 15
abbrev N_Journal_counts : List Str := ["self"]
theorem sc_Journal_counts : FnScope N_Journal_counts ["self"] (qQ s_Journal_counts) := ⟨rfl, rfl, rfl, by decide +kernel, rfl, by decide +kernel, by decide +kernel⟩
theorem ok_Journal_counts {f C : Addr} {fd : FuncData} (F : Fun K "counts" "Journal.counts" s_Journal_counts f fd) (T : Txt mg) (TC : JournalC K mg C) : FnOk P w K mg base CX0 1 f fd ["self"] (spCountsJ C) := by
 refine F.ok sc_Journal_counts (fun vs H Q E h => ?_) (fun cdv A outer s0 H vs Q E hr h => ?_)
 · obtain ⟨a, s, rfl, _⟩ := h; rfl
 · obtain ⟨a, s, rfl, J, q⟩ := h
   refine ⟨_, (qM (yJ (as_tup (qU (yG (k_len_seq K) (by rfl) T.b_len PySem.boot_len (qJ (k_fld K (pv 0) rfl) qZ)) (qU (yG (k_len_seq K) (by rfl) T.b_len PySem.boot_len (qJ (k_fld K (pv 0) rfl) qZ)) qZ))))), ?_⟩
   obtain ⟨dx, h1⟩ := J.ob
   obtain ⟨y4, h4, m4⟩ := J.ss
   obtain ⟨y5, h5, m5⟩ := J.sk
   refine ⟨_, rfl, a.p, C, dx, _, _, rfl, h1, TC.cl_Journal, TC.n_steps, jF_steps, a.t, y4, rfl, .inl (SqL.ofL h4), _, rfl, a.p, C, dx, _, _, rfl, h1, TC.cl_Journal, TC.n_steps_back, jF_back, a.b, y5, rfl, .inl (SqL.ofL h5), (show 2 ≤ sizeLine by decide), fun d nd => ?_⟩
   rw [m4.len, m5.len]
   exact q d nd
abbrev s_trimmed_journal : Stmt := top 23
abbrev N_trimmed_journal : List Str := ["number", "ones", "kept", "journal"]
theorem sc_trimmed_journal : FnScope N_trimmed_journal ["number", "ones", "kept"] (qQ s_trimmed_journal) := ⟨rfl, rfl, rfl, by decide +kernel, rfl, by decide +kernel, by decide +kernel⟩
theorem ok_trimmed_journal {f C : Addr} {fd : FuncData} (F : Fun K "trimmed_journal" "trimmed_journal" s_trimmed_journal f fd) (T : Txt mg) (TC : JournalC K mg C) (i_Journal : CalleeI P w K mg base 1 C ["self"] (spInitJ C)) : FnOk P w K mg base CX0 3 f fd ["number", "ones", "kept"] (spTrimmedJ C) := by
 refine F.ok sc_trimmed_journal (fun vs H Q E h => ?_) (fun cdv A outer s0 H vs Q E hr h => ?_)
 · obtain ⟨n, lo, lk, yo, yk, mo, mk, rfl, _⟩ := h; rfl
 · obtain ⟨n, lo, lk, yo, yk, mo, mk, rfl, eo, ho, ek, hk, so, sk, q⟩ := h
   refine ⟨_, (qV (yV (i := 3) sc_trimmed_journal.nd rfl (Or.inl rfl) (as_make0 i_Journal (hr.mono (by decide)) TC.mg_Journal))
     (qV (k_sfld K (pv 3) (pv 0) rfl)
     (qV (k_sfld K (pv 3) (as_callTy (k_list_of K) (by rfl) T.b_list PyProof.Rows.boot_list (qJ (pv 1) qZ)) rfl)
     (qV (k_sfld K (pv 3) (as_callTy (k_list_of K) (by rfl) T.b_list PyProof.Rows.boot_list (qJ (pv 2) qZ)) rfl)
     (qV (k_sfld K (pv 3) (pv 0) rfl)
     (qM (yJ (pv 3)))))))), ?_⟩
   intro p dx np nd nx
   refine ⟨p, dx, rfl, qY, fun a H1 ep J1 st1 => ⟨rfl, ?_⟩⟩
   subst ep
   have w1 := (Stp.obj np nd).trans st1
   obtain ⟨d1, g1⟩ := J1.ob
   refine ⟨_, rfl, _, rfl, a.p, C, d1, _, rfl, g1, TC.cl_Journal, TC.n_ground, jF_len, ?_⟩
   rw [jF_setG]
   obtain ⟨J2, st2⟩ := J1.putG (n := n) g1
   have w2 := w1.trans st2
   generalize upd H1 a.p (.ins C d1 (jF n js0.tr a.o a.r a.t a.b)) = H2 at J2 w2 ⊢
   obtain ⟨d2, g2⟩ := J2.ob
   refine ⟨_, rfl, lo, yo, rfl, .inl (SqL.ofL (w2.same _ _ eo)), fun l nl => ⟨_, rfl, a.p, C, d2, _, rfl, Same.new nl _ _ g2, TC.cl_Journal, TC.n_ground_ones, jF_len, ?_⟩⟩
   rw [jF_setOn]
   obtain ⟨J3, st3⟩ := J2.putOn g2 nl (ho.same w2.same)
   have w3 := w2.trans st3
   generalize upd (upd H2 l (.lst yo)) a.p _ = H3 at J3 w3 ⊢
   obtain ⟨d3, g3⟩ := J3.ob
   refine ⟨_, rfl, lk, yk, rfl, .inl (SqL.ofL (w3.same _ _ ek)), fun l2 nl2 => ⟨_, rfl, a.p, C, d3, _, rfl, Same.new nl2 _ _ g3, TC.cl_Journal, TC.n_row, jF_len, ?_⟩⟩
   rw [jF_setRow]
   obtain ⟨J4, st4⟩ := J3.putRow g3 nl2 (hk.same w3.same)
   have w4 := w3.trans st4
   generalize upd (upd H3 l2 (.lst yk)) a.p _ = H4 at J4 w4 ⊢
   obtain ⟨d4, g4⟩ := J4.ob
   refine ⟨_, rfl, _, rfl, a.p, C, d4, _, rfl, g4, TC.cl_Journal, TC.n_trimmed, jF_len, ?_⟩
   rw [jF_setTr]
   obtain ⟨J5, st5⟩ := J4.putTr (n := n) g4
   exact ⟨_, rfl, q ⟨a.p, l, l2, a.t, a.b⟩ _ J5 (w4.trans st5)⟩
def topF (ns : List Int) (k : Int) : Str := (["a", "b", "cc", "ca", "abc"] : List Str).getD (drawnF ns k 5).toNat "a"
def spTopicF (K : W.Frag) : Sp := fun vs H Q _ => ∃ (a : Addr) (ns : List Int) (k : Int), vs = [.ref a, .int k] ∧ SqL K H a (ns.map V.int) ∧ ns.length ≤ 63 ∧ 0 ≤ k ∧ ∀ H', Same H H' → Q (.str (topF ns k)) H'
theorem tops5 : (PyData.strOk "a" = true ∧ PyData.strOk "b" = true) ∧ (PyData.strOk "cc" = true ∧ PyData.strOk "ca" = true) ∧ PyData.strOk "abc" = true := by decide +kernel
theorem top_at (ns : List Int) (k : Int) : atI [V.str "a", V.str "b", V.str "cc", V.str "ca", V.str "abc"] (drawnF ns k 5) = some (.str (topF ns k)) ∧ PyData.strOk (topF ns k) = true := by
 unfold topF
 have e0 := drawn_nn ns k (m := 5) (by decide)
 have e1 := drawn_lt ns k (m := 5) (by decide)
 generalize drawnF ns k 5 = x at e0 e1
 have hc : x = 0 ∨ x = 1 ∨ x = 2 ∨ x = 3 ∨ x = 4 := by omega
 have T := tops5
 rcases hc with rfl | rfl | rfl | rfl | rfl
 · exact ⟨rfl, T.1.1⟩
 · exact ⟨rfl, T.1.2⟩
 · exact ⟨rfl, T.2.1.1⟩
 · exact ⟨rfl, T.2.1.2⟩
 · exact ⟨rfl, T.2.2⟩
abbrev s_l_topic : Stmt := top 50
abbrev N_l_topic : List Str := ["_law_script", "_law_at"]
theorem sc_l_topic : FnScope N_l_topic ["_law_script", "_law_at"] (qQ s_l_topic) := ⟨rfl, rfl, rfl, by decide +kernel, rfl, by decide +kernel, by decide +kernel⟩
theorem ok_l_topic {f : Addr} {fd : FuncData} (F : Fun K "_law_topic" "_law_topic" s_l_topic f fd) (c_l_drawn : Callee P w K mg base 2 "_law_drawn" ["_law_script", "_law_k", "_law_many"] (spDrawn K)) : FnOk P w K mg base CX0 3 f fd ["_law_script", "_law_at"] (spTopicF K) := by
 refine F.ok sc_l_topic (fun vs H Q E h => ?_) (fun cdv A outer s H vs Q E hr h => ?_)
 · obtain ⟨a, ns, k, rfl, _⟩ := h; rfl
 · obtain ⟨a, ns, k, rfl, hS, hlen, hk, q⟩ := h
   refine ⟨_, (qM (yJ (pe_ix (k_ix_list K) (as_lst (qU qD (qU qD (qU qD (qU qD (qU qD qZ)))))) (yy c_l_drawn (hr.mono (by decide)) (qJ (pv 0) (qU (pv 1) (qU qG qZ)))) (fun _ _ => rfl)))), ?_⟩
   refine ⟨(show 5 ≤ sizeLine by decide), fun l nl => ?_⟩
   have s1 := Same.new (o := .lst [.str "a", .str "b", .str "cc", .str "ca", .str "abc"]) nl
   refine ⟨_, rfl, _, rfl, a, ns, k, 5, rfl, s1.seq hS, hlen, hk, by decide, fun H2 s2 => ?_⟩
   exact ⟨l, _, _, _, rfl, rfl, SqL.ofL (s2 _ _ qY), (top_at ns k).1, q H2 (s1.trans s2)⟩
abbrev s_l_last : Stmt := top 49
abbrev N_l_last : List Str := ["_law_messages", "_law_found", "_law_message"]
theorem sc_l_last : FnScope N_l_last ["_law_messages"] (qQ s_l_last) := ⟨rfl, rfl, rfl, by decide +kernel, rfl, by decide +kernel, by decide +kernel⟩
theorem ok_l_last {f : Addr} {fd : FuncData} (F : Fun K "_law_last" "_law_last" s_l_last f fd) (T : Txt mg) : FnOk P w K mg base CX0 1 f fd ["_law_messages"] spLLast := by
 refine F.ok sc_l_last (fun vs H Q E h => ?_) (fun cdv A outer s H vs Q E hr h => ?_)
 · obtain ⟨a, xs, ms, rfl, _⟩ := h; rfl
 · obtain ⟨a, xs, ms, rfl, ha, hm, hlen, hri, q⟩ := h
   refine ⟨_, (qV (yV (i := 1) sc_l_last.nd rfl (Or.inl rfl) (as_lst qZ))
     (qV (ps_for PassesOwn.never rfl (k_it_list K (pv 0)) (pg_name (i := 2) sc_l_last.nd rfl (Or.inr rfl)) (qM (ps_if (yv (k_eq0 K hr.units0) (pe_comp (N' := ["_law_other", "_law_message"]) (ix := [none, some 2]) (own := [0]) rfl (cs_of (osc := qQ s_l_last) (ON := N_l_last) rfl rfl (by decide +kernel)) (by decide) (k_it_list K (pv 0)) (fun _ _ _ _ => (pg_name (i := 0) (show (["_law_other", "_law_message"] : List Str).Nodup by decide +kernel) rfl (Or.inl rfl))) own_name (fun _ _ _ _ => (pifs_one (PW.pt (pw_and (yv op_eq (pe_ix (k_ix_tup K) (pv 0) qG (fun _ _ => rfl)) (pe_ix (k_ix_tup K) (pv 1) qG (fun _ _ => rfl)) (nomark _)) (pw_and1 (yv op_gt (pe_ix (k_ix_tup K) (pv 0) qG (fun _ _ => rfl)) (pe_ix (k_ix_tup K) (pv 1) qG (fun _ _ => rfl)) (nomark _))))))) (fun _ _ _ _ => (pv 0))) (as_lst qZ) (nomark _)) (qM (ps_expr (k_bm K PySem.F.plainAttrs_list PySem.F.slot_list_append PySem.F.type_list_append mt_append (pv 1) (yz (pv 2) pa_nil)))) pss_nil)))
     (qM (yJ (yG (k_sortA K rfl) (by rfl) T.b_sorted PyProof.Rows.boot_sorted (qJ (pv 1) qZ)))))), ?_⟩
   refine ⟨Nat.zero_le _, fun g hg => ?_⟩
   have s1 := Same.new (o := .lst []) hg
   refine ⟨_, rfl, a, rfl, ⟨xs, SqL.ofL (s1 _ _ ha)⟩, for_list (K := K) (a := a) (xs := xs) (fun i σ H2 => ∃ o ys, σ = [some (.ref a), some (.ref g), o] ∧ Same H H2 ∧ H2 g = some (.lst ys) ∧ Ms H2 ys ((ms.take i).filter (isTopB ms)))
     ⟨none, [], rfl, s1, qY, Ms.nil⟩ (fun i σ H2 _ ⟨_, _, _, s2, _⟩ => SqL.ofL (s2 _ _ ha)) ?_ ?_⟩
   · rintro i x σ H2 hi ⟨o, ys, rfl, s2, h1, h2⟩
     have hil : i < ms.length := by rw [← hm.len]; exact (List.getElem?_eq_some_iff.mp hi).1
     obtain ⟨c, ec, hc⟩ := (hm.same s2).get hil
     rw [hi] at ec
     obtain rfl := Option.some.inj ec
     refine rd_name ?_
     refine ⟨_, rfl, a, rfl, ⟨xs, SqL.ofL (s2 _ _ ha)⟩, ms.length, fun j zs H3 => H3 = H2 ∧ Ms H2 zs ((ms.take j).filter (overB ms[i])), (by rw [sizeLine_eq]; omega), ⟨rfl, Ms.nil⟩, ?_, ?_⟩
     · rintro j zs H3 hj ⟨rfl, hz⟩
       obtain ⟨e, ee, he⟩ := (hm.same s2).get hj
       refine ⟨⟨xs, .ref e, SqL.ofL (s2 _ _ ha), ee⟩, ?_⟩
       rintro x H4 ⟨rfl, hx⟩
       have hx' := hx xs (SqL.ofL (s2 _ _ ha))
       rw [ee] at hx'
       obtain rfl := Option.some.inj hx'
       refine rd_name ?_
       refine ⟨_, rfl, e, _, 1, _, rfl, rfl, SqT.ofT he, rfl, _, rfl, c, _, 1, _, rfl, rfl, SqT.ofT hc, rfl, rfl, _, rfl, ?_⟩
       refine ite2 (fun ht => ?_) (fun ht => ?_)
       · have ht' : ms[j].t = ms[i].t := by have z := of_decide_eq_true ht; injection z
         refine ⟨_, rfl, e, _, 0, _, rfl, rfl, SqT.ofT he, rfl, _, rfl, c, _, 0, _, rfl, rfl, SqT.ofT hc, rfl, _, _, rfl, rfl, _, rfl, ?_⟩
         refine ite2 (fun hn => ?_) (fun hn => ?_)
         · have hn' : ms[j].n > ms[i].n := of_decide_eq_true hn
           refine ⟨_, rfl, rfl, ?_⟩
           rw [flt_succ hj, if_pos (by unfold overB; rw [decide_eq_true ht', decide_eq_true hn']; rfl)]
           exact hz.append (Ms.one he)
         · refine ⟨rfl, ?_⟩
           rw [flt_succ hj, if_neg (by unfold overB; rw [Bool.and_eq_true]; exact fun z => hn z.2), List.append_nil]
           exact hz
       · refine iteF ⟨rfl, ?_⟩
         rw [flt_succ hj, if_neg (by unfold overB; rw [Bool.and_eq_true]; exact fun z => ht (by rw [of_decide_eq_true z.1]; exact decide_eq_true rfl)), List.append_nil]
         exact hz
     · rintro zs H3 ⟨rfl, hz⟩
       refine ⟨⟨xs, SqL.ofL (s2 _ _ ha), by rw [hm.len]; exact Nat.le_refl _⟩, fun D hD => ?_⟩
       rw [List.take_length] at hz
       have s3 := Same.new (o := .lst zs) hD
       refine ⟨Nat.zero_le _, fun E hE => ?_⟩
       have s4 := s3.trans (Same.new (o := .lst []) hE)
       refine ⟨D, E, zs, rfl, rfl, SqL.ofL (Same.new (o := .lst []) hE _ _ qY), SqL.ofL qY, _, rfl, ?_⟩
       have hez : zs.isEmpty = isTopB ms ms[i] := by
         unfold isTopB
         have := hz.len
         cases zs with
         | nil => rw [List.length_nil] at this; rw [List.length_eq_zero_iff.mp this.symm]; rfl
         | cons z zs => cases h : ms.filter (overB ms[i]) with
           | nil => rw [h] at this; simp at this
           | cons _ _ => rfl
       refine ite2 (fun h => ?_) (fun h => ?_)
       · refine ⟨_, rfl, .inl ⟨rfl, _, SqL.ofL (s4 _ _ h1)⟩, _, rfl, g, ys, .ref c, rfl, rfl, s4 _ _ h1, ?_, ?_⟩
         · have := h2.len
           have h' : ((ms.take i).filter (isTopB ms)).length ≤ (ms.take i).length := List.length_filter_le _ _
           rw [List.length_take] at h'
           rw [sizeLine_eq]; omega
         · refine ⟨_, ys ++ [.ref c], rfl, (s2.trans s4).put hg, qY, ?_⟩
           rw [flt_succ hil, if_pos (hez.symm.trans h)]
           exact (Ms.updL (s4 _ _ h1) (h2.same s4)).append (Ms.updL (s4 _ _ h1) (Ms.one (s4 _ _ hc)))
       · refine ⟨_, ys, rfl, s2.trans s4, s4 _ _ h1, ?_⟩
         rw [flt_succ hil, if_neg (fun z => h (hez.trans z)), List.append_nil]
         exact h2.same s4
   · rintro σ H2 ⟨o, ys, rfl, s2, h1, h2⟩
     rw [hm.len, List.take_length] at h2
     have hrf : Rise (ms.filter (isTopB ms)) := List.Pairwise.filter _ hri
     have hl2 : ys.length < 64 := by
       rw [h2.len]
       exact Nat.lt_of_le_of_lt (List.length_filter_le _ _) hlen
     refine ⟨_, rfl, g, ys, _, rfl, SqL.ofL h1, hl2, h2.num, ?_, fun p hp => ?_⟩
     · rw [List.pairwise_map]; exact hrf
     · have s3 := Same.new (o := .lst ys) hp
       exact q p ys _ _ (s2.trans s3) (s2.free hp) qY (h2.same s3) ⟨hrf, isTopB_mem⟩
def spTrTo (C : Addr) : Sp := fun vs H Q _ => ∃ a s, vs = [.ref (JA.p a)] ∧ JAt C H a s ∧ Q (.int s.tr) H
theorem no_j2 {g tr : Int} {o r t b : Addr} {f : Str} (h : f = "trimmed_to" ∨ f = "back" ∨ f = "twin" ∨ f = "counts") : (jF g tr o r t b).lookup f = none := by
 rcases h with rfl | rfl | rfl | rfl <;> exact jF_no (by decide +kernel) (by decide +kernel) (by decide +kernel) (by decide +kernel) (by decide +kernel) (by decide +kernel)
abbrev s_Journal_trimmed_to : Stmt := inClass (top 22) 5
abbrev N_Journal_trimmed_to : List Str := ["self"]
theorem sc_Journal_trimmed_to : FnScope N_Journal_trimmed_to ["self"] (qQ s_Journal_trimmed_to) := ⟨rfl, rfl, rfl, by decide +kernel, rfl, by decide +kernel, by decide +kernel⟩
theorem ok_Journal_trimmed_to {f C : Addr} {fd : FuncData} (F : Fun K "trimmed_to" "Journal.trimmed_to" s_Journal_trimmed_to f fd) (TC : JournalC K mg C) : FnOk P w K mg base CX0 1 f fd ["self"] (spTrTo C) := by
 refine F.ok sc_Journal_trimmed_to (fun vs H Q E h => ?_) (fun cdv A outer s0 H vs Q E hr h => ?_)
 · obtain ⟨a, s, rfl, _⟩ := h; rfl
 · obtain ⟨a, s, rfl, hA, q⟩ := h
   refine ⟨_, (qM (yJ (k_fld K (pv 0) rfl))), ?_⟩
   obtain ⟨dx, h1⟩ := hA.ob
   exact ⟨_, rfl, a.p, C, dx, _, _, rfl, h1, TC.cl_Journal, TC.n_trimmed, jF_tr, q⟩
def onesJ (s : JS) : List Msg := yB (s.on ++ s.row.take (s.tr - s.g).toNat)
def keptJ (s : JS) : List Msg := s.row.drop (s.tr - s.g).toNat
structure JTx (s : JS) : Prop where
 ok : JOk s
 g : s.g ≤ s.tr
 t0 : 0 ≤ s.tr
 t9 : s.tr ≤ 999999
 m : ∀ m ∈ s.on ++ s.row, OkM m
def spJText (C : Addr) : Sp := fun vs H Q _ => ∃ a s, vs = [.ref (JA.p a)] ∧ JAt C H a s ∧ JTx s ∧ ∀ H', Same H H' → Q (sV (jT s.tr.toNat (onesJ s) (keptJ s))) H'
theorem frS_len {o : List Msg} (h : ∀ m ∈ o, OkM m) : (frS o).length ≤ o.length * 252 := by
 unfold frS
 rw [List.length_flatten, List.map_map]
 have h4 : ∀ x ∈ (o.map frC), x.length ≤ 252 := fun x hx => by
   obtain ⟨m, hm, rfl⟩ := List.mem_map.mp hx
   exact frC_len (h m hm)
 have := sum_le _ h4
 rw [List.map_map, List.length_map] at this
 exact this
theorem lnC_cnt2 : ∀ {W : List (List Nat)}, (∀ l ∈ W, 10 ∉ l) → (lnC W).count 10 = W.length
 | [], _ => rfl
 | l :: W, h => by
   have := lnC_cnt2 (W := W) fun x hx => h x (List.mem_cons_of_mem _ hx)
   rw [lnC_cons, List.count_append, List.count_cons_self, List.length_cons, this, List.count_eq_zero.mpr (h l List.mem_cons_self)]
   omega
theorem frS_cnt2 : ∀ {o : List Msg}, (∀ m ∈ o, OkM m) → (frS o).count 10 ≤ 12 * o.length
 | [], _ => Nat.le_refl _
 | m :: r, h => by
   have ih := frS_cnt2 (o := r) fun x hx => h x (List.mem_cons_of_mem _ hx)
   have om := h m List.mem_cons_self
   have e : frS (m :: r) = frC m ++ frS r := by unfold frS; rw [List.map_cons, List.flatten_cons]
   have h1 : (frC m).count 10 = (frB m ++ [[]]).length := lnC_cnt2 fun l hl => by
     rcases List.mem_append.mp hl with hl | hl
     · exact frB_free om l hl
     · rw [List.mem_singleton.mp hl]; exact nofun
   have h2 := frB_len om
   rw [e, List.count_append, List.length_cons, h1, List.length_append, List.length_singleton]
   omega
abbrev s_journal_text : Stmt := top 41
abbrev N_journal_text : List Str := ["journal", "number", "head"]
theorem sc_journal_text : FnScope N_journal_text ["journal"] (qQ s_journal_text) := ⟨rfl, rfl, rfl, by decide +kernel, rfl, by decide +kernel, by decide +kernel⟩
theorem ok_journal_text {f C : Addr} {fd : FuncData} (F : Fun K "journal_text" "journal_text" s_journal_text f fd) (T : Txt mg) (TC : JournalC K mg C) (m_trimmed_to : CalleeM P w K mg base 1 C "trimmed_to" ["self"] (spTrTo C)) (m_last_at : CalleeM P w K mg base 5 C "last_at" ["self", "number"] (spLastAtJ C)) (m_kept : CalleeM P w K mg base 1 C "kept" ["self"] (spKeptJ C)) (c_stream_text : Callee P w K mg base 4 "stream_text" ["messages"] spSmT) :
   FnOk P w K mg base CX0 6 f fd ["journal"] (spJText C) := by
 refine F.ok sc_journal_text (fun vs H Q E h => ?_) (fun cdv A outer s0 H vs Q E hr h => ?_)
 · obtain ⟨a, s, rfl, _⟩ := h; rfl
 · obtain ⟨a, s, rfl, hA, hT, q⟩ := h
   refine ⟨_, (qV (yV (i := 1) sc_journal_text.nd rfl (Or.inl rfl) (as_meth0 m_trimmed_to TC.cl_Journal (hr.mono (by decide)) (pv 0)))
     (qV (yV (i := 2) sc_journal_text.nd rfl (Or.inl rfl) (qz qB (qz qB (qz qB (pe_gl T.g_TRIM_FRONT) (as_callTy call_strI (by rfl) T.b_str PyProof.Rows.boot_str (qJ (pv 1) qZ))) qD) (yy c_stream_text (hr.mono (by decide)) (qJ (as_meth m_last_at TC.cl_Journal (hr.mono (by decide)) (pv 0) (qJ (pv 1) qZ)) qZ))))
     (qM (yJ (qz qB (qz qB (qz qB (pv 2) (pe_gl T.g_ON_LINE)) qD) (yy c_stream_text (hr.mono (by decide)) (qJ (as_meth0 m_kept TC.cl_Journal (hr.mono (by decide)) (pv 0)) qZ))))))), ?_⟩
   obtain ⟨dx, h1⟩ := hA.ob
   refine ⟨_, rfl, a.p, dx, _, rfl, h1, no_j2 (.inl rfl), a, s, rfl, hA, ?_⟩
   have LC : ∀ x y : Str, (x ++ y).length = x.length + y.length := fun x y => by rw [← yY, yM, List.length_append, yY, yY]
   have LS : ∀ l : List Nat, (⟨l.toArray⟩ : Str).length = l.length := fun l => by simp [Str.length]
   have L1 : ("trim: " : Str).length = 6 := by decide +kernel
   have L2 : ("\n\n" : Str).length = 2 := by decide +kernel
   have L3 : ("on\n" : Str).length = 3 := by decide +kernel
   have L4 : ("\n" : Str).length = 1 := by decide +kernel
   have hn := nT_len hT.t0 hT.t9
   have hsz := hT.ok.sz
   have hR : Rise (s.on ++ s.row.take (s.tr - s.g).toNat) := hT.ok.rise.sublist (List.Sublist.append_left (List.take_sublist _ _) _)
   have okO : ∀ m ∈ onesJ s, OkM m := fun m hm => by
     have := (List.mem_filter.mp hm).1
     refine hT.m m ?_
     rcases List.mem_append.mp this with h | h
     · exact List.mem_append_left _ h
     · exact List.mem_append_right _ (List.mem_of_mem_take h)
   have okK : ∀ m ∈ keptJ s, OkM m := fun m hm => hT.m m (List.mem_append_right _ (List.mem_of_mem_drop hm))
   have lO : (onesJ s).length < 60 := by
     have h1 : (onesJ s).length ≤ (s.on ++ s.row.take (s.tr - s.g).toNat).length := List.length_filter_le _ _
     rw [List.length_append, List.length_take] at h1
     omega
   have lK : (keptJ s).length < 60 := by
     have h1 : (keptJ s).length = s.row.length - (s.tr - s.g).toNat := List.length_drop
     omega
   have fO : ((onesJ s).map frC).flatten.length ≤ (onesJ s).length * 252 := frS_len okO
   have fK : ((keptJ s).map frC).flatten.length ≤ (keptJ s).length * 252 := frS_len okK
   refine ⟨_, rfl, s.tr, rfl, n_log hT.t0 hT.t9, _, _, rfl, rfl, ?_, _, _, rfl, rfl, ?_, _, rfl, a.p, dx, _, rfl, h1, no_j (.inr (.inr (.inr (.inr (.inr (.inr (.inl rfl))))))), _, rfl, a, s, s.tr, rfl, hA, hT.g, hT.ok, fun l ys ls H1 s1 hl hl1 hM1 hL => ?_⟩
   · rw [L1, sizeLine_eq]; omega
   · rw [LC, L1, L2, sizeLine_eq]; omega
   obtain rfl : ls = onesJ s := Lasts.uniq hL (lastF_lasts hR)
   refine ⟨l, ys, onesJ s, rfl, hl1, hM1, by omega, okO, fun H2 t2 => ⟨_, _, rfl, rfl, ?_, ?_⟩⟩
   · rw [LC, LC, L1, L2, sizeLine_eq]
     rw [LS ((onesJ s).map frC).flatten]; omega
   have s2 := s1.trans t2
   have hA2 := hA.same s2
   obtain ⟨dx2, h2⟩ := hA2.ob
   refine ⟨_, rfl, _, _, rfl, rfl, ?_, _, _, rfl, rfl, ?_, _, rfl, a.p, dx2, _, rfl, h2, no_j (.inr (.inr (.inr (.inr (.inl rfl))))), a, s, rfl, hA2, hT.g, fun l3 y3 hl3 hM3 => ?_⟩
   · rw [LC, LC, LC, L1, L2, L3, sizeLine_eq]
     rw [LS ((onesJ s).map frC).flatten]; omega
   · rw [LC, LC, LC, LC, L1, L2, L3, L4, sizeLine_eq]
     rw [LS ((onesJ s).map frC).flatten]; omega
   have s3 := Same.new (o := .lst y3) hl3
   refine ⟨l3, y3, keptJ s, rfl, qY, hM3, by omega, okK, fun H4 t4 => ⟨_, _, rfl, rfl, ?_, ?_⟩⟩
   · rw [LC, LC, LC, LC, LC, L1, L2, L3, L4, sizeLine_eq]
     rw [LS ((onesJ s).map frC).flatten, LS ((keptJ s).map frC).flatten]; omega
   have e : V.str ((("trim: " : Str) ++ nT s.tr ++ ("\n\n" : Str) ++ (⟨((onesJ s).map frC).flatten.toArray⟩ : Str)) ++ ("on\n" : Str) ++ ("\n" : Str) ++ (⟨((keptJ s).map frC).flatten.toArray⟩ : Str)) = sV (jT s.tr.toNat (onesJ s) (keptJ s)) := by
     refine sV_of ?_
     have e0 := nT_cps s.tr.toNat
     rw [Int.toNat_of_nonneg hT.t0] at e0
     have a1 : ("trim: " : Str).cps.toList = trF := by decide +kernel
     have a2 : ("\n\n" : Str).cps.toList = [10, 10] := by decide +kernel
     have a3 : ("on\n" : Str).cps.toList = onL ++ [10] := by decide +kernel
     have a4 : ("\n" : Str).cps.toList = [10] := by decide +kernel
     rw [yM, yM, yM, yM, yM, yM, e0, a1, a2, a3, a4]
     unfold jT frS
     simp
   rw [e]
   exact q _ (s2.trans (s3.trans t4))
def spTNX (CN : Addr) : Sp := fun vs H Q E => ∃ (z : Str), vs = [.str z] ∧ z.length ≤ sizeLine ∧ (∀ n : Nat, z.cps.toList = dgT n → n ≤ 999999 → ∀ H', Same H H' → Q (.int n) H') ∧ ((∀ n : Nat, n ≤ 999999 → z.cps.toList ≠ dgT n) → ∀ H', Same H H' → E (.ref CN) none H')
abbrev s_trim_number_in : Stmt := top 43
abbrev N_trim_number_in : List Str := ["text"]
theorem sc_trim_number_in : FnScope N_trim_number_in ["text"] (qQ s_trim_number_in) := ⟨rfl, rfl, rfl, by decide +kernel, rfl, by decide +kernel, by decide +kernel⟩
theorem okx_trim_number_in {f CN : Addr} {fd : FuncData} (F : Fun K "trim_number_in" "trim_number_in" s_trim_number_in f fd) (cx_number_in : CalleeX P w K mg base 2 "number_in" ["text"] (spNInX CN)) : FnOk P w K mg base (CXF P w) 3 f fd ["text"] (spTNX CN) := by
 refine F.okX sc_trim_number_in (fun vs H Q E h => ?_) (fun cdv A outer s H vs Q E hr h => ?_)
 · obtain ⟨z, rfl, _⟩ := h; rfl
 · obtain ⟨z, rfl, hsz, q1, q2⟩ := h
   refine ⟨_, (qM (yJ (pe_ifExp (yv op_eq (pv 0) qD (nomark _)) qG (as_fnX cx_number_in (hr.mono (by decide)) pass_on (qJ (pv 0) qZ))))), ?_⟩
   have e0 : ("0" : Str).cps.toList = dgT 0 := by decide +kernel
   refine ⟨_, rfl, rfl, _, rfl, ite2 (fun b => ?_) (fun b => ?_)⟩
   · have b' : V.str z = V.str "0" := of_decide_eq_true b
     injection b' with b'
     exact q1 0 (by rw [b', e0]) (by decide) _ (Same.refl _)
   · have b' : z.cps.toList ≠ dgT 0 := fun e => b (decide_eq_true (congrArg V.str (str_ext' (by rw [e, e0]))))
     refine ⟨_, rfl, z, rfl, hsz, fun n hn n1 n9 H1 s1 => q1 n hn n9 H1 s1, fun hno => q2 fun n n9 e => ?_⟩
     rcases Nat.eq_zero_or_pos n with rfl | n1
     · exact b' e
     · exact hno n n1 n9 e
def spUnfit (CN : Addr) : Sp := fun vs H Q E => ∃ (n : Nat) (lo lk : Addr) (yo yk : List V) (o k : List Msg), vs = [.int (n : Int), .ref lo, .ref lk] ∧ H lo = some (.lst yo) ∧ Ms H yo o ∧ H lk = some (.lst yk) ∧ Ms H yk k ∧ o.length < 60 ∧ k.length < 60 ∧ n ≤ 999999 ∧ (∀ m ∈ o, OkM m) ∧
 (fitJ n o k → ∀ H', Same H H' → Q .non H') ∧ (¬ fitJ n o k → ∀ H', Same H H' → E (.ref CN) none H')
abbrev s_refuse_unfit : Stmt := top 44
abbrev N_refuse_unfit : List Str := ["number", "ones", "kept", "numbers"]
theorem sc_refuse_unfit : FnScope N_refuse_unfit ["number", "ones", "kept"] (qQ s_refuse_unfit) := ⟨rfl, rfl, rfl, by decide +kernel, rfl, by decide +kernel, by decide +kernel⟩
theorem okx_refuse_unfit {f CN : Addr} {fd : FuncData} (F : Fun K "refuse_unfit" "refuse_unfit" s_refuse_unfit f fd) (T : Txt mg) (x_NoText : Exc K mg "NoText" CN) (c_number_of : Callee P w K mg base 1 "number_of" ["message"] (spItem 0)) : FnOk P w K mg base (CXF P w) 2 f fd ["number", "ones", "kept"] (spUnfit CN) := by
 refine F.okX sc_refuse_unfit (fun vs H Q E h => ?_) (fun cdv A outer s H vs Q E hr h => ?_)
 · obtain ⟨n, lo, lk, yo, yk, o, k, rfl, _⟩ := h; rfl
 · obtain ⟨n, lo, lk, yo, yk, o, k, rfl, hlo, hMo, hlk, hMk, ho, hk, hn, okO, q1, q2⟩ := h
   refine ⟨_, (qV (ps_comp (i := 3) sc_refuse_unfit.nd rfl (Or.inl rfl) (N' := ["message"]) (ix := [none]) (own := [0]) rfl (cs_of (osc := qQ s_refuse_unfit) (ON := N_refuse_unfit) rfl rfl (by decide +kernel)) (by decide) (k_it_list K (pv 1)) (fun _ _ _ _ => (pg_name (i := 0) (show (["message"] : List Str).Nodup by decide +kernel) rfl (Or.inl rfl))) own_name (fun _ _ _ _ => pifs_nil) (fun _ _ _ _ => (yy c_number_of (hr.mono (by decide)) (qJ (pv 0) qZ))))
     (qV (ps_if (PW.pt (pw_or (yv (op_neD hr.units) (pv 3) (yG (k_sortS P w rfl) (by rfl) T.b_sorted PyProof.Rows.boot_sorted (qJ (as_callTy (k_setK P w K rfl) (by rfl) T.b_set PyProof.Rows.boot_set (qJ (pv 3) qZ)) qZ)) (nomark _)) (pw_or1 (yv op_ne (k_maxD K rfl (pv 3) T.b_max) (pv 0) (nomark _))))) (qM (ps_raise x_NoText (qJ qD qZ))) pss_nil)
     (qM (ps_if (yv (op_neD hr.units) (pe_comp (N' := ["message"]) (ix := [none]) (own := [0]) rfl (cs_of (osc := qQ s_refuse_unfit) (ON := N_refuse_unfit) rfl rfl (by decide +kernel)) (by decide) (k_it_list K (pv 2)) (fun _ _ _ _ => (pg_name (i := 0) (show (["message"] : List Str).Nodup by decide +kernel) rfl (Or.inl rfl))) own_name (fun _ _ _ _ => pifs_nil) (fun _ _ _ _ => (yy c_number_of (hr.mono (by decide)) (qJ (pv 0) qZ)))) (as_callTy (call_list_rng rfl) (by rfl) T.b_list PyProof.Rows.boot_list (qJ (as_callTy call_rng (by rfl) T.b_range PyProof.Rows.boot_range (qJ (qz op_add (pv 0) qG) (qU (qz op_add (qz op_add (pv 0) qG) (yG (k_len_seq K) (by rfl) T.b_len PySem.boot_len (qJ (pv 2) qZ))) qZ))) qZ)) (nomark _)) (qM (ps_raise x_NoText (qJ qD qZ))) pss_nil)))), ?_⟩
   have hyo := hMo.len
   have hyk := hMk.len
   refine ⟨_, rfl, lo, rfl, ⟨_, SqL.ofL hlo⟩, _, PMap H o fun m => .int m.n, szl (by omega), PMap.zero, PMap.step hlo hMo (fun c1 m1 R N hm1 hc1 hR => ?_), fun ys' H2 hP => ?_⟩
   · exact rd_name (rd_yes (iteT ⟨_, rfl, c1, _, _, _, rfl, hc1, hR⟩))
   obtain ⟨hst, rfl, rfl⟩ := PMap.done (K := K) hlo hMo hP
   refine ⟨hst, fun ln nln => ?_⟩
   have erw : o.map (fun m => V.int m.n) = (o.map (·.n)).map V.int := by rw [List.map_map]; rfl
   rw [erw]
   have g1 := Same.new (o := .lst ((o.map (·.n)).map V.int)) nln
   have e1 := qY (H := H) (a := ln) (o := .lst ((o.map (·.n)).map V.int))
   generalize upd H ln (.lst ((o.map (·.n)).map V.int)) = H1 at g1 e1 ⊢
   have hks : (o.map (·.n)).map V.int = ((o.map (·.n)).map Sum.inl : List Key).map kV := by rw [List.map_map (f := Sum.inl)]; rfl
   refine ⟨_, rfl, _, rfl, ln, (o.map (·.n)).map Sum.inl, rfl, by rw [← hks]; exact SqL.ofL e1, by simp; omega, fun ps nps => ?_⟩
   have g2 := Same.new (o := SetO P w ps ((o.map (·.n)).map Sum.inl)) nps
   have e2 := qY (H := H1) (a := ps) (o := SetO P w ps ((o.map (·.n)).map Sum.inl))
   have e12 := g2 _ _ e1
   generalize upd H1 ps (SetO P w ps ((o.map (·.n)).map Sum.inl)) = H2 at g2 e2 e12 ⊢
   refine ⟨ps, o.map (·.n), rfl, e2, by simp; omega, fun p3 ms3 np3 nd3 hm3 => ?_⟩
   have hsrt := rise_sort nd3 hm3
   generalize W.sortI ms3 = SS at hsrt ⊢
   have g3 := Same.new (o := .lst (SS.map V.int)) np3
   have e13 := g3 _ _ e12
   have g123 := g1.trans (g2.trans g3)
   refine ne_intsD e13 qY ⟨_, rfl, ite2 (fun b => ?_) (fun b => ?_)⟩
   · refine ⟨by decide, q2 (fun hf => ?_) _ g123⟩
     rw [decide_eq_true (hsrt.mpr hf.1)] at b
     cases b
   have hrise : (o.map (·.n)).Pairwise (· < ·) := by
     refine hsrt.mp (Classical.byContradiction fun ne => b ?_)
     rw [decide_eq_false ne]; rfl
   generalize upd H2 p3 (.lst (SS.map V.int)) = H3 at e13 g123 ⊢
   refine ⟨_, rfl, ln, o.map (·.n), rfl, SqL.ofL e13, fun ho0 => ?_, fun M hM1 hM2 => ?_⟩
   · have hmx : maxO o = 0 := by
       have : o = [] := List.map_eq_nil_iff.mp ho0
       rw [this]; rfl
     refine ⟨_, rfl, rfl, _, rfl, ite2 (fun b2 => ?_) (fun b2 => ?_)⟩
     · refine ⟨by decide, q2 (fun hf => ?_) _ g123⟩
       have hz : (0 : Int) = (n : Int) := by rw [← hmx]; exact hf.2.1
       have hz2 : V.int (0 : Int) = V.int (n : Int) := congrArg V.int hz
       rw [decide_eq_true hz2] at b2
       cases b2
     have hmn : (0 : Int) = (n : Int) := by
       refine Classical.byContradiction fun ne => b2 ?_
       rw [decide_eq_false (fun w => ne (by injection w))]; rfl
     have hlk3 := g123 _ _ hlk
     have hMk3 := hMk.same g123
     refine ⟨_, rfl, lk, rfl, ⟨_, SqL.ofL hlk3⟩, _, PMap H3 k fun m => .int m.n, szl (by omega), PMap.zero, PMap.step hlk3 hMk3 (fun c1 m1 R N hm1 hc1 hR => ?_), fun ys' H2 hP => ?_⟩
     · exact rd_name (rd_yes (iteT ⟨_, rfl, c1, _, _, _, rfl, hc1, hR⟩))
     obtain ⟨hst, rfl, rfl⟩ := PMap.done (K := K) hlk3 hMk3 hP
     refine ⟨hst, fun l4 n4 => ?_⟩
     have erw : k.map (fun m => V.int m.n) = (k.map (·.n)).map V.int := by rw [List.map_map]; rfl
     rw [erw]
     have g4 := Same.new (o := .lst ((k.map (·.n)).map V.int)) n4
     have e4 := qY (H := H3) (a := l4) (o := .lst ((k.map (·.n)).map V.int))
     generalize upd H3 l4 (.lst ((k.map (·.n)).map V.int)) = H4 at g4 e4 ⊢
     refine ⟨_, rfl, _, _, rfl, rfl, _, rfl, _, _, rfl, rfl, _, rfl, lk, _, rfl, .inl (SqL.ofL (g4 _ _ hlk3)), _, _, rfl, rfl, _, _, rfl, ⟨by omega, by omega, by omega, by omega⟩, fun p5 n5 => ?_⟩
     have g5 := Same.new (o := .rng ((n : Int) + 1) ((n : Int) + 1 + (yk.length : Int))) n5
     have e5 := qY (H := H4) (a := p5) (o := .rng ((n : Int) + 1) ((n : Int) + 1 + (yk.length : Int)))
     have e45 := g5 _ _ e4
     show (fun HH : Hp => _) (upd H4 p5 (.rng ((n : Int) + 1) ((n : Int) + 1 + (yk.length : Int))))
     generalize upd H4 p5 (.rng ((n : Int) + 1) ((n : Int) + 1 + (yk.length : Int))) = H5 at g5 e5 e45
     refine ⟨p5, _, _, rfl, e5, ⟨by omega, by omega, by omega, by omega⟩, by omega, fun p6 n6 => ?_⟩
     have erg : rgs ((n : Int) + 1) ((n : Int) + 1 + (yk.length : Int) - ((n : Int) + 1)).toNat = rgs ((n : Int) + 1) k.length := by
       rw [← hyk]; congr 1; omega
     rw [erg]
     have g6 := Same.new (o := .lst ((rgs ((n : Int) + 1) k.length).map V.int)) n6
     have gall := g123.trans ((g4.trans g5).trans g6)
     refine ne_intsD (g6 _ _ e45) qY ⟨_, rfl, ite2 (fun b3 => ?_) (fun b3 => ?_)⟩
     · refine ⟨by decide, q2 (fun hf => ?_) _ gall⟩
       rw [decide_eq_true (show k.map (·.n) = rgs ((n : Int) + 1) k.length from hf.2.2)] at b3
       cases b3
     · refine q1 ⟨hrise, by rw [hmx]; exact hmn, ?_⟩ _ gall
       refine Classical.byContradiction fun ne => b3 ?_
       rw [decide_eq_false (show ¬ k.map (·.n) = rgs ((n : Int) + 1) k.length from ne)]; rfl
   · have hmx : maxO o = M := maxO_is (fun m hm => (okO m hm).1.1) hM1 hM2
     refine ⟨_, rfl, rfl, _, rfl, ite2 (fun b2 => ?_) (fun b2 => ?_)⟩
     · refine ⟨by decide, q2 (fun hf => ?_) _ g123⟩
       have hz : M = (n : Int) := by rw [← hmx]; exact hf.2.1
       have hz2 : V.int M = V.int (n : Int) := congrArg V.int hz
       rw [decide_eq_true hz2] at b2
       cases b2
     have hmn : M = (n : Int) := by
       refine Classical.byContradiction fun ne => b2 ?_
       rw [decide_eq_false (fun w => ne (by injection w))]; rfl
     have hlk3 := g123 _ _ hlk
     have hMk3 := hMk.same g123
     refine ⟨_, rfl, lk, rfl, ⟨_, SqL.ofL hlk3⟩, _, PMap H3 k fun m => .int m.n, szl (by omega), PMap.zero, PMap.step hlk3 hMk3 (fun c1 m1 R N hm1 hc1 hR => ?_), fun ys' H2 hP => ?_⟩
     · exact rd_name (rd_yes (iteT ⟨_, rfl, c1, _, _, _, rfl, hc1, hR⟩))
     obtain ⟨hst, rfl, rfl⟩ := PMap.done (K := K) hlk3 hMk3 hP
     refine ⟨hst, fun l4 n4 => ?_⟩
     have erw : k.map (fun m => V.int m.n) = (k.map (·.n)).map V.int := by rw [List.map_map]; rfl
     rw [erw]
     have g4 := Same.new (o := .lst ((k.map (·.n)).map V.int)) n4
     have e4 := qY (H := H3) (a := l4) (o := .lst ((k.map (·.n)).map V.int))
     generalize upd H3 l4 (.lst ((k.map (·.n)).map V.int)) = H4 at g4 e4 ⊢
     refine ⟨_, rfl, _, _, rfl, rfl, _, rfl, _, _, rfl, rfl, _, rfl, lk, _, rfl, .inl (SqL.ofL (g4 _ _ hlk3)), _, _, rfl, rfl, _, _, rfl, ⟨by omega, by omega, by omega, by omega⟩, fun p5 n5 => ?_⟩
     have g5 := Same.new (o := .rng ((n : Int) + 1) ((n : Int) + 1 + (yk.length : Int))) n5
     have e5 := qY (H := H4) (a := p5) (o := .rng ((n : Int) + 1) ((n : Int) + 1 + (yk.length : Int)))
     have e45 := g5 _ _ e4
     show (fun HH : Hp => _) (upd H4 p5 (.rng ((n : Int) + 1) ((n : Int) + 1 + (yk.length : Int))))
     generalize upd H4 p5 (.rng ((n : Int) + 1) ((n : Int) + 1 + (yk.length : Int))) = H5 at g5 e5 e45
     refine ⟨p5, _, _, rfl, e5, ⟨by omega, by omega, by omega, by omega⟩, by omega, fun p6 n6 => ?_⟩
     have erg : rgs ((n : Int) + 1) ((n : Int) + 1 + (yk.length : Int) - ((n : Int) + 1)).toNat = rgs ((n : Int) + 1) k.length := by
       rw [← hyk]; congr 1; omega
     rw [erg]
     have g6 := Same.new (o := .lst ((rgs ((n : Int) + 1) k.length).map V.int)) n6
     have gall := g123.trans ((g4.trans g5).trans g6)
     refine ne_intsD (g6 _ _ e45) qY ⟨_, rfl, ite2 (fun b3 => ?_) (fun b3 => ?_)⟩
     · refine ⟨by decide, q2 (fun hf => ?_) _ gall⟩
       rw [decide_eq_true (show k.map (·.n) = rgs ((n : Int) + 1) k.length from hf.2.2)] at b3
       cases b3
     · refine q1 ⟨hrise, by rw [hmx]; exact hmn, ?_⟩ _ gall
       refine Classical.byContradiction fun ne => b3 ?_
       rw [decide_eq_false (show ¬ k.map (·.n) = rgs ((n : Int) + 1) k.length from ne)]; rfl
def spReadJX (C CX : Addr) : Sp := fun vs H Q E => ∃ (z : Str), vs = [.str z] ∧ z.cps.toList.length ≤ 3900 ∧ z.cps.toList.count 10 ≤ 200 ∧
 (∀ n o k, rdJ z.cps.toList = some (n, o, k) → ∀ a H', JAt C H' a ⟨(n : Int), o, k, (n : Int), [], []⟩ → Stp [] H a.fp H' → Q (.ref a.p) H') ∧ (rdJ z.cps.toList = none → ∀ H', Same H H' → E (.ref CX) none H')
theorem sep_is : (("\n" : Str) ++ ("on\n" : Str) ++ ("\n" : Str)).cps.toList = sepJ := by decide +kernel
theorem two_is : ("\n\n" : Str).cps.toList = [10, 10] := by decide +kernel
abbrev s_read_journal : Stmt := top 42
abbrev N_read_journal : List Str := ["text", "parts", "head", "number", "ones", "kept", "journal"]
theorem sc_read_journal : FnScope N_read_journal ["text"] (qQ s_read_journal) := ⟨rfl, rfl, rfl, by decide +kernel, rfl, by decide +kernel, by decide +kernel⟩
theorem okx_read_journal {f C CX : Addr} {fd : FuncData} (F : Fun K "read_journal" "read_journal" s_read_journal f fd) (T : Txt mg) (x_NoText : Exc K mg "NoText" CX) (cx_trim_number_in : CalleeX P w K mg base 3 "trim_number_in" ["text"] (spTNX CX)) (cx_without_front : CalleeX P w K mg base 1 "without_front" ["line", "front"] (spWFX CX)) (cx_read : CalleeX P w K mg base 6 "read" ["text"] (spReadX CX)) (cx_refuse_unfit : CalleeX P w K mg base 2 "refuse_unfit" ["number", "ones", "kept"] (spUnfit CX))
   (c_trimmed_journal : Callee P w K mg base 3 "trimmed_journal" ["number", "ones", "kept"] (spTrimmedJ C)) (c_journal_text : Callee P w K mg base 6 "journal_text" ["journal"] (spJText C)) :
   FnOk P w K mg base (CXF P w) 7 f fd ["text"] (spReadJX C CX) := by
 refine F.okX sc_read_journal (fun vs H Q E h => ?_) (fun cdv A outer s0 H vs Q E hr h => ?_)
 · obtain ⟨z, rfl, _⟩ := h; rfl
 · obtain ⟨z, rfl, hz, hct, q1, q2⟩ := h
   refine ⟨_, (qV (yV (i := 1) sc_read_journal.nd rfl (Or.inl rfl) (k_bm K PySem.F.plainAttrs_str PySem.F.slot_str_partition PySem.F.type_str_partition mt_partition (pv 0) (yz (qz qB (qz qB qD (pe_gl T.g_ON_LINE)) qD) pa_nil)))
     (qV (yV (i := 2) sc_read_journal.nd rfl (Or.inl rfl) (k_bm K PySem.F.plainAttrs_str PySem.F.slot_str_partition PySem.F.type_str_partition mt_partition (qz qB (pe_ix (k_ix_tup K) (pv 1) qG (fun _ _ => rfl)) qD) (yz qD pa_nil)))
     (qV (yV (i := 3) sc_read_journal.nd rfl (Or.inl rfl) (as_fnX cx_trim_number_in (hr.mono (by decide)) pass_on (qJ (as_fnX cx_without_front (hr.mono (by decide)) pass_on (qJ (pe_ix (k_ix_tup K) (pv 2) qG (fun _ _ => rfl)) (qU (pe_gl T.g_TRIM_FRONT) qZ))) qZ)))
     (qV (yV (i := 4) sc_read_journal.nd rfl (Or.inl rfl) (as_fnX cx_read (hr.mono (by decide)) pass_on (qJ (pe_ix (k_ix_tup K) (pv 2) qG (fun _ _ => rfl)) qZ)))
     (qV (yV (i := 5) sc_read_journal.nd rfl (Or.inl rfl) (as_fnX cx_read (hr.mono (by decide)) pass_on (qJ (pe_ix (k_ix_tup K) (pv 1) qG (fun _ _ => rfl)) qZ)))
     (qV (ps_expr (as_fnX cx_refuse_unfit (hr.mono (by decide)) pass_on (qJ (pv 3) (qU (pv 4) (qU (pv 5) qZ)))))
     (qV (yV (i := 6) sc_read_journal.nd rfl (Or.inl rfl) (yy c_trimmed_journal (hr.mono (by decide)) (qJ (pv 3) (qU (pv 4) (qU (pv 5) qZ)))))
     (qV (ps_if (yv op_ne (yy c_journal_text (hr.mono (by decide)) (qJ (pv 6) qZ)) (pv 0) (nomark _)) (qM (ps_raise x_NoText (qJ qD qZ))) pss_nil)
     (qM (yJ (pv 6))))))))))), ?_⟩
   have L3 : ("on\n" : Str).length = 3 := by decide +kernel
   have L4 : ("\n" : Str).length = 1 := by decide +kernel
   have LC : ∀ x y : Str, (x ++ y).length = x.length + y.length := fun x y => by rw [← yY, yM, List.length_append, yY, yY]
   have hzs : z.length ≤ 3900 := by rw [← yY]; exact hz
   refine ⟨_, rfl, rfl, _, _, rfl, rfl, by rw [L3, L4]; decide, _, _, rfl, rfl, by rw [LC, L3, L4]; decide, z, _, rfl, rfl, by rw [LC, LC, L3, L4]; decide, by rw [sizeLine_eq]; omega, fun p1 m1 np1 => ?_⟩
   rw [sep_is]
   obtain ⟨c1, c2⟩ := parL_cnt sepJ z.cps.toList
   have hrd : rdJ z.cps.toList = ((trimN (parL [10, 10] ((parL sepJ z.cps.toList).1 ++ [10])).1).bind fun n => (rdA (parL [10, 10] ((parL sepJ z.cps.toList).1 ++ [10])).2).bind fun o => (rdA (parL sepJ z.cps.toList).2).bind fun k => if fitJ n o k ∧ jT n (yB o) k = z.cps.toList then some (n, o, k) else none) := rfl
   generalize parL sepJ z.cps.toList = pp at c1 c2 hrd ⊢
   obtain ⟨pa, pb⟩ := pp
   dsimp only at c1 c2 hrd ⊢
   have s1 := Same.new (o := .tup [.str ⟨pa.toArray⟩, .str m1, .str ⟨pb.toArray⟩]) np1
   have e1 := qY (H := H) (a := p1) (o := .tup [.str ⟨pa.toArray⟩, .str m1, .str ⟨pb.toArray⟩])
   generalize upd H p1 (.tup [.str ⟨pa.toArray⟩, .str m1, .str ⟨pb.toArray⟩]) = H1 at s1 e1 ⊢
   have LS : ∀ l : List Nat, (⟨l.toArray⟩ : Str).length = l.length := fun l => by simp [Str.length]
   have lpa : pa.length ≤ 3900 := by omega
   refine rd_name ?_
   refine ⟨_, rfl, p1, _, 0, _, rfl, rfl, SqT.ofT e1, atI_nat (j := 0) rfl, _, _, rfl, rfl, by rw [LS pa, L4, sizeLine_eq]; omega, rfl, _, _, rfl, rfl, by decide +kernel, by rw [LC, LS pa, L4, sizeLine_eq]; omega, fun p2 m2 np2 => ?_⟩
   have hca : ((⟨pa.toArray⟩ : Str) ++ ("\n" : Str)).cps.toList = pa ++ [10] := by rw [yM, nl_cps]
   rw [hca, two_is]
   obtain ⟨d1, d2⟩ := parL_cnt [10, 10] (pa ++ [10])
   rw [List.count_append, show [10].count 10 = 1 from rfl] at d1
   rw [List.length_append (as := pa), List.length_singleton] at d2
   generalize parL [10, 10] (pa ++ [10]) = hh at d1 d2 hrd ⊢
   obtain ⟨ha, hb⟩ := hh
   dsimp only at d1 d2 hrd ⊢
   have s2 := Same.new (o := .tup [.str ⟨ha.toArray⟩, .str m2, .str ⟨hb.toArray⟩]) np2
   have e2 := qY (H := H1) (a := p2) (o := .tup [.str ⟨ha.toArray⟩, .str m2, .str ⟨hb.toArray⟩])
   have e12 := s2 _ _ e1
   generalize upd H1 p2 (.tup [.str ⟨ha.toArray⟩, .str m2, .str ⟨hb.toArray⟩]) = H2 at s2 e2 e12 ⊢
   refine rd_name ?_
   have s12 := s1.trans s2
   have ct : ("trim: " : Str).cps.toList = trF := by decide +kernel
   have ltr : ∀ {t : List Nat}, ha = trF ++ t → t.length ≤ 3901 := fun {t} e => by
     rw [e, List.length_append] at d2; omega
   refine ⟨_, rfl, p2, _, 0, _, rfl, rfl, SqT.ofT e2, atI_nat (j := 0) rfl, _, "trim: ", rfl, by rw [LS ha, sizeLine_eq]; omega, fun t ht => ?_, fun hno => ?_⟩
   rotate_left
   · refine q2 ?_ _ s12
     rw [hrd]
     cases e : trimN ha with
     | none => rfl
     | some n => exact absurd (show (⟨ha.toArray⟩ : Str).cps.toList = ("trim: " : Str).cps.toList ++ dgT n by rw [ct]; exact (trimN_some e).1) (hno _)
   have ht' : ha = trF ++ t := by rw [← ct]; exact ht
   refine ⟨_, rfl, by rw [LS t, sizeLine_eq]; have := ltr ht'; omega, fun n hn n9 H3 s3 => ?_, fun hno => ?_⟩
   rotate_left
   · refine fun H3 s3 => q2 ?_ _ (s12.trans s3)
     rw [hrd]
     cases e : trimN ha with
     | none => rfl
     | some n =>
       obtain ⟨g1, g2⟩ := trimN_some e
       exact absurd (show (⟨t.toArray⟩ : Str).cps.toList = dgT n by rw [ht'] at g1; exact List.append_cancel_left g1) (hno n g2)
   have hn' : t = dgT n := hn
   have htn : trimN ha = some n := by rw [ht', hn']; exact trimN_is n9
   rw [htn] at hrd
   have hrd2 : rdJ z.cps.toList = ((rdA hb).bind fun o => (rdA pb).bind fun k => if fitJ n o k ∧ jT n (yB o) k = z.cps.toList then some (n, o, k) else none) := hrd
   refine rd_name ?_
   refine ⟨_, rfl, p2, _, 2, _, rfl, rfl, SqT.ofT (s3 _ _ e2), atI_nat (j := 2) rfl, _, rfl, by show hb.length ≤ 4000; omega, fun o ho lo yo H4 s4 nlo elo hMo => ?_, fun hno H4 s4 => q2 ?_ _ ((s12.trans s3).trans s4)⟩
   rotate_left
   · rw [hrd2, show rdA hb = none from hno]; rfl
   have ho' : rdA hb = some o := ho
   rw [ho'] at hrd2
   have hrd3 : rdJ z.cps.toList = ((rdA pb).bind fun k => if fitJ n o k ∧ jT n (yB o) k = z.cps.toList then some (n, o, k) else none) := hrd2
   refine rd_name ?_
   refine ⟨_, rfl, p1, _, 2, _, rfl, rfl, SqT.ofT (s4 _ _ (s3 _ _ e12)), atI_nat (j := 2) rfl, _, rfl, by show pb.length ≤ 4000; omega, fun k hk lk yk H5 s5 nlk elk hMk => ?_, fun hno H5 s5 => q2 ?_ _ (((s12.trans s3).trans s4).trans s5)⟩
   rotate_left
   · rw [hrd3, show rdA pb = none from hno]; rfl
   have hk' : rdA pb = some k := hk
   rw [hk'] at hrd3
   have hrd4 : rdJ z.cps.toList = if fitJ n o k ∧ jT n (yB o) k = z.cps.toList then some (n, o, k) else none := hrd3
   obtain ⟨eo, okO⟩ := rdA_some ho'
   obtain ⟨ek, okK⟩ := rdA_some hk'
   have k1 := frS_cnt o
   have k2 := frS_cnt k
   rw [show frS o = hb from eo.symm] at k1
   rw [show frS k = pb from ek.symm] at k2
   have hsz : o.length + k.length < 60 := by omega
   have s15 := ((s12.trans s3).trans s4).trans s5
   refine rd_name ?_
   refine ⟨_, rfl, _, rfl, _, rfl, n, lo, lk, yo, yk, o, k, rfl, s5 _ _ elo, hMo.same s5, elk, hMk, by omega, by omega, n9, okO, fun hf H6 s6 => ?_, fun hf H6 s6 => q2 ?_ _ (s15.trans s6)⟩
   rotate_left
   · rw [hrd4, if_neg fun w => hf w.1]
   have s16 := s15.trans s6
   refine ⟨_, rfl, _, rfl, _, rfl, (n : Int), lo, lk, yo, yk, o, k, rfl, s6 _ _ (s5 _ _ elo), (hMo.same s5).same s6, s6 _ _ elk, hMk.same s6, by omega, by omega, fun a H7 hA st7 => ?_⟩
   have hT : JTx ⟨(n : Int), o, k, (n : Int), [], []⟩ := {
     ok := { sz := hsz, sz2 := (show 0 + 0 < 500 by decide), rise := fit_rise hf }
     g := Int.le_refl _
     t0 := Int.natCast_nonneg _
     t9 := by show (n : Int) ≤ 999999; omega
     m := fun m hm => by
       rcases List.mem_append.mp hm with h | h
       · exact okO m h
       · exact okK m h }
   have eT : jT (JS.tr ⟨(n : Int), o, k, (n : Int), [], []⟩).toNat (onesJ ⟨(n : Int), o, k, (n : Int), [], []⟩) (keptJ ⟨(n : Int), o, k, (n : Int), [], []⟩) = jT n (yB o) k := by
     unfold onesJ keptJ
     simp
   refine ⟨_, rfl, a, _, rfl, hA, hT, fun H8 s8 => ?_⟩
   rw [eT]
   have sv : sV (jT n (yB o) k) = V.str z ↔ jT n (yB o) k = z.cps.toList := by
     refine ⟨fun e => ?_, fun e => by rw [e]; unfold sV; rw [str_mk]⟩
     injection e with e
     rw [← e]
   have s18 : Same H H8 := s16.trans (st7.same.trans s8)
   refine ⟨_, rfl, rfl, _, rfl, ite2 (fun b => ?_) (fun b => ?_)⟩
   · refine ⟨by decide, q2 ?_ _ s18⟩
     rw [hrd4, if_neg fun w => ?_]
     rw [decide_eq_true (sv.mpr w.2)] at b
     cases b
   · have hx : jT n (yB o) k = z.cps.toList := by
       refine Classical.byContradiction fun ne => b ?_
       rw [decide_eq_false fun w => ne (sv.mp w)]; rfl
     rw [if_pos ⟨hf, hx⟩] at hrd4
     exact ⟨_, rfl, q1 n o k hrd4 a H8 (hA.same s8) ((s16.step []).trans (st7.trans (s8.step _)))⟩
structure TxtX (K : W.Frag) (mg : Str → Option Value) (CT CX CN : Addr) : Prop where
 a_TellError : mg "TellError" = some (.ref CT)
 a_NoText : mg "NoText" = some (.ref CX)
 a_NoNumber : mg "NoNumber" = some (.ref CN)
 z : ExcCls K CX
 iN : W.kitOne K (.ref CX) (.ref CX) = some true
 iV : W.kitOne K (.ref CX) (.type "ValueError") = some true
 em : W.exmOne K (.ref CX) (.ref CT) = some true
 oJ : ∃ C, mg "Journal" = some (.ref C) ∧ OwnCls K C
theorem boot_ValueError : bootBuiltins "ValueError" = some (.type "ValueError") := by rfl
def spRefused (CN : Addr) : Sp := fun vs H Q _ => ∃ a, vs = [.ref a] ∧ H a = some (ExcO a (.ref CN)) ∧ ∀ q H', Same H H' → H' q = some (.tup [.str "refused", .int 0]) → Q (.ref q) H'
abbrev s_l_refused : Stmt := top 51
abbrev N_l_refused : List Str := ["_law_e", "_law_flags"]
theorem sc_l_refused : FnScope N_l_refused ["_law_e"] (qQ s_l_refused) := ⟨rfl, rfl, rfl, by decide +kernel, rfl, by decide +kernel, by decide +kernel⟩
theorem ok_l_refused {f CT CX CN : Addr} {fd : FuncData} (F : Fun K "_law_refused" "_law_refused" s_l_refused f fd) (T : Txt mg) (TX : TxtX K mg CT CX CN) : FnOkH P w K mg base CX0 1 f fd ["_law_e"] (spRefused CX) := by
 refine F.okH sc_l_refused (fun vs H Q E h => ?_) (fun cdv A outer s H vs Q E hr h => ?_)
 · obtain ⟨a, rfl, _⟩ := h; rfl
 · obtain ⟨a, rfl, ha, q⟩ := h
   refine ⟨_, (qV (yV (i := 1) sc_l_refused.nd rfl (Or.inl rfl) (as_lst (qU (yG (k_isiX K (c := .ref CX) ref_one) (by rfl) T.b_isinstance PyProof.Rows.boot_isinstance (qJ (pv 0) (qU (pe_glob (v := .ref CX) rfl TX.a_NoText rfl) qZ))) qZ)))
     (qV (ps_if (PW.pt (pw_or (yv op_ne (k_bm K PySem.F.plainAttrs_list PySem.F.slot_list_count PySem.F.type_list_count mt_countB (pv 1) (yz pe_bl pa_nil)) qG (nomark _)) (pw_or1 (pt_not (pt_val (yG (k_isiX K (c := .type "ValueError") ty_one) (by rfl) T.b_isinstance PyProof.Rows.boot_isinstance (qJ (pv 0) (qU (pe_bltn (v := .ty "ValueError") (by rfl) T.b_ValueError boot_ValueError rfl) qZ)))))))) (qM (yJ (as_tup (qU qD (qU (pe_un un_neg qG) qZ))))) pss_nil)
     (qM (yJ (as_tup (qU qD (qU (k_bm K PySem.F.plainAttrs_list PySem.F.slot_list_index PySem.F.type_list_index mt_indexB (pv 1) (yz pe_bl pa_nil)) qZ))))))), ?_⟩
   refine ⟨_, rfl, a, CX, _, true, rfl, rfl, ha, TX.z, TX.iN, ?_⟩
   refine ⟨(show 1 ≤ sizeLine by decide), fun l3 hl3 => ?_⟩
   have t3 := Same.new (o := .lst [.bl true]) hl3
   have e3 : upd H l3 (.lst [.bl true]) l3 = some (.lst ([true].map V.bl)) := qY
   generalize upd H l3 (.lst [.bl true]) = H3 at t3 e3 ⊢
   refine ⟨_, rfl, .inl ⟨rfl, _, SqL.ofL e3⟩, l3, [true], rfl, rfl, e3, rfl, _, rfl, ?_⟩
   refine iteF ?_
   refine ⟨_, rfl, a, CX, _, true, rfl, rfl, t3 _ _ ha, TX.z, TX.iV, _, rfl, ?_⟩
   refine iteF ?_
   refine ⟨_, rfl, .inl ⟨rfl, _, SqL.ofL e3⟩, l3, [true], 0, rfl, rfl, e3, rfl, (fun m hm => by omega), (show 2 ≤ sizeLine by decide), fun p hp => ?_⟩
   exact q p _ (t3.trans (Same.new hp)) qY
def spToldR (C : Addr) : Sp := fun vs H Q _ => ∃ (z : Str), vs = [.str z] ∧ z.cps.toList.length ≤ 3900 ∧ z.cps.toList.count 10 ≤ 200 ∧
 (∀ n o k, rdJ z.cps.toList = some (n, o, k) → ∀ a H', JAt C H' a ⟨(n : Int), o, k, (n : Int), [], []⟩ → Stp [] H a.fp H' → Q (.ref a.p) H') ∧ (rdJ z.cps.toList = none → ∀ q H', Same H H' → H' q = some (.tup [.str "refused", .int 0]) → Q (.ref q) H')
abbrev s_l_told : Stmt := top 52
abbrev N_l_told : List Str := ["_law_text", "_law_e"]
theorem sc_l_told : FnScope N_l_told ["_law_text"] (qQ s_l_told) := ⟨rfl, rfl, rfl, by decide +kernel, rfl, by decide +kernel, by decide +kernel⟩
theorem ok_l_told {f C CT CX CN : Addr} {fd : FuncData} (F : Fun K "_law_told" "_law_told" s_l_told f fd) (TX : TxtX K mg CT CX CN) (c_l_refused : CalleeH P w K mg base 1 "_law_refused" ["_law_e"] (spRefused CX)) (cx_read_journal : CalleeX P w K mg base 7 "read_journal" ["text"] (spReadJX C CX)) :
   FnOk P w K mg base CX0 8 f fd ["_law_text"] (spToldR C) := by
 refine F.ok sc_l_told (fun vs H Q E h => ?_) (fun cdv A outer s0 H vs Q E hr h => ?_)
 · obtain ⟨z, rfl, _⟩ := h; rfl
 · obtain ⟨z, rfl, hz, hc, q1, q2⟩ := h
   let EX : XK := fun cls _ H' => cls = .ref CX ∧ Same H H' ∧ rdJ z.cps.toList = none
   refine ⟨_, (qM (ps_tryAs K (i := 1) (E := EX) (fun _ _ hp => (qM (yJ (as_fnX cx_read_journal (hr.mono (by decide)) hp (qJ (pv 0) qZ))))) TX.a_TellError (fun _ => (qM (yJ (as_fnH c_l_refused ((hr.h _).mono (by decide)) (qJ (pv 1) qZ))))) sc_l_told.nd rfl rfl rfl rfl rfl)), ?_⟩
   refine ⟨?_, ?_⟩
   · exact ⟨_, rfl, z, rfl, hz, hc, fun n o k e a H' J st => q1 n o k e a H' J st, fun hno H' s1 => ⟨rfl, s1, hno⟩⟩
   · rintro cls e H' ⟨rfl, s1, hno⟩ ha
     refine ⟨TX.em, ?_⟩
     have s2 := Same.new (o := ExcO e (.ref CX)) ha
     exact ⟨_, rfl, e, rfl, qY, fun q H2 s3 e3 => q2 hno q H2 ((s1.trans s2).trans s3) e3⟩
def spFrames : Sp := fun vs H Q _ => ∃ (a : Addr) (xs : List V) (ms : List Msg), vs = [.ref a] ∧ H a = some (.lst xs) ∧ Ms H xs ms ∧ ms.length ≤ 60 ∧ (∀ m ∈ ms, OkM m) ∧ ∀ H', Same H H' → Q (sV (frS ms)) H'
theorem frC_is (m : Msg) : frC m = idF ++ dgT m.n.toNat ++ 10 :: tpF ++ m.t.cps.toList ++ [10] ++ ((spl m.x.cps.toList).map (fun l => dtF ++ l ++ [10])).flatten ++ [10] := by
 have e : ∀ W : List (List Nat), lnC (W.map (dtF ++ ·)) = (W.map (fun l => dtF ++ l ++ [10])).flatten := fun W => by
   induction W with
   | nil => rfl
   | cons l r ih => rw [List.map_cons, lnC_cons, ih, List.map_cons, List.flatten_cons]; simp
 unfold frC frB
 rw [List.cons_append, List.cons_append, lnC_cons, lnC_cons, lnC_app, e]
 simp [lnC]
theorem line_dtn {l : List Nat} : V.str ("data: " ++ (⟨l.toArray⟩ : Str) ++ "\n") = sV (dtF ++ l ++ [10]) := by
 refine sV_of ?_
 rw [yM, yM, nl_cps]
 rfl
theorem frS_snoc {ms : List Msg} {i : Nat} (h : i < ms.length) : frS (ms.take (i + 1)) = frS (ms.take i) ++ frC ms[i] := by
 unfold frS
 rw [List.take_add_one, List.getElem?_eq_getElem h, List.map_append, List.flatten_append]
 simp
abbrev s_l_frames : Stmt := top 53
abbrev N_l_frames : List Str := ["_law_messages", "_law_found", "_law_number", "_law_topic_here", "_law_text"]
theorem sc_l_frames : FnScope N_l_frames ["_law_messages"] (qQ s_l_frames) := ⟨rfl, rfl, rfl, by decide +kernel, rfl, by decide +kernel, by decide +kernel⟩
theorem ok_l_frames {f : Addr} {fd : FuncData} (F : Fun K "_law_frames" "_law_frames" s_l_frames f fd) (T : Txt mg) : FnOk P w K mg base CX0 1 f fd ["_law_messages"] spFrames := by
 refine F.ok sc_l_frames (fun vs H Q E h => ?_) (fun cdv A outer s H vs Q E hr h => ?_)
 · obtain ⟨a, xs, ms, rfl, _⟩ := h; rfl
 · obtain ⟨a, xs, ms, rfl, ha, hM, hlen, okm, q⟩ := h
   refine ⟨_, (qV (yV (i := 1) sc_l_frames.nd rfl (Or.inl rfl) qD)
     (qV (ps_for PassesOwn.never rfl (k_it_list K (pv 0)) (k_tup K rfl (pgs_cons (pg_name (i := 2) sc_l_frames.nd rfl (Or.inl rfl)) (pgs_cons (pg_name (i := 3) sc_l_frames.nd rfl (Or.inl rfl)) (pgs_cons (pg_name (i := 4) sc_l_frames.nd rfl (Or.inl rfl)) pgs_nil)))) (qV (yV (i := 1) sc_l_frames.nd rfl (Or.inl rfl) (qz qB (qz qB (qz qB (qz qB (qz qB (pv 1) qD) (as_callTy call_strI (by rfl) T.b_str PyProof.Rows.boot_str (qJ (pv 2) qZ))) qD) (pv 3)) qD))
     (qM (yV (i := 1) sc_l_frames.nd rfl (Or.inl rfl) (qz qB (qz qB (pv 1) (k_bm K PySem.F.plainAttrs_str PySem.F.slot_str_join PySem.F.type_str_join (k_join K) qD (yz (pe_comp (N' := ["_law_line"]) (ix := [none]) (own := [0]) rfl (cs_of (osc := qQ s_l_frames) (ON := N_l_frames) rfl rfl (by decide +kernel)) (by decide) (k_it_list K (k_bm K PySem.F.plainAttrs_str PySem.F.slot_str_split PySem.F.type_str_split mt_split (pv 4) (yz qD pa_nil))) (fun _ _ _ _ => (pg_name (i := 0) (show (["_law_line"] : List Str).Nodup by decide +kernel) rfl (Or.inl rfl))) own_name (fun _ _ _ _ => pifs_nil) (fun _ _ _ _ => (qz qB (qz qB qD (pv 0)) qD))) pa_nil))) qD)))))
     (qM (yJ (pv 1))))), ?_⟩
   have hxl := hM.len
   refine ⟨_, rfl, a, rfl, ⟨xs, SqL.ofL ha⟩, for_list (K := K) (a := a) (xs := xs) (fun i σ H' => ∃ (o2 o3 o4 : Option V), σ = [some (.ref a), some (sV (frS (ms.take i))), o2, o3, o4] ∧ Same H H') ⟨_, _, _, rfl, Same.refl _⟩ (fun i σ H' _ ⟨_, _, _, _, sH⟩ => SqL.ofL (sH _ _ ha)) ?_ ?_⟩
   · rintro i y σ H' hi ⟨o2, o3, o4, rfl, sH⟩
     have hil : i < ms.length := by rw [← hxl]; exact (List.getElem?_eq_some_iff.mp hi).1
     obtain ⟨c, ec, hc⟩ := (hM.same sH).get hil
     rw [hi] at ec
     obtain rfl := Option.some.inj ec
     have okc := okm _ (List.getElem_mem hil)
     refine ⟨c, _, rfl, SqT.ofT hc, rfl, _, _, rfl, _, _, rfl, _, _, rfl, rfl, ?_⟩
     have hn0 : 0 ≤ ms[i].n := by have := okc.1.1; omega
     have hnl := nT_len hn0 okc.1.2
     have htl := okc.2.1.2.1
     have hxl := okc.2.2.1
     have hfl := frC_len okc
     have L1 : ("id: " : Str).length = 4 := by decide +kernel
     have M1 : (Str.ofString "id: ").length = 4 := by decide +kernel
     have L2 : ("\ntopic: " : Str).length = 8 := by decide +kernel
     have M2 : (Str.ofString "\ntopic: ").length = 8 := by decide +kernel
     have L3 : ("\n" : Str).length = 1 := by decide +kernel
     have M3 : (Str.ofString "\n").length = 1 := by decide +kernel
     have L4 : ("data: " : Str).length = 6 := by decide +kernel
     have LC : ∀ x y : Str, (x ++ y).length = x.length + y.length := fun x y => by rw [← yY, yM, List.length_append, yY, yY]
     have LS : ∀ l : List Nat, (⟨l.toArray⟩ : Str).length = l.length := fun l => by simp [Str.length]
     have lfr : (frS (ms.take i)).length ≤ 60 * 252 := by
       have z := frs_len (ms := ms.take i) fun m hm => okm m (List.mem_of_mem_take hm)
       have z2 : (ms.take i).length ≤ 60 := by rw [List.length_take]; omega
       have := Nat.mul_le_mul_right 252 z2
       unfold frS; omega
     rw [yY] at htl
     refine ⟨_, rfl, _, _, rfl, rfl, ?_, _, rfl, ms[i].n, rfl, n_log hn0 okc.1.2, _, _, rfl, rfl, ?_, _, _, rfl, rfl, ?_, _, rfl, _, _, rfl, rfl, ?_, _, _, rfl, rfl, ?_, ?_⟩
     iterate 5 (· (repeat rw [LC]); rw [LS]; (try rw [L1]); (try rw [L2]); (try rw [L3]); rw [sizeLine_eq]; omega)
     have ef : V.str ((⟨(frS (ms.take i)).toArray⟩ : Str) ++ "id: " ++ nT ms[i].n ++ "\ntopic: " ++ ms[i].t ++ "\n") = sV (frS (ms.take i) ++ (idF ++ dgT ms[i].n.toNat ++ 10 :: tpF ++ ms[i].t.cps.toList ++ [10])) := sV_of (by
       have e := nT_cps ms[i].n.toNat
       rw [Int.toNat_of_nonneg hn0] at e
       rw [yM, yM, yM, yM, yM, e, nl_cps]
       rw [show ("id: " : Str).cps.toList = idF by decide +kernel, show ("\ntopic: " : Str).cps.toList = 10 :: tpF by decide +kernel]
       simp)
     rw [ef]
     have lhd : (idF ++ dgT ms[i].n.toNat ++ 10 :: tpF ++ ms[i].t.cps.toList ++ [10]).length ≤ 252 ∧ (((spl ms[i].x.cps.toList).map (fun l => dtF ++ l ++ [10])).flatten).length ≤ 252 := by
       rw [frC_is] at hfl
       simp only [List.length_append, List.length_cons, List.length_nil] at hfl ⊢
       omega
     have esn := frS_snoc hil
     rw [frC_is] at esn
     generalize idF ++ dgT ms[i].n.toNat ++ 10 :: tpF ++ ms[i].t.cps.toList ++ [10] = hd at lhd esn ⊢
     have hxs := sl_len ms[i].x
     refine ⟨_, rfl, rfl, _, rfl, rfl, ms[i].x, "\n", rfl, rfl, (by decide +kernel), (by rw [sizeLine_eq]; show ms[i].x.length + 2 ≤ _; omega), fun r hr => ?_⟩
     have s2 := Same.new (o := .lst ((PySem.Txt.split ms[i].x "\n").map V.str)) hr
     have e2 : upd H' r (.lst ((PySem.Txt.split ms[i].x "\n").map V.str)) r = some (.lst ((spl ms[i].x.cps.toList).map sV)) := by rw [qY, split_spl, List.map_map]; rfl
     generalize upd H' r (.lst ((PySem.Txt.split ms[i].x "\n").map V.str)) = H2 at s2 e2 ⊢
     have hl := Nat.le_trans (spl_len ms[i].x.cps.toList) (Nat.succ_le_succ hxl)
     have k2 : ∀ H', Same H2 H' → SqL K H' r ((spl ms[i].x.cps.toList).map sV) := fun H' s' => SqL.ofL (s' _ _ e2)
     have lv : (((spl ms[i].x.cps.toList).map (fun l => dtF ++ l ++ [10])).map sV).length = ((spl ms[i].x.cps.toList).map sV).length := by simp
     refine ⟨r, rfl, ⟨_, k2 _ (Same.refl _)⟩, ((spl ms[i].x.cps.toList).map sV).length, GMap H2 (((spl ms[i].x.cps.toList).map (fun l => dtF ++ l ++ [10])).map sV), ?_, GMap.zero, GMap.step k2 lv ?_, fun ys H3 hG => ?_⟩
     · rw [List.length_map, sizeLine_eq]; omega
     · intro j x v H3 R N hx hv s3 hR
       rw [List.getElem?_map] at hx hv
       rw [List.getElem?_map] at hv
       cases hi : (spl ms[i].x.cps.toList)[j]? with
       | none => rw [hi] at hx; cases hx
       | some l =>
         rw [hi] at hx hv
         obtain rfl := Option.some.inj hx
         obtain rfl := Option.some.inj hv
         have hll := spl_part _ l (List.mem_of_getElem? hi)
         refine rd_name (rd_yes (iteT ?_))
         refine ⟨_, rfl, _, _, rfl, rfl, ?_, _, _, rfl, rfl, ?_, ?_⟩
         · rw [L4, LS, sizeLine_eq]; omega
         · rw [LC, L4, LS, L3, sizeLine_eq]; omega
         · rw [line_dtn]; exact hR _ s3
     · obtain ⟨st, s3, rfl⟩ := GMap.done k2 lv hG
       refine ⟨st, fun D hD => ?_⟩
       have s4 := Same.new (o := .lst (((spl ms[i].x.cps.toList).map (fun l => dtF ++ l ++ [10])).map sV)) hD
       refine ⟨"", D, ((spl ms[i].x.cps.toList).map (fun l => dtF ++ l ++ [10])).map mkS, rfl, rfl, ?_, join_fit _ (Nat.le_trans lhd.2 (by decide)), ?_⟩
       · rw [List.map_map (g := V.str)]; exact SqL.ofL qY
       rw [join_sV]
       refine ⟨_, _, rfl, rfl, ?_, _, _, rfl, rfl, ?_, ?_⟩
       · have := lhd.1; have := lhd.2; simp only [LS, List.length_append]; rw [sizeLine_eq]; omega
       · have := lhd.1; have := lhd.2; rw [LC, LS, LS, L3, List.length_append, sizeLine_eq]; omega
       refine ⟨some (.int ms[i].n), some (.str ms[i].t), some (.str ms[i].x), ?_, ((sH.trans s2).trans s3).trans s4⟩
       have ee : V.str ((⟨(frS (ms.take i) ++ hd).toArray⟩ : Str) ++ ⟨(((spl ms[i].x.cps.toList).map (fun l => dtF ++ l ++ [10])).flatten).toArray⟩ ++ "\n") = sV (frS (ms.take (i + 1))) := sV_of (by
         rw [esn, yM, yM, nl_cps]; simp)
       rw [← ee]
       rfl
   · rintro σ H' ⟨o2, o3, o4, rfl, sH⟩
     refine ⟨_, rfl, ?_⟩
     rw [hxl, List.take_length]
     exact q H' sH
def lateT : Str := "id: 2\ntopic: a\ndata: x\n\n"
def twiceT : Str := "id: 2\ntopic: a\ndata: x\n\nid: 2\ntopic: b\ndata: x\n\n"
def oddT : List Str := ["", "trim: 0\n\n", "trim: 0\non\n\n", "trim: 00\n\non\n\n", "trim: 1\n\non\n\n", "trim: 0\n\non\n\nid: 2\ntopic: a\ndata: x\n\n", "trim: 2\n\nid: 2\ntopic: a\ndata: x\n\nid: 2\ntopic: b\ndata: x\n\non\n\n", "trim: 1\n\nid: 2\ntopic: a\ndata: x\n\non\n\n", "trim: 3\n\nid: 2\ntopic: a\ndata: x\n\non\n\n", "trim: 02\n\nid: 2\ntopic: a\ndata: x\n\non\n\n", "trim: 2\n\nid: 2\ntopic: a\ndata: x\n\non\n\nid: 2\ntopic: a\ndata: x\n\n"]
def goodT : Str := "trim: 2\n\nid: 2\ntopic: a\ndata: x\n\non\n\n"
def onesT : List Str := ["1", "3", "02"]
theorem odd_no : ∀ z ∈ oddT, z.cps.toList.length ≤ 3900 ∧ z.cps.toList.count 10 ≤ 200 ∧ (rdJ z.cps.toList).isNone = true := by decide +kernel
theorem good_is : goodT.cps.toList.length ≤ 3900 ∧ goodT.cps.toList.count 10 ≤ 200 ∧ (rdJ goodT.cps.toList).map (fun v => (v.1, v.2.2.length)) = some (2, 0) := by decide +kernel
theorem twice_is : lateT ++ Txt.replace lateT "c: a" "c: b" = twiceT := by decide +kernel
theorem odd3 : onesT.map (fun w => ("trim: " : Str) ++ w ++ ("\n\n" : Str) ++ lateT ++ ("on\n\n" : Str)) = (oddT.drop 7).take 3 := by decide +kernel
theorem odd1 : ("trim: 2\n\n" : Str) ++ lateT ++ ("on\n\n" : Str) ++ lateT = oddT[10] := by decide +kernel
theorem good1 : ("trim: 2\n\n" : Str) ++ lateT ++ ("on\n\n" : Str) = goodT := by decide +kernel
theorem ones_sz : ∀ w ∈ onesT, ("trim: " : Str).length + w.length ≤ sizeLine ∧ (("trim: " : Str) ++ w).length + ("\n\n" : Str).length ≤ sizeLine ∧ (("trim: " : Str) ++ w ++ ("\n\n" : Str)).length + lateT.length ≤ sizeLine ∧ (("trim: " : Str) ++ w ++ ("\n\n" : Str) ++ lateT).length + ("on\n\n" : Str).length ≤ sizeLine := by decide +kernel
def spRefuses : Sp := fun vs H Q _ => vs = [] ∧ ∀ H', Q (.bl true) H'
abbrev s_l_refuses : Stmt := top 54
abbrev N_l_refuses : List Str := ["_law_late", "_law_twice", "_law_odd"]
theorem sc_l_refuses : FnScope N_l_refuses [] (qQ s_l_refuses) := ⟨rfl, rfl, rfl, by decide +kernel, rfl, by decide +kernel, by decide +kernel⟩
theorem ok_l_refuses {f C : Addr} {fd : FuncData} (F : Fun K "_law_refuses" "_law_refuses" s_l_refuses f fd) (T : Txt mg) (TC : JournalC K mg C) (c_l_told : Callee P w K mg base 8 "_law_told" ["_law_text"] (spToldR C)) (m_told : CalleeM P w K mg base 1 C "told" ["self"] (spToldJ C)) :
   FnOk P w K mg base CX0 9 f fd [] spRefuses := by
 refine F.ok sc_l_refuses (fun vs H Q E h => ?_) (fun cdv A outer s H vs Q E hr h => ?_)
 · obtain ⟨rfl, _⟩ := h; rfl
 · obtain ⟨rfl, q⟩ := h
   refine ⟨_, (pss_consK (psk_str (i := 0) sc_l_refuses.nd rfl (Or.inr rfl))
     (psst_cons (pst_set (i := 1) sc_l_refuses.nd rfl (Or.inl rfl) (pet_op qB (pv 0) (pet_replace (pv 0))))
     (qV (yV (i := 2) sc_l_refuses.nd rfl (Or.inl rfl) (as_lst (qU qD (qU qD (qU qD (qU qD (qU qD qZ)))))))
     (qV (yV (i := 2) sc_l_refuses.nd rfl (Or.inl rfl) (qz op_cat (pv 2) (as_lst (qU (qz qB qD (pv 0)) (qU (qz qB (qz qB qD (pv 1)) qD) qZ)))))
     (qV (yV (i := 2) sc_l_refuses.nd rfl (Or.inl rfl) (qz op_cat (pv 2) (pe_comp (N' := ["_law_one", "_law_late"]) (ix := [none, some 0]) (own := [0]) rfl (cs_of (osc := qQ s_l_refuses) (ON := N_l_refuses) rfl rfl (by decide +kernel)) (by decide) (k_it_tup K (as_tup (qU qD (qU qD (qU qD qZ))))) (fun _ _ _ _ => (pg_name (i := 0) (show (["_law_one", "_law_late"] : List Str).Nodup by decide +kernel) rfl (Or.inl rfl))) own_name (fun _ _ _ _ => pifs_nil) (fun _ _ _ _ => (qz qB (qz qB (qz qB (qz qB qD (pv 0)) qD) (pv 1)) qD)))))
     (qV (ps_expr (k_bm K PySem.F.plainAttrs_list PySem.F.slot_list_append PySem.F.type_list_append mt_append (pv 2) (yz (qz qB (qz qB (qz qB qD (pv 0)) qD) (pv 0)) pa_nil)))
     (qV (ps_if (yv (k_ne0 K hr.units0) (pe_comp (N' := ["_law_bad"]) (ix := [none]) (own := [0]) rfl (cs_of (osc := qQ s_l_refuses) (ON := N_l_refuses) rfl rfl (by decide +kernel)) (by decide) (k_it_list K (pv 2)) (fun _ _ _ _ => (pg_name (i := 0) (show (["_law_bad"] : List Str).Nodup by decide +kernel) rfl (Or.inl rfl))) own_name (fun _ _ _ _ => (pifs_one (yv (op_neD hr.units) (yy c_l_told (hr.mono (by decide)) (qJ (pv 0) qZ)) (as_tup (qU qD (qU qG qZ))) (nomark _)))) (fun _ _ _ _ => (pv 0))) (as_lst qZ) (nomark _)) (qM (yJ pe_bl)) pss_nil)
     (qM (yJ (pe_cmpR op_eq (as_meth0 m_told TC.cl_Journal (hr.mono (by decide)) (yy c_l_told (hr.mono (by decide)) (qJ (qz qB (qz qB qD (pv 0)) qD) qZ))) qG (nomark _))))))))))), ?_⟩
   refine ⟨_, rfl, _, rfl, _, rfl, (by decide +kernel), (by decide +kernel), _, _, rfl, rfl, (by decide +kernel), ?_⟩
   rw [show (("id: 2\ntopic: a\ndata: x\n\n" : Str) ++ Txt.replace "id: 2\ntopic: a\ndata: x\n\n" "c: a" "c: b") = twiceT from twice_is]
   refine ⟨(show 5 ≤ sizeLine by decide), fun l1 hl1 => ?_⟩
   have s1 := Same.new (o := .lst (([("" : Str), "trim: 0\n\n", "trim: 0\non\n\n", "trim: 00\n\non\n\n", "trim: 1\n\non\n\n"]).map V.str)) hl1
   have e1 : upd H l1 (.lst (([("" : Str), "trim: 0\n\n", "trim: 0\non\n\n", "trim: 00\n\non\n\n", "trim: 1\n\non\n\n"]).map V.str)) l1 = some (.lst ((oddT.take 5).map V.str)) := qY
   show (fun HH : Hp => _) (upd H l1 (.lst (([("" : Str), "trim: 0\n\n", "trim: 0\non\n\n", "trim: 00\n\non\n\n", "trim: 1\n\non\n\n"]).map V.str)))
   generalize upd H l1 (.lst (([("" : Str), "trim: 0\n\n", "trim: 0\non\n\n", "trim: 00\n\non\n\n", "trim: 1\n\non\n\n"]).map V.str)) = H1 at s1 e1 ⊢
   refine ⟨_, rfl, _, rfl, _, _, rfl, rfl, (by decide +kernel), _, rfl, _, _, rfl, rfl, (by decide +kernel), _, _, rfl, rfl, (by decide +kernel), (show 2 ≤ sizeLine by decide), fun l2 hl2 => ?_⟩
   have s2 := Same.new (o := .lst [V.str (("trim: 0\n\non\n\n" : Str) ++ ("id: 2\ntopic: a\ndata: x\n\n" : Str)), V.str (("trim: 2\n\n" : Str) ++ twiceT ++ ("on\n\n" : Str))]) hl2
   have e2 : upd H1 l2 (.lst [V.str (("trim: 0\n\non\n\n" : Str) ++ ("id: 2\ntopic: a\ndata: x\n\n" : Str)), V.str (("trim: 2\n\n" : Str) ++ twiceT ++ ("on\n\n" : Str))]) l2 = some (.lst (((oddT.drop 5).take 2).map V.str)) := by
     have z : [("trim: 0\n\non\n\n" : Str) ++ lateT, ("trim: 2\n\n" : Str) ++ twiceT ++ ("on\n\n" : Str)] = (oddT.drop 5).take 2 := by decide +kernel
     rw [qY, ← z]; rfl
   have e12 := s2 _ _ e1
   generalize upd H1 l2 (.lst [V.str (("trim: 0\n\non\n\n" : Str) ++ ("id: 2\ntopic: a\ndata: x\n\n" : Str)), V.str (("trim: 2\n\n" : Str) ++ twiceT ++ ("on\n\n" : Str))]) = H2 at s2 e2 e12 ⊢
   refine ⟨l1, l2, _, _, rfl, rfl, e12, e2, (show 5 + 2 ≤ sizeLine by decide), fun l3 hl3 => ?_⟩
   have s3 := Same.new (o := .lst ((oddT.take 7).map V.str)) hl3
   have e3 : upd H2 l3 (.lst ((oddT.take 7).map V.str)) l3 = some (.lst ((oddT.take 7).map V.str)) := qY
   show (fun HH : Hp => _) (upd H2 l3 (.lst ((oddT.take 7).map V.str)))
   generalize upd H2 l3 (.lst ((oddT.take 7).map V.str)) = H3 at s3 e3 ⊢
   refine ⟨_, rfl, (show 3 ≤ sizeLine by decide), fun tp htp => ?_⟩
   have s4 := Same.new (o := .tup [.str "1", .str "3", .str "02"]) htp
   have e4 : upd H3 tp (.tup [.str "1", .str "3", .str "02"]) tp = some (.tup (onesT.map V.str)) := qY
   have e34 := s4 _ _ e3
   generalize upd H3 tp (.tup [.str "1", .str "3", .str "02"]) = H4 at s4 e4 e34 ⊢
   refine ⟨tp, rfl, ⟨_, SqT.ofT e4⟩, 3, fun i ys H' => H' = H4 ∧ ys = (onesT.take i).map fun w => V.str (("trim: " : Str) ++ w ++ ("\n\n" : Str) ++ lateT ++ ("on\n\n" : Str)), (by decide), ⟨rfl, rfl⟩, ?_, ?_⟩
   · rintro i ys H' hi ⟨rfl, rfl⟩
     have hi' : i < onesT.length := hi
     have ec : (onesT.map V.str)[i]? = some (V.str onesT[i]) := by rw [List.getElem?_map, List.getElem?_eq_getElem hi']; rfl
     refine ⟨⟨_, _, SqT.ofT e4, ec⟩, ?_⟩
     rintro x H5 ⟨rfl, hx⟩
     have hx' := hx _ (SqT.ofT e4)
     rw [ec] at hx'
     obtain rfl := Option.some.inj hx'
     obtain ⟨z1, z2, z3, z4⟩ := ones_sz onesT[i] (List.getElem_mem hi')
     refine rd_name (rd_yes (iteT ?_))
     refine ⟨_, rfl, _, _, rfl, rfl, z1, _, _, rfl, rfl, z2, _, rfl, _, _, rfl, rfl, z3, _, _, rfl, rfl, z4, rfl, ?_⟩
     rw [List.take_add_one, List.getElem?_eq_getElem hi', List.map_append]; rfl
   · rintro ys H' ⟨rfl, rfl⟩
     refine ⟨⟨_, SqT.ofT e4, Nat.le_refl _⟩, fun D hD => ?_⟩
     have s5 := Same.new (o := .lst ((onesT.take 3).map fun w => V.str (("trim: " : Str) ++ w ++ ("\n\n" : Str) ++ lateT ++ ("on\n\n" : Str)))) hD
     have e5 : upd H' D (.lst ((onesT.take 3).map fun w => V.str (("trim: " : Str) ++ w ++ ("\n\n" : Str) ++ lateT ++ ("on\n\n" : Str)))) D = some (.lst (((oddT.drop 7).take 3).map V.str)) := by
       rw [qY, ← odd3, List.map_map]; rfl
     have e35 := s5 _ _ e34
     generalize upd H' D (.lst ((onesT.take 3).map fun w => V.str (("trim: " : Str) ++ w ++ ("\n\n" : Str) ++ lateT ++ ("on\n\n" : Str)))) = H5 at s5 e5 e35 ⊢
     refine ⟨l3, D, _, _, rfl, rfl, e35, e5, (show 7 + 3 ≤ sizeLine by decide), fun l6 hl6 => ?_⟩
     have e6 : upd H5 l6 (.lst ((oddT.take 7).map V.str ++ ((oddT.drop 7).take 3).map V.str)) l6 = some (.lst ((oddT.take 10).map V.str)) := qY
     generalize upd H5 l6 (.lst ((oddT.take 7).map V.str ++ ((oddT.drop 7).take 3).map V.str)) = H6 at e6 ⊢
     refine ⟨_, rfl, .inl ⟨rfl, _, SqL.ofL e6⟩, _, rfl, _, _, rfl, rfl, (by decide +kernel), _, _, rfl, rfl, (by decide +kernel), _, rfl, _, _, rfl, rfl, (by decide +kernel), l6, _, _, rfl, rfl, e6, (show 10 < sizeLine by decide), ?_⟩
     have e7 : upd H6 l6 (.lst ((oddT.take 10).map V.str ++ [.str (("trim: 2\n\n" : Str) ++ ("id: 2\ntopic: a\ndata: x\n\n" : Str) ++ ("on\n\n" : Str) ++ ("id: 2\ntopic: a\ndata: x\n\n" : Str))])) l6 = some (.lst (oddT.map V.str)) := by
       rw [qY, show ("trim: 2\n\n" : Str) ++ ("id: 2\ntopic: a\ndata: x\n\n" : Str) ++ ("on\n\n" : Str) ++ ("id: 2\ntopic: a\ndata: x\n\n" : Str) = oddT[10] from odd1]; rfl
     generalize upd H6 l6 (.lst ((oddT.take 10).map V.str ++ [.str (("trim: 2\n\n" : Str) ++ ("id: 2\ntopic: a\ndata: x\n\n" : Str) ++ ("on\n\n" : Str) ++ ("id: 2\ntopic: a\ndata: x\n\n" : Str))])) = H7 at e7 ⊢
     have k7 : ∀ H8, Same H7 H8 → SqL K H8 l6 (oddT.map V.str) := fun H8 s8 => SqL.ofL (s8 _ _ e7)
     refine ⟨_, rfl, l6, rfl, ⟨_, k7 _ (Same.refl _)⟩, 11, fun i ys H8 => Same H7 H8 ∧ ys = [], (by decide), ⟨Same.refl _, rfl⟩, ?_, ?_⟩
     · rintro i ys H8 hi ⟨s8, rfl⟩
       have hi' : i < oddT.length := hi
       have ec : (oddT.map V.str)[i]? = some (V.str oddT[i]) := by rw [List.getElem?_map, List.getElem?_eq_getElem hi']; rfl
       refine ⟨⟨_, _, k7 _ s8, ec⟩, ?_⟩
       rintro x H9 ⟨rfl, hx⟩
       have hx' := hx _ (k7 _ s8)
       rw [ec] at hx'
       obtain rfl := Option.some.inj hx'
       obtain ⟨g1, g2, g3⟩ := odd_no oddT[i] (List.getElem_mem hi')
       have g4 := Option.isNone_iff_eq_none.mp g3
       refine rd_name ?_
       refine ⟨_, rfl, oddT[i], rfl, g1, g2, fun n o k e => (by rw [g4] at e; cases e), fun _ r HA sA eA => ?_⟩
       refine ⟨(show 2 ≤ sizeLine by decide), fun tq htq => ?_⟩
       have sB := Same.new (o := .tup [.str "refused", .int 0]) htq
       exact ne_D (rD_has (sB _ _ eA)) (rD_has qY) rD_shaped ⟨_, rfl, iteF ⟨(s8.trans sA).trans sB, rfl⟩⟩
     · rintro ys H8 ⟨s8, rfl⟩
       refine ⟨⟨_, k7 _ s8, Nat.le_refl _⟩, fun D2 hD2 => ?_⟩
       have s9 := Same.new (o := .lst []) hD2
       have e9 : upd H8 D2 (.lst []) D2 = some (.lst []) := qY
       generalize upd H8 D2 (.lst []) = H9 at s9 e9 ⊢
       refine ⟨Nat.zero_le _, fun l9 hl9 => ?_⟩
       have sA := Same.new (o := .lst []) hl9
       refine ⟨D2, l9, [], rfl, rfl, SqL.ofL (sA _ _ e9), SqL.ofL qY, _, rfl, iteF ?_⟩
       obtain ⟨g1, g2, g3⟩ := good_is
       refine ⟨_, rfl, _, _, rfl, rfl, (by decide +kernel), _, _, rfl, rfl, (by decide +kernel), goodT, congrArg (fun z => [V.str z]) good1, g1, g2, fun n o k e a HB J st => ?_, fun e => (by rw [e] at g3; cases g3)⟩
       rw [e] at g3
       injection g3 with g3
       injection g3 with g4 g5
       have g5' : k.length = 0 := g5
       have g4' : n = 2 := g4
       obtain ⟨dx, hob⟩ := id J.ob
       refine ⟨a.p, dx, _, rfl, hob, no_j (.inr (.inl rfl)), a, _, rfl, J, ?_⟩
       have et : (JS.told ⟨(n : Int), o, k, (n : Int), [], []⟩) = 2 := by unfold JS.told; rw [g4', g5']; rfl
       refine ⟨rfl, ?_⟩
       rw [et, decide_eq_true rfl]
       exact q HB
end
end K86
namespace K86
open PySem L2
def spLaw (K : W.Frag) : Sp := fun vs H Q _ => ∃ (a : Addr) (ns : List Int), vs = [.ref a] ∧ SqL K H a (ns.map V.int) ∧ ns.length ≤ 63 ∧ ∀ H', Q (.bl true) H'
theorem topF_ok (ns : List Int) (k : Int) : 1 ≤ (topF ns k).cps.toList.length ∧ (topF ns k).cps.toList.length ≤ 3 ∧ ∀ c ∈ (topF ns k).cps.toList, 97 ≤ c ∧ c ≤ 122 := by
 have key : ∀ t ∈ (["a", "b", "cc", "ca", "abc"] : List Str), 1 ≤ t.cps.toList.length ∧ t.cps.toList.length ≤ 3 ∧ ∀ c ∈ t.cps.toList, 97 ≤ c ∧ c ≤ 122 := by decide +kernel
 have h0 := drawn_nn ns k (m := 5) (by decide)
 have h1 := drawn_lt ns k (m := 5) (by decide)
 unfold topF
 refine key _ ?_
 rw [List.getD_eq_getElem?_getD, List.getElem?_eq_getElem (show (drawnF ns k 5).toNat < (["a", "b", "cc", "ca", "abc"] : List Str).length by show _ < 5; omega)]
 exact List.getElem_mem _
theorem said_okm (ns : List Int) (k : Int) : (saidF ns k).cps.toList.length ≤ 8 ∧ ∀ c ∈ (saidF ns k).cps.toList, (97 ≤ c ∧ c ≤ 122) ∨ c = 32 ∨ c = 10 := by
 obtain ⟨h1, h2⟩ := said_codes ns k
 refine ⟨by omega, fun c hc => ?_⟩
 have := h2 c hc
 omega
theorem told_ok (ns : List Int) (k j : Int) {n : Nat} (h : n < 999999) : OkM ⟨(n : Int) + 1, topF ns k, saidF ns j⟩ := ⟨⟨by show 1 ≤ (n : Int) + 1; omega, by show (n : Int) + 1 ≤ 999999; omega⟩, topF_ok ns k, said_okm ns j⟩
theorem no_jl {g tr : Int} {o r t b : Addr} {f : Str} (h : f = "write" ∨ f = "told" ∨ f = "trim" ∨ f = "kept" ∨ f = "last" ∨ f = "back" ∨ f = "counts" ∨ f = "twin" ∨ f = "state_at") : (jF g tr o r t b).lookup f = none := by
 rcases h with rfl | rfl | rfl | rfl | rfl | rfl | rfl | rfl | rfl <;> exact jF_no (by decide +kernel) (by decide +kernel) (by decide +kernel) (by decide +kernel) (by decide +kernel) (by decide +kernel)
theorem tnil {σ : St} {H : Hp} {k : List V → Hp → Prop} (h : k [] H) : tNil σ H k := h
def tx (all : List Msg) (t : Nat) : List Nat := jT t (yB (all.take t)) (all.drop t)
section
variable {C CX CN : Addr} {H : Hp} {a : JA} {s : JS} {all : List Msg} {t : Nat} {Q : VK} {E : XK} {p : Addr}
theorem Jq_text (h : Jq s all t) : jT s.tr.toNat (onesJ s) (keptJ s) = tx all t := by
 have h1 := h.ls t (Nat.le_refl _) h.tl
 have h2 := h.tr
 unfold tx onesJ keptJ
 rw [h.kp, h2, ← h1]
 rfl
theorem txQ (e : a.p = p) (J : JAt C H a s) (h : Jq s all t) (h1 : s.on.length + s.row.length < 60) (h2 : s.st.length + s.sb.length < 500) (h3 : all.length < 100) (q : ∀ H', Same H H' → Q (sV (tx all t)) H') : spJText C [.ref p] H Q E := by
 subst e
 have ht := h.tr
 have htl := h.tl
 refine ⟨a, s, rfl, J, ⟨h.jok h1 h2, h.g, by omega, by omega, h.m⟩, fun H' s' => ?_⟩
 rw [Jq_text h]
 exact q H' s'
theorem tx_len (h : Jq s all t) (h3 : all.length ≤ 9) : (tx all t).length ≤ 2400 ∧ (tx all t).count 10 ≤ 199 ∧ (yB (all.take t)).length + (all.drop t).length ≤ 9 := by
 obtain ⟨_, _, h4, h5⟩ := h.fit
 have l1 : (yB (all.take t)).length ≤ (all.take t).length := List.length_filter_le _ _
 have l2 : (all.drop t).length = all.length - t := List.length_drop
 rw [List.length_take] at l1
 have htl := h.tl
 have f1 := frS_len h4
 have f2 := frS_len h5
 have d1 := dgT_len 1 t (by omega)
 have c1 := frS_cnt2 h4
 have c2 := frS_cnt2 h5
 have c3 : (dgT t).count 10 = 0 := List.count_eq_zero.mpr (dig_no10 (dgT_dig t))
 unfold tx jT
 refine ⟨?_, ?_, by omega⟩
 · simp only [List.length_append, List.length_cons, List.length_nil]
   rw [show trF.length = 6 from rfl, show onL.length = 2 from rfl]
   omega
 · simp only [List.count_append]
   rw [c3, show trF.count 10 = 0 from rfl, show onL.count 10 = 0 from rfl, show [10, 10].count 10 = 2 from rfl]
   omega
theorem lsQ (e : a.p = p) (J : JAt C H a s) (h : Jq s all t) (h1 : s.on.length + s.row.length < 60) (h2 : s.st.length + s.sb.length < 500) (q : ∀ l ys H', Same H H' → H l = none → H' l = some (.lst ys) → Ms H' ys (yB all) → Q (.ref l) H') : spLastJ C [.ref p] H Q E := by
 subst e
 refine ⟨a, s, rfl, J, h.jok h1 h2, fun l ys ls H' s' hl hl' hM hL => ?_⟩
 have e : ls = yB all := (Lasts.uniq hL (lastF_lasts h.ri)).trans h.last
 subst e
 exact q l ys H' s' hl hl' hM
theorem kpQ (e : a.p = p) (J : JAt C H a s) (h : Jq s all t) (q : ∀ l ys, H l = none → Ms (upd H l (.lst ys)) ys (all.drop t) → Q (.ref l) (upd H l (.lst ys))) : spKeptJ C [.ref p] H Q E := by
 subst e
 refine ⟨a, s, rfl, J, h.g, fun l ys hl hM => ?_⟩
 rw [h.kp] at hM
 exact q l ys hl hM
theorem tdQ (e : a.p = p) (J : JAt C H a s) (h : Jq s all t) (q : Q (.int (all.length : Int)) H) : spToldJ C [.ref p] H Q E := by
 subst e
 refine ⟨a, s, rfl, J, ?_⟩
 rw [h.told]; exact q
end
def nwD (all : List Msg) (t : Nat) : PyData := .tuple [.int (all.length : Int), .list ((all.drop t).map mD), .list ((yB all).map mD), twD 0 0]
theorem nw_shaped {all : List Msg} {t : Nat} (h : ∀ m ∈ all, mOk m) : SeqAt.shaped (nwD all t) = true := by
 have h1 := depth_ms (all.drop t)
 have h3 := depth_ms (yB all)
 have h2 : PyData.depth (nwD all t) ≤ 64 := by simp only [nwD, twD, PyData.depth, PyData.depthAll]; omega
 show (PyData.canLay0 (nwD all t) && decide (PyData.depth (nwD all t) ≤ 64)) = true
 rw [Bool.and_eq_true]
 exact ⟨by simp only [nwD, twD, PyData.canLay0, PyData.canLayAll0, lay_ms fun m hm => h m (List.mem_of_mem_drop hm), lay_ms fun m hm => h m (lastF_mem.mp hm).1, Bool.and_true], decide_eq_true h2⟩
def sgL : List Str := ["0", "1", "a", " ", "\n", ":", "", "on\n"]
theorem sg_ok : ∀ g ∈ sgL, g.length ≤ 3 ∧ g.cps.toList.count 10 ≤ 1 := by decide +kernel
theorem sg_at (ns : List Int) (k : Int) : ∃ g, atI (sgL.map V.str) (drawnF ns k 8) = some (.str g) ∧ g ∈ sgL := by
 have e0 := drawn_nn ns k (m := 8) (by decide)
 have e1 := drawn_lt ns k (m := 8) (by decide)
 generalize drawnF ns k 8 = x at e0 e1
 have hx : x.toNat < sgL.length := by show _ < 8; omega
 obtain ⟨j, rfl⟩ : ∃ j : Nat, x = (j : Int) := ⟨x.toNat, by omega⟩
 rw [Int.toNat_natCast] at hx
 refine ⟨sgL[j], atI_nat ?_, List.getElem_mem _⟩
 rw [List.getElem?_map, List.getElem?_eq_getElem hx]; rfl
theorem rdJ_cnt {x : List Nat} {n : Nat} {o k : List Msg} (h : rdJ x = some (n, o, k)) : 4 * (o.length + k.length) ≤ x.count 10 + 1 := by
 unfold rdJ at h
 dsimp only at h
 obtain ⟨n', h1, h⟩ := Option.bind_eq_some_iff.mp h
 obtain ⟨o', h2, h⟩ := Option.bind_eq_some_iff.mp h
 obtain ⟨k', h3, h⟩ := Option.bind_eq_some_iff.mp h
 split at h
 · injection h with h
   injection h with e1 h
   injection h with e2 e3
   subst e1; subst e2; subst e3
   have a1 := (parL_cnt sepJ x).1
   have a2 := (parL_cnt [10, 10] ((parL sepJ x).1 ++ [10])).1
   rw [List.count_append, show [10].count 10 = 1 from rfl] at a2
   have b1 := frS_cnt o'
   have b2 := frS_cnt k'
   rw [show frS o' = _ from (rdA_some h2).1.symm] at b1
   rw [show frS k' = _ from (rdA_some h3).1.symm] at b2
   omega
 · cases h
section
variable {C : Addr} {H : Hp} {a : JA} {s : JS} {all : List Msg} {t : Nat} {Q : VK} {E : XK}
theorem rd_tx (h : Jq s all t) (h3 : all.length ≤ 9) : rdJ (tx all t) = some (t, yB (all.take t), all.drop t) := by
 obtain ⟨f1, f2, f3, f4⟩ := h.fit
 have htl := h.tl
 exact rdJ_is (by omega) f3 f4 f1 f2
theorem rdT (h : Jq s all t) (h3 : all.length ≤ 9) (q : ∀ b H', JAt C H' b ⟨(t : Int), yB (all.take t), all.drop t, (t : Int), [], []⟩ → Stp [] H b.fp H' → Q (.ref b.p) H') : spToldR C [sV (tx all t)] H Q E := by
 obtain ⟨g1, g2, _⟩ := tx_len h h3
 have hr := rd_tx h h3
 refine ⟨⟨(tx all t).toArray⟩, rfl, by show (tx all t).length ≤ _; omega, Nat.le_succ_of_le g2, fun n o k e => ?_, fun e => ?_⟩
 · have e' : rdJ (tx all t) = some (n, o, k) := e
   rw [hr] at e'
   injection e' with e'
   injection e' with x1 e'
   injection e' with x2 x3
   subst x1; subst x2; subst x3
   exact q
 · have e' : rdJ (tx all t) = none := e
   rw [hr] at e'; cases e'
theorem txR {x : List Nat} {n : Nat} {o k : List Msg} (h : rdJ x = some (n, o, k)) (hc : x.count 10 ≤ 200) (J : JAt C H a ⟨(n : Int), o, k, (n : Int), [], []⟩) (q : ∀ H', Same H H' → Q (sV x) H') : spJText C [.ref a.p] H Q E := by
 have hn := rdJ_cnt h
 obtain ⟨hf, hx, okO, okK, n9⟩ := rdJ_some h
 have hT : JTx ⟨(n : Int), o, k, (n : Int), [], []⟩ := {
   ok := { sz := (show o.length + k.length < 60 by omega), sz2 := (show 0 + 0 < 500 by decide), rise := fit_rise hf }
   g := Int.le_refl _
   t0 := Int.natCast_nonneg _
   t9 := by show (n : Int) ≤ 999999; omega
   m := fun m hm => by
     rcases List.mem_append.mp hm with h | h
     · exact okO m h
     · exact okK m h }
 have eT : jT (JS.tr ⟨(n : Int), o, k, (n : Int), [], []⟩).toNat (onesJ ⟨(n : Int), o, k, (n : Int), [], []⟩) (keptJ ⟨(n : Int), o, k, (n : Int), [], []⟩) = jT n (yB o) k := by
   unfold onesJ keptJ
   simp
 refine ⟨a, _, rfl, J, hT, fun H' s' => ?_⟩
 rw [eT, hx]
 exact q H' s'
end
structure WR (C : Addr) (H0 H : Hp) (a : JA) (s : JS) (lr : Addr) (yr : List V) (all : List Msg) (t : Nat) : Prop where
 j : JAt C H a s
 q : Jq s all t
 e : H lr = some (.lst yr)
 m : Ms H yr all
 d : lr ∉ a.fp
 st : Stp [] H0 (lr :: a.fp) H
section
variable {C : Addr} {H0 H H' : Hp} {a a' : JA} {s s' : JS} {lr : Addr} {yr : List V} {all all' : List Msg} {t t' : Nat}
theorem WR.same (h : WR C H0 H a s lr yr all t) (e : Same H H') : WR C H0 H' a s lr yr all t := ⟨h.j.same e, h.q, e _ _ h.e, h.m.same e, h.d, h.st.trans (e.step _)⟩
theorem WR.trim (h : WR C H0 H a s lr yr all t) (J : JAt C H' a' s') (q : Jq s' all t') (w : Stp a.fp H a'.fp H') : WR C H0 H' a' s' lr yr all t' :=
 ⟨J, q, w.keep h.e h.d, h.m.step w, w.out h.e h.d, h.st.trans (w.weak (fun c hc => List.mem_cons_of_mem _ hc) fun c hc => by
   rcases List.mem_cons.mp hc with rfl | hc
   · exact .inr List.mem_cons_self
   · exact .inl hc)⟩
end
section
variable {P : Program} {w : World} {K : W.Frag} {mg : Str → Option Value} {base : Heap}
abbrev s_law : Stmt := top 55
abbrev N_law : List Str := ["_law_script", "_law_journal", "_law_rows", "_law_base", "_law_k", "_law_here", "_law_text", "_law_new", "_law_place", "_law_sign", "_law_spoilt", "_law_told_here"]
theorem sc_law : FnScope N_law ["_law_script"] (qQ s_law) := ⟨rfl, rfl, rfl, by decide +kernel, rfl, by decide +kernel, by decide +kernel⟩
theorem ok_law {f C CD CT CX CN : Addr} {fd : FuncData} (F : Fun K "law" "law" s_law f fd) (T : Txt mg) (TC : TxtC K mg C CD) (TX : TxtX K mg CT CX CN) (c_l_drawn : Callee P w K mg base 2 "_law_drawn" ["_law_script", "_law_k", "_law_many"] (spDrawn K)) (c_l_said : Callee P w K mg base 3 "_law_said" ["_law_script", "_law_at"] (spSaid K)) (c_l_topic : Callee P w K mg base 3 "_law_topic" ["_law_script", "_law_at"] (spTopicF K)) (c_l_last : Callee P w K mg base 1 "_law_last" ["_law_messages"] spLLast) (c_l_frames : Callee P w K mg base 1 "_law_frames" ["_law_messages"] spFrames) (c_l_told : Callee P w K mg base 8 "_law_told" ["_law_text"] (spToldR C)) (c_l_refuses : Callee P w K mg base 9 "_law_refuses" [] spRefuses)
   (c_journal_text : Callee P w K mg base 6 "journal_text" ["journal"] (spJText C)) (i_Journal : CalleeI P w K mg base 1 C ["self"] (spInitJ C))
   (m_write : CalleeM P w K mg base 3 C "write" ["self", "topic", "text"] (spWriteJ C)) (m_told : CalleeM P w K mg base 1 C "told" ["self"] (spToldJ C)) (mx_trim : CalleeMX P w K mg base 3 C "trim" ["self", "number"] (spTrimX C CN)) (m_kept : CalleeM P w K mg base 1 C "kept" ["self"] (spKeptJ C)) (m_last : CalleeM P w K mg base 6 C "last" ["self"] (spLastJ C)) (m_counts : CalleeM P w K mg base 1 C "counts" ["self"] (spCountsJ C)) :
   FnOk P w K mg base CX0 10 f fd ["_law_script"] (spLaw K) := by
 refine F.ok sc_law (fun vs H Q E h => ?_) (fun cdv A outer s0 H vs Q E hr h => ?_)
 · obtain ⟨sc, ns, rfl, _⟩ := h; rfl
 · obtain ⟨sc, ns, rfl, hS, hlen, q⟩ := h
   refine ⟨_, (qV (yV (i := 1) sc_law.nd rfl (Or.inl rfl) (as_make0 i_Journal (hr.mono (by decide)) TC.mg_Journal))
     (qV (yV (i := 2) sc_law.nd rfl (Or.inl rfl) (as_lst qZ))
     (qV (yV (i := 3) sc_law.nd rfl (Or.inl rfl) qG)
     (qV (ps_for PassesOwn.never rfl (pi_range1 (by rfl) T.b_range (yz (yy c_l_drawn (hr.mono (by decide)) (qJ (pv 0) (qU qG (qU qG qZ)))) pa_nil)) (pg_name (i := 4) sc_law.nd rfl (Or.inl rfl)) (qV (yV (i := 5) sc_law.nd rfl (Or.inl rfl) (qz op_add qG (qz op_mul qG (pv 4))))
     (qM (ps_if (yv op_eq (yy c_l_drawn (hr.mono (by decide)) (qJ (pv 0) (qU (pv 5) (qU qG qZ)))) qG (nomark _)) (qV (yV (i := 3) sc_law.nd rfl (Or.inl rfl) (qz op_add (pv 3) (yy c_l_drawn (hr.mono (by decide)) (qJ (pv 0) (qU (qz op_add (pv 5) qG) (qU (qz op_add (qz op_sub (yG (k_len_seq K) (by rfl) T.b_len PySem.boot_len (qJ (pv 2) qZ)) (pv 3)) qG) qZ))))))
     (qM (ps_expr (as_methX mx_trim TC.cl_Journal (hr.mono (by decide)) pass_none (pv 1) (qJ (pv 3) qZ))))) (qV (ps_expr (k_bm K PySem.F.plainAttrs_list PySem.F.slot_list_append PySem.F.type_list_append mt_append (pv 2) (yz (as_tup (qU (qz op_add (yG (k_len_seq K) (by rfl) T.b_len PySem.boot_len (qJ (pv 2) qZ)) qG) (qU (yy c_l_topic (hr.mono (by decide)) (qJ (pv 0) (qU (qz op_add (pv 5) qG) qZ))) (qU (yy c_l_said (hr.mono (by decide)) (qJ (pv 0) (qU (qz op_add (pv 5) qG) qZ))) qZ)))) pa_nil)))
     (qM (ps_expr (as_meth m_write TC.cl_Journal (hr.mono (by decide)) (pv 1) (qJ (pe_ix (k_ix_tup K) (pe_ix (k_ix_list K) (pv 2) (pe_un un_neg qG) (fun _ _ => rfl)) qG (fun _ _ => rfl)) (qU (pe_ix (k_ix_tup K) (pe_ix (k_ix_list K) (pv 2) (pe_un un_neg qG) (fun _ _ => rfl)) qG (fun _ _ => rfl)) qZ))))))))))
     (qV (yV (i := 6) sc_law.nd rfl (Or.inl rfl) (qz qB (qz qB (qz qB qD (as_callTy call_strI (by rfl) T.b_str PyProof.Rows.boot_str (qJ (pv 3) qZ))) qD) (yy c_l_frames (hr.mono (by decide)) (qJ (yy c_l_last (hr.mono (by decide)) (qJ (pe_slice (k_sl_list K) (pv 2) po_none (po_some (pv 3))) qZ)) qZ))))
     (qV (yV (i := 6) sc_law.nd rfl (Or.inl rfl) (qz qB (qz qB (pv 6) qD) (yy c_l_frames (hr.mono (by decide)) (qJ (pe_slice (k_sl_list K) (pv 2) (po_some (pv 3)) po_none) qZ))))
     (qV (ps_if (yv op_ne (yy c_journal_text (hr.mono (by decide)) (qJ (pv 1) qZ)) (pv 6) (nomark _)) (qM (yJ pe_bl)) pss_nil)
     (qV (yV (i := 7) sc_law.nd rfl (Or.inl rfl) (yy c_l_told (hr.mono (by decide)) (qJ (pv 6) qZ)))
     (qV (ps_if (yv (op_neD hr.units) (as_tup (qU (as_meth0 m_told TC.cl_Journal (hr.mono (by decide)) (pv 7)) (qU (as_meth0 m_kept TC.cl_Journal (hr.mono (by decide)) (pv 7)) (qU (as_meth0 m_last TC.cl_Journal (hr.mono (by decide)) (pv 7)) (qU (as_meth0 m_counts TC.cl_Journal (hr.mono (by decide)) (pv 7)) qZ))))) (as_tup (qU (yG (k_len_seq K) (by rfl) T.b_len PySem.boot_len (qJ (pv 2) qZ)) (qU (pe_slice (k_sl_list K) (pv 2) (po_some (pv 3)) po_none) (qU (yy c_l_last (hr.mono (by decide)) (qJ (pv 2) qZ)) (qU (as_tup (qU qG (qU qG qZ))) qZ))))) (nomark _)) (qM (yJ pe_bl)) pss_nil)
     (qV (ps_for PassesOwn.never rfl (pi_range1 (by rfl) T.b_range (yz qG pa_nil)) (pg_name (i := 4) sc_law.nd rfl (Or.inl rfl)) (qV (yV (i := 8) sc_law.nd rfl (Or.inl rfl) (yy c_l_drawn (hr.mono (by decide)) (qJ (pv 0) (qU (qz op_add qG (qz op_mul qG (pv 4))) (qU (qz op_add (yG call_len_str (by rfl) T.b_len PySem.boot_len (qJ (pv 6) qZ)) qG) qZ)))))
     (qV (yV (i := 9) sc_law.nd rfl (Or.inl rfl) (pe_ix (k_ix_list K) (as_lst (qU qD (qU qD (qU qD (qU qD (qU qD (qU qD (qU qD (qU qD qZ))))))))) (yy c_l_drawn (hr.mono (by decide)) (qJ (pv 0) (qU (qz op_add qG (qz op_mul qG (pv 4))) (qU qG qZ)))) (fun _ _ => rfl)))
     (qV (yV (i := 10) sc_law.nd rfl (Or.inl rfl) (qz qB (qz qB (pe_slice sl_str (pv 6) po_none (po_some (pv 8))) (pv 9)) (pe_slice sl_str (pv 6) (po_some (qz op_add (pv 8) (yy c_l_drawn (hr.mono (by decide)) (qJ (pv 0) (qU (qz op_add qG (qz op_mul qG (pv 4))) (qU qG qZ)))))) po_none)))
     (qV (yV (i := 11) sc_law.nd rfl (Or.inl rfl) (yy c_l_told (hr.mono (by decide)) (qJ (pv 10) qZ)))
     (qM (ps_if (pt_val (yG (k_isi K (c := .type "tuple") ty_one) (by rfl) T.b_isinstance PyProof.Rows.boot_isinstance (qJ (pv 11) (qU (pe_bltn (v := .ty "tuple") (by rfl) T.b_tuple PyProof.Rows.boot_tuple rfl) qZ)))) (qM (ps_if (PW.pt (pw_or (yv (op_neD hr.units) (pv 11) (as_tup (qU qD (qU qG qZ))) (nomark _)) (pw_or1 (yv op_eq (pv 10) (pv 6) (nomark _))))) (qM (yJ pe_bl)) pss_nil)) (qM (ps_if (yv op_ne (yy c_journal_text (hr.mono (by decide)) (qJ (pv 11) qZ)) (pv 10) (nomark _)) (qM (yJ pe_bl)) pss_nil)))))))))
     (qM (yJ (pe_fn0 c_l_refuses (hr.mono (by decide))))))))))))))), ?_⟩
   intro p dx np nd nx
   have o1 := Stp.obj (o := .own p) (o' := .ins C dx []) np nd
   refine ⟨p, dx, rfl, qY, fun a0 H1 ep0 hA0 st0 => ⟨rfl, ?_⟩⟩
   have st1 := o1.trans st0
   refine ⟨Nat.zero_le _, fun lr hlr => ?_⟩
   have s1 := Same.new (o := .lst []) hlr
   have w0 : WR C H (upd H1 lr (.lst [])) a0 js0 lr [] [] 0 := ⟨hA0.same s1, Jq.new, qY, Ms.nil, hA0.free hlr, st1.trans (Stp.make hlr)⟩
   generalize upd H1 lr (.lst []) = H2 at w0 ⊢
   have d0 := drawn_nn ns 0 (m := 10) (by decide)
   have d1 := drawn_lt ns 0 (m := 10) (by decide)
   refine ⟨_, rfl, sc, ns, 0, 10, rfl, w0.st.same.seq hS, hlen, by decide, by decide, fun H3 t3 => ?_⟩
   generalize drawnF ns 0 10 = d at d0 d1 ⊢
   replace w0 := w0.same t3
   refine ⟨d, rfl, by omega, by omega, for_range (lo := 0) (n := d.toNat) (fun i σ H' => ∃ (o4 o5 : Option V) (a : JA) (s : JS) (yr : List V) (all : List Msg) (t : Nat), σ = [some (.ref sc), some (.ref p), some (.ref lr), some (.int (t : Int)), o4, o5, none, none, none, none, none, none] ∧ a.p = p ∧ WR C H H' a s lr yr all t ∧ all.length ≤ i ∧ s.on = [] ∧ s.row.length ≤ i ∧ s.st.length = i ∧ s.sb = [])
     ⟨none, none, a0, js0, [], [], 0, rfl, ep0, w0, Nat.le_refl _, rfl, Nat.le_refl _, rfl, rfl⟩ ?_ ?_⟩
   · rintro i σ H' hi ⟨o4, o5, a, s, yr, all, t, rfl, ep, W, l1, l2, l3, l4, l5⟩
     have hi9 : i ≤ 9 := by omega
     have htl := W.q.tl
     have htr := W.q.tr
     have htd := W.q.told
     have hyl := W.m.len
     refine rd_name ?_
     refine ⟨_, rfl, _, _, rfl, rfl, .inl (by decide), _, _, rfl, rfl, ?_⟩
     have he0 : 0 ≤ 10 + 12 * (0 + (i : Int)) := by omega
     refine ⟨_, rfl, _, rfl, sc, ns, _, 4, rfl, W.st.same.seq hS, hlen, he0, by decide, fun H5 t5 => ?_⟩
     replace W := W.same t5
     refine ⟨rfl, _, rfl, ite2 (fun z => ?_) (fun z => ?_)⟩
     · have q0 := drawn_nn ns (10 + 12 * (0 + (i : Int)) + 1) (m := (yr.length : Int) - (t : Int) + 1) (by omega)
       have q1 := drawn_lt ns (10 + 12 * (0 + (i : Int)) + 1) (m := (yr.length : Int) - (t : Int) + 1) (by omega)
       refine ⟨_, rfl, _, rfl, _, rfl, _, _, rfl, rfl, _, rfl, lr, yr, rfl, .inl (SqL.ofL W.e), _, rfl, _, _, rfl, rfl, _, _, rfl, rfl, sc, ns, _, _, rfl, W.st.same.seq hS, hlen, by omega, by omega, fun H6 t6 => ⟨_, _, rfl, rfl, ?_⟩⟩
       replace W := W.same t6
       obtain ⟨dxa, hoa⟩ := id W.j.ob
       generalize drawnF ns (10 + 12 * (0 + (i : Int)) + 1) ((yr.length : Int) - (t : Int) + 1) = dd at q0 q1 ⊢
       obtain ⟨n, hn⟩ : ∃ n : Nat, (t : Int) + dd = (n : Int) := ⟨((t : Int) + dd).toNat, by omega⟩
       refine ⟨_, rfl, p, dxa, _, rfl, by rw [← ep]; exact hoa, no_jl (.inr (.inr (.inl rfl))), _, rfl, a, s, (t : Int) + dd, by rw [ep]; rfl, W.j, by omega, by omega, .inl ⟨by omega, by omega, fun a' H7 ep7 J7 st7 => ?_⟩⟩
       have J7' : JAt C H7 a' (onJ s (.t s.tr ((t : Int) + dd))) := J7
       rw [hn] at J7'
       refine ⟨_, _, a', _, yr, all, n, by rw [← hn]; rfl, ep7.trans ep, W.trim J7' (W.q.trim (by omega) (by omega)) st7, Nat.le_succ_of_le l1, l2, Nat.le_succ_of_le l3, ?_, rfl⟩
       show (s.st ++ [_]).length = _
       rw [List.length_append, List.length_singleton, l4]
     · refine ⟨_, rfl, .inl ⟨rfl, _, SqL.ofL W.e⟩, _, rfl, lr, yr, rfl, .inl (SqL.ofL W.e), _, _, rfl, rfl, _, rfl, _, rfl, _, _, rfl, rfl, sc, ns, _, rfl, W.st.same.seq hS, hlen, by omega, fun H6 t6 => ?_⟩
       replace W := W.same t6
       refine ⟨_, rfl, _, rfl, _, _, rfl, rfl, sc, ns, _, rfl, W.st.same.seq hS, hlen, by omega, fun H7 t7 => ?_⟩
       replace W := W.same t7
       refine ⟨(show 3 ≤ sizeLine by decide), fun c hc => ?_⟩
       have hcm : upd H7 c (.tup [.int ((yr.length : Int) + 1), .str (topF ns (10 + 12 * (0 + (i : Int)) + 2)), .str (saidF ns (10 + 12 * (0 + (i : Int)) + 3))]) c = some (mT ⟨(all.length : Int) + 1, topF ns (10 + 12 * (0 + (i : Int)) + 2), saidF ns (10 + 12 * (0 + (i : Int)) + 3)⟩) := by rw [qY, hyl]; rfl
       replace W := W.same (Same.new (o := .tup [.int ((yr.length : Int) + 1), .str (topF ns (10 + 12 * (0 + (i : Int)) + 2)), .str (saidF ns (10 + 12 * (0 + (i : Int)) + 3))]) hc)
       have okm := told_ok ns (10 + 12 * (0 + (i : Int)) + 2) (10 + 12 * (0 + (i : Int)) + 3) (n := all.length) (by omega)
       refine ⟨lr, _, _, rfl, rfl, W.e, by rw [sizeLine_eq]; omega, ?_⟩
       show (fun HH : Hp => _) (upd (upd H7 c (.tup [.int ((yr.length : Int) + 1), .str (topF ns (10 + 12 * (0 + (i : Int)) + 2)), .str (saidF ns (10 + 12 * (0 + (i : Int)) + 3))])) lr (.lst (yr ++ [.ref c])))
       generalize upd H7 c (.tup [.int ((yr.length : Int) + 1), .str (topF ns (10 + 12 * (0 + (i : Int)) + 2)), .str (saidF ns (10 + 12 * (0 + (i : Int)) + 3))]) = H8 at hcm W
       generalize topF ns (10 + 12 * (0 + (i : Int)) + 2) = tp at hcm okm ⊢
       generalize saidF ns (10 + 12 * (0 + (i : Int)) + 3) = tx' at hcm okm ⊢
       have pu : Stp [lr] H8 [lr] (upd H8 lr (.lst (yr ++ [.ref c]))) := Stp.put W.e (fun xs => nofun) List.mem_cons_self
       have J9 := W.j.step pu fun c' hc' z => W.d (List.mem_singleton.mp z ▸ hc')
       have e9 : upd H8 lr (.lst (yr ++ [.ref c])) lr = some (.lst (yr ++ [.ref c])) := qY
       have hc9 : upd H8 lr (.lst (yr ++ [.ref c])) c = some (mT ⟨(all.length : Int) + 1, tp, tx'⟩) := pu.tup _ _ hcm
       have m9 : Ms (upd H8 lr (.lst (yr ++ [.ref c]))) (yr ++ [.ref c]) (all ++ [⟨(all.length : Int) + 1, tp, tx'⟩]) := (W.m.step pu).append (Ms.one hc9)
       have st9 := W.st.trans (pu.up fun c' hc' => by rw [List.mem_singleton.mp hc']; exact List.mem_cons_self)
       generalize upd H8 lr (.lst (yr ++ [.ref c])) = H9 at J9 e9 hc9 m9 st9
       obtain ⟨dxa, hoa⟩ := id J9.ob
       refine ⟨_, rfl, p, dxa, _, rfl, by rw [← ep]; exact hoa, no_jl (.inl rfl), _, rfl, _, rfl, lr, _, -1, _, rfl, rfl, SqL.ofL e9, atI_last _ _, c, _, 1, _, rfl, rfl, SqT.ofT hc9, rfl, _, rfl, _, rfl, lr, _, -1, _, rfl, rfl, SqL.ofL e9, atI_last _ _, c, _, 2, _, rfl, rfl, SqT.ofT hc9, rfl, a, s, tp, tx', by rw [ep]; rfl, J9, by omega, by omega, fun a' HA ep' JA stA => ?_⟩
       refine ⟨_, _, a', _, _, _, t, rfl, ep'.trans ep, ⟨JA, W.q.write okm, stA.keep e9 W.d, m9.step stA, stA.out e9 W.d, st9.trans (stA.weak (fun c hc => List.mem_cons_of_mem _ hc) fun c hc => ?_)⟩, ?_, l2, ?_, ?_, rfl⟩
       · rcases List.mem_cons.mp hc with rfl | hc
         · exact .inr List.mem_cons_self
         · exact .inl hc
       · rw [List.length_append, List.length_singleton]; omega
       · show (s.row ++ [_]).length ≤ _
         rw [List.length_append, List.length_singleton]; omega
       · show (s.st ++ [_]).length = _
         rw [List.length_append, List.length_singleton, l4]
   rintro σ H4 ⟨o4, o5, a, s, yr, all, t, rfl, ep, W, l1, l2, l3, l4, l5⟩
   have hal : all.length ≤ 9 := by omega
   have htl := W.q.tl
   have hyl := W.m.len
   have z1 : s.on.length + s.row.length < 60 := by rw [l2]; show 0 + _ < _; omega
   have z2 : s.st.length + s.sb.length < 500 := by rw [l5]; show _ + 0 < _; omega
   have hri := rows_rise W.q.rows
   have LC : ∀ x y : Str, (x ++ y).length = x.length + y.length := fun x y => by rw [← yY, yM, List.length_append, yY, yY]
   have LS : ∀ l : List Nat, (⟨l.toArray⟩ : Str).length = l.length := fun l => by simp [Str.length]
   have M1 : ("trim: " : Str).length = 6 := by decide +kernel
   have M2 : ("\n\n" : Str).length = 2 := by decide +kernel
   have hnl := nT_len (n := (t : Int)) (by omega) (by omega)
   refine ⟨_, rfl, (t : Int), rfl, n_log (by omega) (by omega), _, _, rfl, rfl, by rw [M1, sizeLine_eq]; omega, _, _, rfl, rfl, by rw [LC, M1, M2, sizeLine_eq]; omega, _, rfl, _, rfl, _, rfl, lr, yr, rfl, SqL.ofL W.e, fun k1 n1 => ?_⟩
   rw [cut_to (by omega), Int.toNat_natCast]
   have u1 := Same.new (o := .lst (yr.take t)) n1
   have e1 : upd H4 k1 (.lst (yr.take t)) k1 = some (.lst (yr.take t)) := qY
   generalize upd H4 k1 (.lst (yr.take t)) = H5 at u1 e1 ⊢
   replace W := W.same u1
   have hriT : Rise (all.take t) := List.Pairwise.sublist (List.take_sublist _ _) hri
   have ltk : (all.take t).length ≤ 9 := by rw [List.length_take]; omega
   refine ⟨k1, _, _, rfl, e1, W.m.take t, by omega, hriT, fun k2 y2 ls H6 u2 n2 e2 m2 hL => ?_⟩
   obtain rfl : ls = yB (all.take t) := Lasts.uniq hL (lastF_lasts hriT)
   replace W := W.same u2
   obtain ⟨g1, g2, g3⟩ := tx_len W.q hal
   obtain ⟨f1, f2, f3, f4⟩ := W.q.fit
   have lf1 := frS_len f3
   have lf2 := frS_len f4
   refine ⟨k2, y2, _, rfl, e2, m2, by omega, f3, fun H7 u3 => ⟨_, _, rfl, rfl, by rw [LC, LC, M1, M2, LS (frS (yB (all.take t))), sizeLine_eq]; omega, ?_⟩⟩
   replace W := W.same u3
   have et : V.str (("trim: " : Str) ++ nT (t : Int) ++ ("\n\n" : Str) ++ ⟨(frS (yB (all.take t))).toArray⟩) = sV (trF ++ dgT t ++ [10, 10] ++ frS (yB (all.take t))) := sV_of (by
     have e := nT_cps t
     rw [yM, yM, yM, e, show ("trim: " : Str).cps.toList = trF by decide +kernel, show ("\n\n" : Str).cps.toList = [10, 10] by decide +kernel])
   rw [et]
   have M3 : ("on\n\n" : Str).length = 4 := by decide +kernel
   have hdl : (trF ++ dgT t ++ [10, 10] ++ frS (yB (all.take t))).length ≤ 2400 := by
     have : (trF ++ dgT t ++ [10, 10] ++ frS (yB (all.take t))).length ≤ (tx all t).length := by
       unfold tx jT; simp only [List.length_append]; omega
     omega
   refine ⟨_, rfl, _, _, rfl, rfl, by rw [LS (trF ++ dgT t ++ [10, 10] ++ frS (yB (all.take t))), M3, sizeLine_eq]; omega, _, rfl, _, rfl, _, rfl, lr, yr, rfl, SqL.ofL W.e, fun k3 n3 => ?_⟩
   rw [cut_from (by omega), Int.toNat_natCast]
   have u4 := Same.new (o := .lst (yr.drop t)) n3
   have e4 : upd H7 k3 (.lst (yr.drop t)) k3 = some (.lst (yr.drop t)) := qY
   generalize upd H7 k3 (.lst (yr.drop t)) = H8 at u4 e4 ⊢
   replace W := W.same u4
   have ldr : (all.drop t).length ≤ 9 := by rw [List.length_drop]; omega
   refine ⟨k3, _, _, rfl, e4, W.m.drop t, by omega, f4, fun H9 u5 => ⟨_, _, rfl, rfl, by rw [LC, LS (trF ++ dgT t ++ [10, 10] ++ frS (yB (all.take t))), M3, LS (frS (all.drop t)), sizeLine_eq]; omega, ?_⟩⟩
   replace W := W.same u5
   have et2 : V.str ((⟨(trF ++ dgT t ++ [10, 10] ++ frS (yB (all.take t))).toArray⟩ : Str) ++ ("on\n\n" : Str) ++ ⟨(frS (all.drop t)).toArray⟩) = sV (tx all t) := sV_of (by
     rw [yM, yM, show ("on\n\n" : Str).cps.toList = onL ++ [10, 10] by decide +kernel]; rfl)
   rw [et2]
   refine ⟨_, rfl, tnil (txQ ep W.j W.q z1 z2 (by omega) fun HA uA => ⟨_, rfl, rfl, _, rfl, ite2 (fun z => ?_) (fun _ => ?_)⟩)⟩
   · simp at z
   replace W := W.same uA
   refine ⟨_, rfl, tnil (rdT W.q hal fun b HB JB stB => ?_)⟩
   replace W := W.same stB.same
   have JR := W.q.read
   obtain ⟨dxb, hob⟩ := id JB.ob
   refine ⟨_, rfl, b.p, dxb, _, rfl, hob, no_jl (.inr (.inl rfl)), tnil (tdQ rfl JB JR ?_)⟩
   refine ⟨_, rfl, b.p, dxb, _, rfl, hob, no_jl (.inr (.inr (.inr (.inl rfl)))), tnil (kpQ rfl JB JR fun v1 y1 nv1 mv1 => ?_)⟩
   have w1 := Same.new (o := .lst y1) nv1
   have ev1 : upd HB v1 (.lst y1) v1 = some (.lst y1) := qY
   generalize upd HB v1 (.lst y1) = HC at w1 ev1 mv1 ⊢
   replace W := W.same w1
   replace JB := JB.same w1
   replace hob := w1 _ _ hob
   refine ⟨_, rfl, b.p, dxb, _, rfl, hob, no_jl (.inr (.inr (.inr (.inr (.inl rfl))))), tnil (lsQ rfl JB JR (by show (yB (all.take t)).length + (all.drop t).length < 60; omega) (show 0 + 0 < 500 by decide) fun v2 y2' HD w2 nv2 ev2 mv2 => ?_)⟩
   replace W := W.same w2
   replace JB := JB.same w2
   replace hob := w2 _ _ hob
   replace ev1 := w2 _ _ ev1
   replace mv1 := mv1.same w2
   refine ⟨_, rfl, b.p, dxb, _, rfl, hob, no_jl (.inr (.inr (.inr (.inr (.inr (.inr (.inl rfl))))))), b, _, rfl, JB, fun v3 nv3 => ?_⟩
   have w3 := Same.new (o := .tup [.int ((([] : List JStep).length : Nat) : Int), .int ((([] : List JStep).length : Nat) : Int)]) nv3
   have ev3 : upd HD v3 (.tup [.int ((([] : List JStep).length : Nat) : Int), .int ((([] : List JStep).length : Nat) : Int)]) v3 = some (.tup [.int 0, .int 0]) := qY
   show (fun HH : Hp => _) (upd HD v3 (.tup [.int ((([] : List JStep).length : Nat) : Int), .int ((([] : List JStep).length : Nat) : Int)]))
   generalize upd HD v3 (.tup [.int ((([] : List JStep).length : Nat) : Int), .int ((([] : List JStep).length : Nat) : Int)]) = HE at w3 ev3
   refine ⟨(show 4 ≤ sizeLine by decide), fun v4 nv4 => ?_⟩
   have w4 := Same.new (o := .tup [.int (all.length : Int), .ref v1, .ref v2, .ref v3]) nv4
   have ev4 : upd HE v4 (.tup [.int (all.length : Int), .ref v1, .ref v2, .ref v3]) v4 = some (.tup [.int (all.length : Int), .ref v1, .ref v2, .ref v3]) := qY
   show (fun HH : Hp => _) (upd HE v4 (.tup [.int (all.length : Int), .ref v1, .ref v2, .ref v3]))
   generalize upd HE v4 (.tup [.int (all.length : Int), .ref v1, .ref v2, .ref v3]) = HF at w4 ev4
   have hv4 : Has HF (.ref v4) (nwD all t) := has_tup ev4 (yZ (has_int _) (yZ (has_lst ((w3.trans w4) _ _ ev1) (mv1.same (w3.trans w4))) (yZ (has_lst ((w3.trans w4) _ _ ev2) (mv2.same (w3.trans w4))) (yZ (tw_has (w4 _ _ ev3)) hasL_nil))))
   replace W := W.same (w3.trans w4)
   refine ⟨_, rfl, lr, yr, rfl, .inl (SqL.ofL W.e), _, rfl, _, rfl, _, rfl, lr, yr, rfl, SqL.ofL W.e, fun u1 nu1 => ?_⟩
   rw [cut_from (by omega), Int.toNat_natCast]
   have x1 := Same.new (o := .lst (yr.drop t)) nu1
   have eu1 : upd HF u1 (.lst (yr.drop t)) u1 = some (.lst (yr.drop t)) := qY
   generalize upd HF u1 (.lst (yr.drop t)) = HG at x1 eu1 ⊢
   replace W := W.same x1
   refine ⟨_, rfl, lr, yr, all, rfl, W.e, W.m, by omega, hri, fun u2 yu2 lsu HH x2 nu2 eu2 mu2 hLu => ?_⟩
   obtain rfl : lsu = yB all := Lasts.uniq hLu (lastF_lasts hri)
   replace W := W.same x2
   refine ⟨(show 2 ≤ sizeLine by decide), fun u3 nu3 => ?_⟩
   have x3 := Same.new (o := .tup [.int 0, .int 0]) nu3
   have eu3 : upd HH u3 (.tup [.int 0, .int 0]) u3 = some (.tup [.int 0, .int 0]) := qY
   generalize upd HH u3 (.tup [.int 0, .int 0]) = HI at x3 eu3 ⊢
   refine ⟨(show 4 ≤ sizeLine by decide), fun u4 nu4 => ?_⟩
   rw [hyl]
   have x4 := Same.new (o := .tup [.int (all.length : Int), .ref u1, .ref u2, .ref u3]) nu4
   have eu4 : upd HI u4 (.tup [.int (all.length : Int), .ref u1, .ref u2, .ref u3]) u4 = some (.tup [.int (all.length : Int), .ref u1, .ref u2, .ref u3]) := qY
   show (fun HH : Hp => _) (upd HI u4 (.tup [.int (all.length : Int), .ref u1, .ref u2, .ref u3]))
   generalize upd HI u4 (.tup [.int (all.length : Int), .ref u1, .ref u2, .ref u3]) = HJ at x4 eu4
   have x34 := x3.trans x4
   have hu4 : Has HJ (.ref u4) (nwD all t) := has_tup eu4 (yZ (has_int _) (yZ (has_lst ((x2.trans x34) _ _ eu1) ((W.m.drop t).same x34)) (yZ (has_lst (x34 _ _ eu2) (mu2.same x34)) (yZ (tw_has (x4 _ _ eu3)) hasL_nil))))
   refine ne_D (hv4.same ((x1.trans x2).trans x34)) hu4 (nw_shaped fun m hm => (W.q.okm m hm).mok) ⟨_, rfl, iteF ?_⟩
   replace W := W.same x34
   have hrd := rd_tx W.q hal
   generalize hTX : tx all t = TX0 at hrd g1 g2 ⊢
   refine ⟨6, rfl, by decide, by decide, for_range (lo := 0) (n := (6 : Int).toNat) (fun i σ H' => ∃ (o4 o5 o8 o9 o10 o11 : Option V), σ = [some (.ref sc), some (.ref p), some (.ref lr), some (.int (t : Int)), o4, o5, some (sV TX0), some (.ref b.p), o8, o9, o10, o11] ∧ Same HJ H')
     ⟨_, _, _, _, _, _, rfl, Same.refl _⟩ ?_ ?_⟩
   · rintro i σ H' hi ⟨o4, o5, o8, o9, o10, o11, rfl, sH⟩
     refine rd_name ?_
     have hi6 : i < 6 := hi
     have lTX : (⟨TX0.toArray⟩ : Str).length = TX0.length := LS TX0
     have hS' : ∀ {HX : Hp}, Same HJ HX → SqL K HX sc (ns.map V.int) := fun {HX} z => (W.st.same.trans z).seq hS
     refine ⟨_, rfl, _, rfl, _, _, rfl, rfl, .inl (by decide), _, _, rfl, rfl, _, rfl, _, rfl, by rw [lTX, sizeLine_eq]; omega, _, _, rfl, rfl, sc, ns, _, _, rfl, hS' sH, hlen, by omega, by rw [lTX]; omega, fun HK sK => ?_⟩
     rw [lTX]
     have p0 := drawn_nn ns (200 + 4 * (0 + (i : Int))) (m := (TX0.length : Int) + 1) (by omega)
     have p1 := drawn_lt ns (200 + 4 * (0 + (i : Int))) (m := (TX0.length : Int) + 1) (by omega)
     generalize drawnF ns (200 + 4 * (0 + (i : Int))) ((TX0.length : Int) + 1) = pl at p0 p1 ⊢
     have s1 := sH.trans sK
     refine ⟨(show 8 ≤ sizeLine by decide), fun lg hg => ?_⟩
     have sg := Same.new (o := .lst [.str "0", .str "1", .str "a", .str " ", .str "\n", .str ":", .str "", .str "on\n"]) hg
     have eg : upd HK lg (.lst [.str "0", .str "1", .str "a", .str " ", .str "\n", .str ":", .str "", .str "on\n"]) lg = some (.lst (sgL.map V.str)) := qY
     generalize upd HK lg (.lst [.str "0", .str "1", .str "a", .str " ", .str "\n", .str ":", .str "", .str "on\n"]) = HL at sg eg ⊢
     have s2 := s1.trans sg
     refine ⟨_, rfl, _, rfl, _, _, rfl, rfl, .inl (by decide), _, _, rfl, rfl, sc, ns, _, 8, rfl, hS' s2, hlen, by omega, by decide, fun HM sM => ?_⟩
     have s3 := s2.trans sM
     obtain ⟨sgn, hsgn, hsm⟩ := sg_at ns (201 + 4 * (0 + (i : Int)))
     obtain ⟨c1, c2⟩ := sg_ok sgn hsm
     refine ⟨lg, _, _, _, rfl, rfl, SqL.ofL (sM _ _ eg), hsgn, ?_⟩
     have l1 : (TX0.take pl.toNat).length ≤ TX0.length := by rw [List.length_take]; omega
     refine ⟨_, rfl, _, rfl, _, rfl, _, rfl, by rw [lTX, sizeLine_eq]; omega, _, rfl, _, _, rfl, rfl, by rw [slice_take p0, LS (TX0.take pl.toNat), sizeLine_eq]; omega, ?_⟩
     have hd0 := drawn_nn ns (202 + 4 * (0 + (i : Int))) (m := 2) (by decide)
     have hdr : 0 ≤ pl + drawnF ns (202 + 4 * (0 + (i : Int))) 2 := by
       have := drawn_nn ns (202 + 4 * (0 + (i : Int))) (m := 2) (by decide)
       omega
     refine ⟨_, rfl, _, rfl, _, rfl, _, rfl, _, _, rfl, rfl, .inl (by decide), _, _, rfl, rfl, sc, ns, _, 2, rfl, hS' s3, hlen, by omega, by decide, fun HN sN => ?_⟩
     have s4 := s3.trans sN
     generalize drawnF ns (202 + 4 * (0 + (i : Int))) 2 = dd at hdr hd0 ⊢
     have l2 : (TX0.drop (pl + dd).toNat).length ≤ TX0.length := by rw [List.length_drop]; omega
     refine ⟨_, _, rfl, rfl, _, rfl, _, rfl, by rw [lTX, sizeLine_eq]; omega, _, _, rfl, rfl, by rw [LC, slice_take p0, slice_from hdr, LS (TX0.take pl.toNat), LS (TX0.drop (pl + dd).toNat), sizeLine_eq]; omega, ?_⟩
     have esp : V.str (Txt.slice ⟨TX0.toArray⟩ none (some pl) ++ sgn ++ Txt.slice ⟨TX0.toArray⟩ (some (pl + dd)) none) = sV (TX0.take pl.toNat ++ sgn.cps.toList ++ TX0.drop (pl + dd).toNat) := sV_of (by
       rw [slice_take p0, slice_from hdr, yM, yM])
     rw [esp]
     have hspl : (TX0.take pl.toNat ++ sgn.cps.toList ++ TX0.drop (pl + dd).toNat).length ≤ 3900 := by
       rw [← yY] at c1
       rw [List.length_append, List.length_append, List.length_take, List.length_drop]
       omega
     have hspc : (TX0.take pl.toNat ++ sgn.cps.toList ++ TX0.drop (pl + dd).toNat).count 10 ≤ 200 := by
       have a1 : (TX0.take pl.toNat).count 10 + (TX0.drop (pl + dd).toNat).count 10 ≤ TX0.count 10 := by
         have e1 : (TX0.drop (pl + dd).toNat).count 10 ≤ (TX0.drop pl.toNat).count 10 := by
           have hsub : (TX0.drop (pl + dd).toNat).Sublist (TX0.drop pl.toNat) := by
             have : (pl + dd).toNat = pl.toNat + ((pl + dd).toNat - pl.toNat) := by omega
             rw [this, ← List.drop_drop]
             exact List.drop_sublist _ _
           exact List.Sublist.count_le 10 hsub
         have e2 : (TX0.take pl.toNat).count 10 + (TX0.drop pl.toNat).count 10 = TX0.count 10 := by rw [← List.count_append, List.take_append_drop]
         omega
       rw [List.count_append, List.count_append]
       omega
     generalize TX0.take pl.toNat ++ sgn.cps.toList ++ TX0.drop (pl + dd).toNat = SP at hspl hspc ⊢
     refine ⟨_, rfl, ⟨SP.toArray⟩, rfl, by show SP.length ≤ _; omega, hspc, fun n o k e c HO JC stC => ?_, fun e r HO sO eO => ?_⟩
     · have e' : rdJ SP = some (n, o, k) := e
       obtain ⟨C', hC', hown⟩ := TX.oJ
       have hCC : C' = C := by
         have := TC.mg_Journal
         rw [hC'] at this
         injection this with this
         injection this
       rw [hCC] at hown
       obtain ⟨dxc, hoc⟩ := id JC.ob
       refine ⟨_, rfl, .ref c.p, .ty "tuple", _, rfl, rfl, hown.not_tuple TC.cl_Journal hoc, _, rfl, ?_⟩
       refine iteF ?_
       refine ⟨_, rfl, tnil (txR e' hspc JC fun HP sP => ?_)⟩
       refine ⟨_, rfl, rfl, _, rfl, ite2 (fun z => ?_) (fun _ => ?_)⟩
       · simp at z
       exact ⟨_, _, _, _, _, _, rfl, s4.trans (stC.same.trans sP)⟩
     · have e' : rdJ SP = none := e
       refine ⟨_, rfl, .ref r, .ty "tuple", _, rfl, rfl, has_isiTup (rD_has eO), _, rfl, iteT ?_⟩
       refine ⟨_, rfl, (show 2 ≤ sizeLine by decide), fun tq htq => ?_⟩
       have sB := Same.new (o := .tup [.str "refused", .int 0]) htq
       refine ne_D (rD_has (sB _ _ eO)) (rD_has qY) rD_shaped ⟨_, rfl, iteF ?_⟩
       refine ⟨_, rfl, _, rfl, rfl, _, rfl, ite2 (fun z => ?_) (fun _ => ?_)⟩
       · exfalso
         have z' := of_decide_eq_true z
         injection z' with z'
         have z2 := congrArg (fun y : Str => y.cps.toList) z'
         have z3 : SP = TX0 := by simpa using z2
         rw [z3, hrd] at e'
         cases e'
       exact ⟨_, _, _, _, _, _, rfl, (s4.trans sO).trans sB⟩
   rintro σ H4 ⟨o4, o5, o8, o9, o10, o11, rfl, sH⟩
   exact ⟨rfl, q⟩
end
end K86
namespace K86
open PySem L2
theorem all_mk {l : W.OpenLaw} {w : World} {K : W.Frag} {h : Heap} {mg : Str → Option Value} {fa f0 f1 f2 f3 f4 f5 f6 f7 f8 f9 f10 f11 f12 f13 f14 f15 f16 f17 f18 f19 f20 f21 f22 f23 f24 f25 f26 f27 f28 f29 f30 f31 f32 f33 f34 f35 f36 f37 f38 f39 f40 f41 f42 f43 f44 f45 C_Journal C_Reader CT CX CN : Addr} (X : K.In h) (G : h.Ns mainGlobals mg) (hfa : mg "law" = some (.ref fa))
   {od0 an0 od1 an1 od2 an2 od3 an3 od4 an4 od5 an5 od6 an6 od7 an7 od8 an8 od9 an9 od10 an10 od11 an11 od12 an12 od13 an13 od14 an14 od15 an15 od16 an16 od17 an17 od18 an18 od19 an19 od20 an20 od21 an21 od22 an22 od23 an23 od24 an24 od25 an25 od26 an26 od27 an27 od28 an28 od29 an29 od30 an30 od31 an31 od32 an32 od33 an33 od34 an34 od35 an35 od36 an36 od37 an37 od38 an38 od39 an39 od40 an40 od41 an41 od42 an42 od43 an43 od44 an44 od45 an45 : Option Addr} {sl0 sl1 sl2 sl3 sl4 sl5 sl6 sl7 sl8 sl9 sl10 sl11 sl12 sl13 sl14 sl15 sl16 sl17 sl18 sl19 sl20 sl21 sl22 sl23 sl24 sl25 sl26 sl27 sl28 sl29 sl30 sl31 sl32 sl33 sl34 sl35 sl36 sl37 sl38 sl39 sl40 sl41 sl42 sl43 sl44 sl45 : Array (Option Value)} {oc0 kV0 dc0 pm0 cd0 ct0 oc1 kV1 dc1 pm1 cd1 ct1 oc2 kV2 dc2 pm2 cd2 ct2 oc3 kV3 dc3 pm3 cd3 ct3 oc4 kV4 dc4 pm4 cd4 ct4 oc5 kV5 dc5 pm5 cd5 ct5 oc6 kV6 dc6 pm6 cd6 ct6 oc7 kV7 dc7 pm7 cd7 ct7 oc8 kV8 dc8 pm8 cd8 ct8 oc9 kV9 dc9 pm9 cd9 ct9 oc10 kV10 dc10 pm10 cd10 ct10 oc11 kV11 dc11 pm11 cd11 ct11 oc12 kV12 dc12 pm12 cd12 ct12 oc13 kV13 dc13 pm13 cd13 ct13 oc14 kV14 dc14 pm14 cd14 ct14 oc15 kV15 dc15 pm15 cd15 ct15 oc16 kV16 dc16 pm16 cd16 ct16 oc17 kV17 dc17 pm17 cd17 ct17 oc18 kV18 dc18 pm18 cd18 ct18 oc19 kV19 dc19 pm19 cd19 ct19 oc20 kV20 dc20 pm20 cd20 ct20 oc21 kV21 dc21 pm21 cd21 ct21 oc22 kV22 dc22 pm22 cd22 ct22 oc23 kV23 dc23 pm23 cd23 ct23 oc24 kV24 dc24 pm24 cd24 ct24 oc25 kV25 dc25 pm25 cd25 ct25 oc26 kV26 dc26 pm26 cd26 ct26 oc27 kV27 dc27 pm27 cd27 ct27 oc28 kV28 dc28 pm28 cd28 ct28 oc29 kV29 dc29 pm29 cd29 ct29 oc30 kV30 dc30 pm30 cd30 ct30 oc31 kV31 dc31 pm31 cd31 ct31 oc32 kV32 dc32 pm32 cd32 ct32 oc33 kV33 dc33 pm33 cd33 ct33 oc34 kV34 dc34 pm34 cd34 ct34 oc35 kV35 dc35 pm35 cd35 ct35 oc36 kV36 dc36 pm36 cd36 ct36 oc37 kV37 dc37 pm37 cd37 ct37 oc38 kV38 dc38 pm38 cd38 ct38 oc39 kV39 dc39 pm39 cd39 ct39 oc40 kV40 dc40 pm40 cd40 ct40 oc41 kV41 dc41 pm41 cd41 ct41 oc42 kV42 dc42 pm42 cd42 ct42 oc43 kV43 dc43 pm43 cd43 ct43 oc44 kV44 dc44 pm44 cd44 ct44 oc45 kV45 dc45 pm45 cd45 ct45 : Value} {tk0 tk1 tk2 tk3 tk4 tk5 tk6 tk7 tk8 tk9 tk10 tk11 : Tok}
   (aX_TellError : W.nsIn K mainGlobals "TellError" = some (some (.ref CT)))
   (aX_NoText : W.nsIn K mainGlobals "NoText" = some (some (.ref CX)))
   (aX_NoNumber : W.nsIn K mainGlobals "NoNumber" = some (some (.ref CN)))
   (xe_NoNumber : W.excIn K CN [.type "ValueError", .type "Exception", .type "BaseException", .type "object"] "ValueError.__new__" = true)
   (xe_NoText : W.excIn K CX [.type "ValueError", .type "Exception", .type "BaseException", .type "object"] "ValueError.__new__" = true)
   (xga_z : W.findIn K (.ref CX) "__getattribute__" = some (some (.builtin "BaseException.__getattribute__")))
   (xcl_z : W.findIn K (.ref CX) "__class__" = some (some (.builtin "object.__class__")))
   (xno_z : W.findIn K (.ref CX) "__getattr__" = some none)
   (xob_z : W.mroIn K CX (.type "object") = some true)
   (xbe_z : W.mroIn K CX (.type "BaseException") = some true)
   (xhd_z : W.hasDictIn K CX = true)
   (x_iN : W.kitOne K (.ref CX) (.ref CX) = some true)
   (x_iV : W.kitOne K (.ref CX) (.type "ValueError") = some true)
   (x_em : W.exmOne K (.ref CX) (.ref CT) = some true)
   (xoc_oJ : W.findIn K (.ref C_Journal) "__class__" = some (some (.builtin "object.__class__")))
   (xos_oJ : W.specialIn K (.builtin "object.__class__") "__get__" = some (some (.builtin "getset_descriptor.__get__")))
   (xot_oJ : W.takesIn K (.builtin "object.__class__") = some true)
   (xom_oJ : W.mroIn K C_Journal (.type "object") = some true)
   (xon_oJ : W.kitOne K (.ref C_Journal) (.type "tuple") = some false)
   (aC_Journal : W.nsIn K mainGlobals "Journal" = some (some (.ref C_Journal)))
   (pg_Journal : W.plainGet K C_Journal Str.empty = true)
   (hd_Journal : W.hasDictIn K C_Journal = true)
   (po_Journal : W.plainOver K C_Journal = true)
   (sa_Journal : W.findIn K (.ref C_Journal) "__setattr__" = some (some (.builtin "object.__setattr__")))
   (mk_Journal : W.makesIn K C_Journal = true)
   (kc_Journal : W.keepIn K (.ref C_Journal) = true)
   (n_Journal_ground : W.findIn K (.ref C_Journal) "ground" = some none)
   (n_Journal_ground_ones : W.findIn K (.ref C_Journal) "ground_ones" = some none)
   (n_Journal_row : W.findIn K (.ref C_Journal) "row" = some none)
   (n_Journal_trimmed : W.findIn K (.ref C_Journal) "trimmed" = some none)
   (n_Journal_steps : W.findIn K (.ref C_Journal) "steps" = some none)
   (n_Journal_steps_back : W.findIn K (.ref C_Journal) "steps_back" = some none)
   (aC_Reader : W.nsIn K mainGlobals "Reader" = some (some (.ref C_Reader)))
   (pg_Reader : W.plainGet K C_Reader Str.empty = true)
   (hd_Reader : W.hasDictIn K C_Reader = true)
   (po_Reader : W.plainOver K C_Reader = true)
   (sa_Reader : W.findIn K (.ref C_Reader) "__setattr__" = some (some (.builtin "object.__setattr__")))
   (mk_Reader : W.makesIn K C_Reader = true)
   (kc_Reader : W.keepIn K (.ref C_Reader) = true)
   (n_Reader_line_begun : W.findIn K (.ref C_Reader) "line_begun" = some none)
   (n_Reader_lines_begun : W.findIn K (.ref C_Reader) "lines_begun" = some none)
   (a0 : W.nsIn K mainGlobals "number_of" = some (some (.ref f0)))
   (l0 : K.lookup f0 = some ⟨oc0, od0, .func (W.fnOf "number_of" "number_of" (yQ s_number_of) (qw s_number_of) (qQ s_number_of) .none kV0 dc0 pm0 an0 cd0 ct0), sl0⟩)
   (c0 : W.codeIn K cd0 "number_of" = true)
   (k0 : W.keepIn K (.ref f0) = true)
   (a1 : W.nsIn K mainGlobals "topic_of" = some (some (.ref f1)))
   (l1 : K.lookup f1 = some ⟨oc1, od1, .func (W.fnOf "topic_of" "topic_of" (yQ s_topic_of) (qw s_topic_of) (qQ s_topic_of) .none kV1 dc1 pm1 an1 cd1 ct1), sl1⟩)
   (c1 : W.codeIn K cd1 "topic_of" = true)
   (k1 : W.keepIn K (.ref f1) = true)
   (a2 : W.nsIn K mainGlobals "text_of" = some (some (.ref f2)))
   (l2 : K.lookup f2 = some ⟨oc2, od2, .func (W.fnOf "text_of" "text_of" (yQ s_text_of) (qw s_text_of) (qQ s_text_of) .none kV2 dc2 pm2 an2 cd2 ct2), sl2⟩)
   (c2 : W.codeIn K cd2 "text_of" = true)
   (k2 : W.keepIn K (.ref f2) = true)
   (a3 : W.nsIn K mainGlobals "is_whole" = some (some (.ref f3)))
   (l3 : K.lookup f3 = some ⟨oc3, od3, .func (W.fnOf "is_whole" "is_whole" (yQ s_is_whole) (qw s_is_whole) (qQ s_is_whole) .none kV3 dc3 pm3 an3 cd3 ct3), sl3⟩)
   (c3 : W.codeIn K cd3 "is_whole" = true)
   (k3 : W.keepIn K (.ref f3) = true)
   (a4 : W.nsIn K mainGlobals "is_number" = some (some (.ref f4)))
   (l4 : K.lookup f4 = some ⟨oc4, od4, .func (W.fnOf "is_number" "is_number" (yQ s_is_number) (qw s_is_number) (qQ s_is_number) .none kV4 dc4 pm4 an4 cd4 ct4), sl4⟩)
   (c4 : W.codeIn K cd4 "is_number" = true)
   (k4 : W.keepIn K (.ref f4) = true)
   (a5 : W.nsIn K mainGlobals "has_only" = some (some (.ref f5)))
   (l5 : K.lookup f5 = some ⟨oc5, od5, .func (W.fnOf "has_only" "has_only" (yQ s_has_only) (qw s_has_only) (qQ s_has_only) .none kV5 dc5 pm5 an5 cd5 ct5), sl5⟩)
   (c5 : W.codeIn K cd5 "has_only" = true)
   (k5 : W.keepIn K (.ref f5) = true)
   (a6 : W.nsIn K mainGlobals "is_topic" = some (some (.ref f6)))
   (l6 : K.lookup f6 = some ⟨oc6, od6, .func (W.fnOf "is_topic" "is_topic" (yQ s_is_topic) (qw s_is_topic) (qQ s_is_topic) .none kV6 dc6 pm6 an6 cd6 ct6), sl6⟩)
   (c6 : W.codeIn K cd6 "is_topic" = true)
   (k6 : W.keepIn K (.ref f6) = true)
   (a7 : W.nsIn K mainGlobals "is_text" = some (some (.ref f7)))
   (l7 : K.lookup f7 = some ⟨oc7, od7, .func (W.fnOf "is_text" "is_text" (yQ s_is_text) (qw s_is_text) (qQ s_is_text) .none kV7 dc7 pm7 an7 cd7 ct7), sl7⟩)
   (c7 : W.codeIn K cd7 "is_text" = true)
   (k7 : W.keepIn K (.ref f7) = true)
   (a8 : W.nsIn K mainGlobals "is_message" = some (some (.ref f8)))
   (l8 : K.lookup f8 = some ⟨oc8, od8, .func (W.fnOf "is_message" "is_message" (yQ s_is_message) (qw s_is_message) (qQ s_is_message) .none kV8 dc8 pm8 an8 cd8 ct8), sl8⟩)
   (c8 : W.codeIn K cd8 "is_message" = true)
   (k8 : W.keepIn K (.ref f8) = true)
   (a9 : W.nsIn K mainGlobals "last_ones" = some (some (.ref f9)))
   (l9 : K.lookup f9 = some ⟨oc9, od9, .func (W.fnOf "last_ones" "last_ones" (yQ s_last_ones) (qw s_last_ones) (qQ s_last_ones) .none kV9 dc9 pm9 an9 cd9 ct9), sl9⟩)
   (c9 : W.codeIn K cd9 "last_ones" = true)
   (k9 : W.keepIn K (.ref f9) = true)
   (a10 : W.findIn K (.ref C_Journal) "__init__" = some (some (.ref f10)))
   (i10 : W.isFn K (.ref f10) = true)
   (l10 : K.lookup f10 = some ⟨oc10, od10, .func (W.fnOf "__init__" "Journal.__init__" (yQ s_Journal___init__) (qw s_Journal___init__) (qQ s_Journal___init__) .none kV10 dc10 pm10 an10 cd10 ct10), sl10⟩)
   (c10 : W.codeIn K cd10 "Journal.__init__" = true)
   (k10 : W.keepIn K (.ref f10) = true)
   (a11 : W.findIn K (.ref C_Journal) "told" = some (some (.ref f11)))
   (i11 : W.isFn K (.ref f11) = true)
   (l11 : K.lookup f11 = some ⟨oc11, od11, .func (W.fnOf "told" "Journal.told" (yQ s_Journal_told) (qw s_Journal_told) (qQ s_Journal_told) .none kV11 dc11 pm11 an11 cd11 ct11), sl11⟩)
   (c11 : W.codeIn K cd11 "Journal.told" = true)
   (k11 : W.keepIn K (.ref f11) = true)
   (a12 : W.findIn K (.ref C_Journal) "refuse_unknown" = some (some (.ref f12)))
   (i12 : W.isFn K (.ref f12) = true)
   (l12 : K.lookup f12 = some ⟨oc12, od12, .func (W.fnOf "refuse_unknown" "Journal.refuse_unknown" (yQ yD) (qw yD) (qQ yD) .none kV12 dc12 pm12 an12 cd12 ct12), sl12⟩)
   (c12 : W.codeIn K cd12 "Journal.refuse_unknown" = true)
   (k12 : W.keepIn K (.ref f12) = true)
   (a13 : W.findIn K (.ref C_Journal) "do_step" = some (some (.ref f13)))
   (i13 : W.isFn K (.ref f13) = true)
   (l13 : K.lookup f13 = some ⟨oc13, od13, .func (W.fnOf "do_step" "Journal.do_step" (yQ s_Journal_do_step) (qw s_Journal_do_step) (qQ s_Journal_do_step) .none kV13 dc13 pm13 an13 cd13 ct13), sl13⟩)
   (c13 : W.codeIn K cd13 "Journal.do_step" = true)
   (k13 : W.keepIn K (.ref f13) = true)
   (a14 : W.findIn K (.ref C_Journal) "step_on" = some (some (.ref f14)))
   (i14 : W.isFn K (.ref f14) = true)
   (l14 : K.lookup f14 = some ⟨oc14, od14, .func (W.fnOf "step_on" "Journal.step_on" (yQ s_Journal_step_on) (qw s_Journal_step_on) (qQ s_Journal_step_on) .none kV14 dc14 pm14 an14 cd14 ct14), sl14⟩)
   (c14 : W.codeIn K cd14 "Journal.step_on" = true)
   (k14 : W.keepIn K (.ref f14) = true)
   (a15 : W.findIn K (.ref C_Journal) "write" = some (some (.ref f15)))
   (i15 : W.isFn K (.ref f15) = true)
   (l15 : K.lookup f15 = some ⟨oc15, od15, .func (W.fnOf "write" "Journal.write" (yQ s_Journal_write) (qw s_Journal_write) (qQ s_Journal_write) .none kV15 dc15 pm15 an15 cd15 ct15), sl15⟩)
   (c15 : W.codeIn K cd15 "Journal.write" = true)
   (k15 : W.keepIn K (.ref f15) = true)
   (a16 : W.findIn K (.ref C_Journal) "trim" = some (some (.ref f16)))
   (i16 : W.isFn K (.ref f16) = true)
   (l16 : K.lookup f16 = some ⟨oc16, od16, .func (W.fnOf "trim" "Journal.trim" (yQ s_Journal_trim) (qw s_Journal_trim) (qQ s_Journal_trim) .none kV16 dc16 pm16 an16 cd16 ct16), sl16⟩)
   (c16 : W.codeIn K cd16 "Journal.trim" = true)
   (k16 : W.keepIn K (.ref f16) = true)
   (a17 : W.findIn K (.ref C_Journal) "trimmed_to" = some (some (.ref f17)))
   (i17 : W.isFn K (.ref f17) = true)
   (l17 : K.lookup f17 = some ⟨oc17, od17, .func (W.fnOf "trimmed_to" "Journal.trimmed_to" (yQ s_Journal_trimmed_to) (qw s_Journal_trimmed_to) (qQ s_Journal_trimmed_to) .none kV17 dc17 pm17 an17 cd17 ct17), sl17⟩)
   (c17 : W.codeIn K cd17 "Journal.trimmed_to" = true)
   (k17 : W.keepIn K (.ref f17) = true)
   (a18 : W.findIn K (.ref C_Journal) "kept" = some (some (.ref f18)))
   (i18 : W.isFn K (.ref f18) = true)
   (l18 : K.lookup f18 = some ⟨oc18, od18, .func (W.fnOf "kept" "Journal.kept" (yQ s_Journal_kept) (qw s_Journal_kept) (qQ s_Journal_kept) .none kV18 dc18 pm18 an18 cd18 ct18), sl18⟩)
   (c18 : W.codeIn K cd18 "Journal.kept" = true)
   (k18 : W.keepIn K (.ref f18) = true)
   (a19 : W.findIn K (.ref C_Journal) "last_at" = some (some (.ref f19)))
   (i19 : W.isFn K (.ref f19) = true)
   (l19 : K.lookup f19 = some ⟨oc19, od19, .func (W.fnOf "last_at" "Journal.last_at" (yQ s_Journal_last_at) (qw s_Journal_last_at) (qQ s_Journal_last_at) .none kV19 dc19 pm19 an19 cd19 ct19), sl19⟩)
   (c19 : W.codeIn K cd19 "Journal.last_at" = true)
   (k19 : W.keepIn K (.ref f19) = true)
   (a20 : W.findIn K (.ref C_Journal) "last" = some (some (.ref f20)))
   (i20 : W.isFn K (.ref f20) = true)
   (l20 : K.lookup f20 = some ⟨oc20, od20, .func (W.fnOf "last" "Journal.last" (yQ s_Journal_last) (qw s_Journal_last) (qQ s_Journal_last) .none kV20 dc20 pm20 an20 cd20 ct20), sl20⟩)
   (c20 : W.codeIn K cd20 "Journal.last" = true)
   (k20 : W.keepIn K (.ref f20) = true)
   (a21 : W.findIn K (.ref C_Journal) "counts" = some (some (.ref f21)))
   (i21 : W.isFn K (.ref f21) = true)
   (l21 : K.lookup f21 = some ⟨oc21, od21, .func (W.fnOf "counts" "Journal.counts" (yQ s_Journal_counts) (qw s_Journal_counts) (qQ s_Journal_counts) .none kV21 dc21 pm21 an21 cd21 ct21), sl21⟩)
   (c21 : W.codeIn K cd21 "Journal.counts" = true)
   (k21 : W.keepIn K (.ref f21) = true)
   (a22 : W.nsIn K mainGlobals "trimmed_journal" = some (some (.ref f22)))
   (l22 : K.lookup f22 = some ⟨oc22, od22, .func (W.fnOf "trimmed_journal" "trimmed_journal" (yQ s_trimmed_journal) (qw s_trimmed_journal) (qQ s_trimmed_journal) .none kV22 dc22 pm22 an22 cd22 ct22), sl22⟩)
   (c22 : W.codeIn K cd22 "trimmed_journal" = true)
   (k22 : W.keepIn K (.ref f22) = true)
   (a23 : W.nsIn K mainGlobals "frame_lines" = some (some (.ref f23)))
   (l23 : K.lookup f23 = some ⟨oc23, od23, .func (W.fnOf "frame_lines" "frame_lines" (yQ s_frame_lines) (qw s_frame_lines) (qQ s_frame_lines) .none kV23 dc23 pm23 an23 cd23 ct23), sl23⟩)
   (c23 : W.codeIn K cd23 "frame_lines" = true)
   (k23 : W.keepIn K (.ref f23) = true)
   (a24 : W.nsIn K mainGlobals "frame_text" = some (some (.ref f24)))
   (l24 : K.lookup f24 = some ⟨oc24, od24, .func (W.fnOf "frame_text" "frame_text" (yQ s_frame_text) (qw s_frame_text) (qQ s_frame_text) .none kV24 dc24 pm24 an24 cd24 ct24), sl24⟩)
   (c24 : W.codeIn K cd24 "frame_text" = true)
   (k24 : W.keepIn K (.ref f24) = true)
   (a25 : W.nsIn K mainGlobals "stream_text" = some (some (.ref f25)))
   (l25 : K.lookup f25 = some ⟨oc25, od25, .func (W.fnOf "stream_text" "stream_text" (yQ s_stream_text) (qw s_stream_text) (qQ s_stream_text) .none kV25 dc25 pm25 an25 cd25 ct25), sl25⟩)
   (c25 : W.codeIn K cd25 "stream_text" = true)
   (k25 : W.keepIn K (.ref f25) = true)
   (a26 : W.nsIn K mainGlobals "without_front" = some (some (.ref f26)))
   (l26 : K.lookup f26 = some ⟨oc26, od26, .func (W.fnOf "without_front" "without_front" (yQ s_without_front) (qw s_without_front) (qQ s_without_front) .none kV26 dc26 pm26 an26 cd26 ct26), sl26⟩)
   (c26 : W.codeIn K cd26 "without_front" = true)
   (k26 : W.keepIn K (.ref f26) = true)
   (a27 : W.nsIn K mainGlobals "number_in" = some (some (.ref f27)))
   (l27 : K.lookup f27 = some ⟨oc27, od27, .func (W.fnOf "number_in" "number_in" (yQ s_number_in) (qw s_number_in) (qQ s_number_in) .none kV27 dc27 pm27 an27 cd27 ct27), sl27⟩)
   (c27 : W.codeIn K cd27 "number_in" = true)
   (k27 : W.keepIn K (.ref f27) = true)
   (a28 : W.nsIn K mainGlobals "message_in" = some (some (.ref f28)))
   (l28 : K.lookup f28 = some ⟨oc28, od28, .func (W.fnOf "message_in" "message_in" (yQ s_message_in) (qw s_message_in) (qQ s_message_in) .none kV28 dc28 pm28 an28 cd28 ct28), sl28⟩)
   (c28 : W.codeIn K cd28 "message_in" = true)
   (k28 : W.keepIn K (.ref f28) = true)
   (a29 : W.findIn K (.ref C_Reader) "__init__" = some (some (.ref f29)))
   (i29 : W.isFn K (.ref f29) = true)
   (l29 : K.lookup f29 = some ⟨oc29, od29, .func (W.fnOf "__init__" "Reader.__init__" (yQ s_Reader___init__) (qw s_Reader___init__) (qQ s_Reader___init__) .none kV29 dc29 pm29 an29 cd29 ct29), sl29⟩)
   (c29 : W.codeIn K cd29 "Reader.__init__" = true)
   (k29 : W.keepIn K (.ref f29) = true)
   (a30 : W.findIn K (.ref C_Reader) "feed" = some (some (.ref f30)))
   (i30 : W.isFn K (.ref f30) = true)
   (l30 : K.lookup f30 = some ⟨oc30, od30, .func (W.fnOf "feed" "Reader.feed" (yQ s_Reader_feed) (qw s_Reader_feed) (qQ s_Reader_feed) .none kV30 dc30 pm30 an30 cd30 ct30), sl30⟩)
   (c30 : W.codeIn K cd30 "Reader.feed" = true)
   (k30 : W.keepIn K (.ref f30) = true)
   (a31 : W.nsIn K mainGlobals "read" = some (some (.ref f31)))
   (l31 : K.lookup f31 = some ⟨oc31, od31, .func (W.fnOf "read" "read" (yQ s_read) (qw s_read) (qQ s_read) .none kV31 dc31 pm31 an31 cd31 ct31), sl31⟩)
   (c31 : W.codeIn K cd31 "read" = true)
   (k31 : W.keepIn K (.ref f31) = true)
   (a32 : W.nsIn K mainGlobals "journal_text" = some (some (.ref f32)))
   (l32 : K.lookup f32 = some ⟨oc32, od32, .func (W.fnOf "journal_text" "journal_text" (yQ s_journal_text) (qw s_journal_text) (qQ s_journal_text) .none kV32 dc32 pm32 an32 cd32 ct32), sl32⟩)
   (c32 : W.codeIn K cd32 "journal_text" = true)
   (k32 : W.keepIn K (.ref f32) = true)
   (a33 : W.nsIn K mainGlobals "trim_number_in" = some (some (.ref f33)))
   (l33 : K.lookup f33 = some ⟨oc33, od33, .func (W.fnOf "trim_number_in" "trim_number_in" (yQ s_trim_number_in) (qw s_trim_number_in) (qQ s_trim_number_in) .none kV33 dc33 pm33 an33 cd33 ct33), sl33⟩)
   (c33 : W.codeIn K cd33 "trim_number_in" = true)
   (k33 : W.keepIn K (.ref f33) = true)
   (a34 : W.nsIn K mainGlobals "refuse_unfit" = some (some (.ref f34)))
   (l34 : K.lookup f34 = some ⟨oc34, od34, .func (W.fnOf "refuse_unfit" "refuse_unfit" (yQ s_refuse_unfit) (qw s_refuse_unfit) (qQ s_refuse_unfit) .none kV34 dc34 pm34 an34 cd34 ct34), sl34⟩)
   (c34 : W.codeIn K cd34 "refuse_unfit" = true)
   (k34 : W.keepIn K (.ref f34) = true)
   (a35 : W.nsIn K mainGlobals "read_journal" = some (some (.ref f35)))
   (l35 : K.lookup f35 = some ⟨oc35, od35, .func (W.fnOf "read_journal" "read_journal" (yQ s_read_journal) (qw s_read_journal) (qQ s_read_journal) .none kV35 dc35 pm35 an35 cd35 ct35), sl35⟩)
   (c35 : W.codeIn K cd35 "read_journal" = true)
   (k35 : W.keepIn K (.ref f35) = true)
   (a36 : W.nsIn K mainGlobals "_law_cell" = some (some (.ref f36)))
   (l36 : K.lookup f36 = some ⟨oc36, od36, .func (W.fnOf "_law_cell" "_law_cell" (yQ s_l_cell) (qw s_l_cell) (qQ s_l_cell) .none kV36 dc36 pm36 an36 cd36 ct36), sl36⟩)
   (c36 : W.codeIn K cd36 "_law_cell" = true)
   (k36 : W.keepIn K (.ref f36) = true)
   (a37 : W.nsIn K mainGlobals "_law_drawn" = some (some (.ref f37)))
   (l37 : K.lookup f37 = some ⟨oc37, od37, .func (W.fnOf "_law_drawn" "_law_drawn" (yQ s_l_drawn) (qw s_l_drawn) (qQ s_l_drawn) .none kV37 dc37 pm37 an37 cd37 ct37), sl37⟩)
   (c37 : W.codeIn K cd37 "_law_drawn" = true)
   (k37 : W.keepIn K (.ref f37) = true)
   (a38 : W.nsIn K mainGlobals "_law_said" = some (some (.ref f38)))
   (l38 : K.lookup f38 = some ⟨oc38, od38, .func (W.fnOf "_law_said" "_law_said" (yQ s_l_said) (qw s_l_said) (qQ s_l_said) .none kV38 dc38 pm38 an38 cd38 ct38), sl38⟩)
   (c38 : W.codeIn K cd38 "_law_said" = true)
   (k38 : W.keepIn K (.ref f38) = true)
   (a39 : W.nsIn K mainGlobals "_law_topic" = some (some (.ref f39)))
   (l39 : K.lookup f39 = some ⟨oc39, od39, .func (W.fnOf "_law_topic" "_law_topic" (yQ s_l_topic) (qw s_l_topic) (qQ s_l_topic) .none kV39 dc39 pm39 an39 cd39 ct39), sl39⟩)
   (c39 : W.codeIn K cd39 "_law_topic" = true)
   (k39 : W.keepIn K (.ref f39) = true)
   (a40 : W.nsIn K mainGlobals "_law_last" = some (some (.ref f40)))
   (l40 : K.lookup f40 = some ⟨oc40, od40, .func (W.fnOf "_law_last" "_law_last" (yQ s_l_last) (qw s_l_last) (qQ s_l_last) .none kV40 dc40 pm40 an40 cd40 ct40), sl40⟩)
   (c40 : W.codeIn K cd40 "_law_last" = true)
   (k40 : W.keepIn K (.ref f40) = true)
   (a41 : W.nsIn K mainGlobals "_law_refused" = some (some (.ref f41)))
   (l41 : K.lookup f41 = some ⟨oc41, od41, .func (W.fnOf "_law_refused" "_law_refused" (yQ s_l_refused) (qw s_l_refused) (qQ s_l_refused) .none kV41 dc41 pm41 an41 cd41 ct41), sl41⟩)
   (c41 : W.codeIn K cd41 "_law_refused" = true)
   (k41 : W.keepIn K (.ref f41) = true)
   (a42 : W.nsIn K mainGlobals "_law_told" = some (some (.ref f42)))
   (l42 : K.lookup f42 = some ⟨oc42, od42, .func (W.fnOf "_law_told" "_law_told" (yQ s_l_told) (qw s_l_told) (qQ s_l_told) .none kV42 dc42 pm42 an42 cd42 ct42), sl42⟩)
   (c42 : W.codeIn K cd42 "_law_told" = true)
   (k42 : W.keepIn K (.ref f42) = true)
   (a43 : W.nsIn K mainGlobals "_law_frames" = some (some (.ref f43)))
   (l43 : K.lookup f43 = some ⟨oc43, od43, .func (W.fnOf "_law_frames" "_law_frames" (yQ s_l_frames) (qw s_l_frames) (qQ s_l_frames) .none kV43 dc43 pm43 an43 cd43 ct43), sl43⟩)
   (c43 : W.codeIn K cd43 "_law_frames" = true)
   (k43 : W.keepIn K (.ref f43) = true)
   (a44 : W.nsIn K mainGlobals "_law_refuses" = some (some (.ref f44)))
   (l44 : K.lookup f44 = some ⟨oc44, od44, .func (W.fnOf "_law_refuses" "_law_refuses" (yQ s_l_refuses) (qw s_l_refuses) (qQ s_l_refuses) .none kV44 dc44 pm44 an44 cd44 ct44), sl44⟩)
   (c44 : W.codeIn K cd44 "_law_refuses" = true)
   (k44 : W.keepIn K (.ref f44) = true)
   (a45 : W.nsIn K mainGlobals "law" = some (some (.ref f45)))
   (l45 : K.lookup f45 = some ⟨oc45, od45, .func (W.fnOf "law" "law" (yQ s_law) (qw s_law) (qQ s_law) .none kV45 dc45 pm45 an45 cd45 ct45), sl45⟩)
   (c45 : W.codeIn K cd45 "law" = true)
   (k45 : W.keepIn K (.ref f45) = true)
   (z0 : W.nsIn K mainGlobals "isinstance" = some none)
   (z1 : W.nsIn K mainGlobals "int" = some none)
   (z2 : W.nsIn K mainGlobals "bool" = some none)
   (z3 : W.nsIn K mainGlobals "str" = some none)
   (z4 : W.nsIn K mainGlobals "tuple" = some none)
   (z5 : W.nsIn K mainGlobals "all" = some none)
   (z6 : W.nsIn K mainGlobals "len" = some none)
   (z7 : W.nsIn K mainGlobals "range" = some none)
   (z8 : W.nsIn K mainGlobals "list" = some none)
   (z9 : W.nsIn K mainGlobals "sorted" = some none)
   (z10 : W.nsIn K mainGlobals "set" = some none)
   (z11 : W.nsIn K mainGlobals "max" = some none)
   (z12 : W.nsIn K mainGlobals "ValueError" = some none)
   (y0 : W.nsIn K mainGlobals "LETTERS" = some (some (.str "abcdefghijklmnopqrstuvwxyz" tk0)))
   (y1 : W.nsIn K mainGlobals "TEXT_SIGNS" = some (some (.str "abcdefghijklmnopqrstuvwxyz \n" tk1)))
   (y2 : W.nsIn K mainGlobals "GREATEST_NUMBER" = some (some (.int 999999 tk2)))
   (y3 : W.nsIn K mainGlobals "LONGEST_TOPIC" = some (some (.int 3 tk3)))
   (y4 : W.nsIn K mainGlobals "LONGEST_TEXT" = some (some (.int 8 tk4)))
   (y5 : W.nsIn K mainGlobals "DIGITS" = some (some (.str "0123456789" tk5)))
   (y6 : W.nsIn K mainGlobals "NUMBER_FRONT" = some (some (.str "id: " tk6)))
   (y7 : W.nsIn K mainGlobals "TOPIC_FRONT" = some (some (.str "topic: " tk7)))
   (y8 : W.nsIn K mainGlobals "TEXT_FRONT" = some (some (.str "data: " tk8)))
   (y9 : W.nsIn K mainGlobals "LEFT_OUT_FRONT" = some (some (.str ":" tk9)))
   (y10 : W.nsIn K mainGlobals "TRIM_FRONT" = some (some (.str "trim: " tk10)))
   (y11 : W.nsIn K mainGlobals "ON_LINE" = some (some (.str "on\n" tk11)))
   : ∃ fd : FuncData, (∀ (s : Shared) (v : Value), BindsTo s fd ⟨[v], []⟩ [("_law_script", v)]) ∧ ∀ base : Heap, K.In base → base.Ns mainGlobals mg → FnOk l.prog w K mg base CX0 10 fa fd ["_law_script"] (spLaw K) := by
 have e := hfa.symm.trans (W.mg_of X G a45)
 cases e
 have T : Txt mg := { b_isinstance := W.mg_none_of X G z0, b_int := W.mg_none_of X G z1, b_bool := W.mg_none_of X G z2, b_str := W.mg_none_of X G z3, b_tuple := W.mg_none_of X G z4, b_all := W.mg_none_of X G z5, b_len := W.mg_none_of X G z6, b_range := W.mg_none_of X G z7, b_list := W.mg_none_of X G z8, b_sorted := W.mg_none_of X G z9, b_set := W.mg_none_of X G z10, b_max := W.mg_none_of X G z11, b_ValueError := W.mg_none_of X G z12, g_LETTERS := ⟨_, W.mg_of X G y0, _, rfl⟩, g_TEXT_SIGNS := ⟨_, W.mg_of X G y1, _, rfl⟩, g_GREATEST_NUMBER := ⟨_, W.mg_of X G y2, _, rfl⟩, g_LONGEST_TOPIC := ⟨_, W.mg_of X G y3, _, rfl⟩, g_LONGEST_TEXT := ⟨_, W.mg_of X G y4, _, rfl⟩, g_DIGITS := ⟨_, W.mg_of X G y5, _, rfl⟩, g_NUMBER_FRONT := ⟨_, W.mg_of X G y6, _, rfl⟩, g_TOPIC_FRONT := ⟨_, W.mg_of X G y7, _, rfl⟩, g_TEXT_FRONT := ⟨_, W.mg_of X G y8, _, rfl⟩, g_LEFT_OUT_FRONT := ⟨_, W.mg_of X G y9, _, rfl⟩, g_TRIM_FRONT := ⟨_, W.mg_of X G y10, _, rfl⟩, g_ON_LINE := ⟨_, W.mg_of X G y11, _, rfl⟩ }
 have R_Journal : JournalC K mg C_Journal := { cl_Journal := ⟨pg_Journal, hd_Journal, po_Journal, sa_Journal⟩, mg_Journal := W.mg_of X G aC_Journal, n_ground := n_Journal_ground, n_ground_ones := n_Journal_ground_ones, n_row := n_Journal_row, n_trimmed := n_Journal_trimmed, n_steps := n_Journal_steps, n_steps_back := n_Journal_steps_back }
 have R_Reader : ReaderC K mg C_Reader := { cl_Reader := ⟨pg_Reader, hd_Reader, po_Reader, sa_Reader⟩, mg_Reader := W.mg_of X G aC_Reader, n_line_begun := n_Reader_line_begun, n_lines_begun := n_Reader_lines_begun }
 have TC : TxtC K mg C_Journal C_Reader := ⟨R_Journal, R_Reader⟩
 have TX : TxtX K mg CT CX CN := { a_TellError := W.mg_of X G aX_TellError, a_NoText := W.mg_of X G aX_NoText, a_NoNumber := W.mg_of X G aX_NoNumber, z := ⟨xga_z, xcl_z, xno_z, xob_z, xbe_z, xhd_z⟩, iN := x_iN, iV := x_iV, em := x_em, oJ := ⟨C_Journal, W.mg_of X G aC_Journal, ⟨xoc_oJ, xos_oJ, xot_oJ, xom_oJ, xon_oJ⟩⟩ }
 have xc_NoNumber : Exc K mg "NoNumber" CN := ⟨W.mg_of X G aX_NoNumber, xe_NoNumber⟩
 have xc_NoText : Exc K mg "NoText" CX := ⟨W.mg_of X G aX_NoText, xe_NoText⟩
 have F0 := yU (st := s_number_of) l0 c0 k0
 have b0 := F0.binds (ps := ["message"]) fun _ _ _ _ _ _ us hl => match us, hl with | [_], _ => rfl
 have F1 := yU (st := s_topic_of) l1 c1 k1
 have b1 := F1.binds (ps := ["message"]) fun _ _ _ _ _ _ us hl => match us, hl with | [_], _ => rfl
 have F2 := yU (st := s_text_of) l2 c2 k2
 have b2 := F2.binds (ps := ["message"]) fun _ _ _ _ _ _ us hl => match us, hl with | [_], _ => rfl
 have F3 := yU (st := s_is_whole) l3 c3 k3
 have b3 := F3.binds (ps := ["thing"]) fun _ _ _ _ _ _ us hl => match us, hl with | [_], _ => rfl
 have F4 := yU (st := s_is_number) l4 c4 k4
 have b4 := F4.binds (ps := ["thing"]) fun _ _ _ _ _ _ us hl => match us, hl with | [_], _ => rfl
 have F5 := yU (st := s_has_only) l5 c5 k5
 have b5 := F5.binds (ps := ["text", "signs"]) fun _ _ _ _ _ _ us hl => match us, hl with | [_, _], _ => rfl
 have F6 := yU (st := s_is_topic) l6 c6 k6
 have b6 := F6.binds (ps := ["thing"]) fun _ _ _ _ _ _ us hl => match us, hl with | [_], _ => rfl
 have F7 := yU (st := s_is_text) l7 c7 k7
 have b7 := F7.binds (ps := ["thing"]) fun _ _ _ _ _ _ us hl => match us, hl with | [_], _ => rfl
 have F8 := yU (st := s_is_message) l8 c8 k8
 have b8 := F8.binds (ps := ["thing"]) fun _ _ _ _ _ _ us hl => match us, hl with | [_], _ => rfl
 have F9 := yU (st := s_last_ones) l9 c9 k9
 have b9 := F9.binds (ps := ["messages"]) fun _ _ _ _ _ _ us hl => match us, hl with | [_], _ => rfl
 have F10 := yU (st := s_Journal___init__) l10 c10 k10
 have b10 := F10.binds (ps := ["self"]) fun _ _ _ _ _ _ us hl => match us, hl with | [_], _ => rfl
 have F11 := yU (st := s_Journal_told) l11 c11 k11
 have b11 := F11.binds (ps := ["self"]) fun _ _ _ _ _ _ us hl => match us, hl with | [_], _ => rfl
 have F12 := yU (st := yD) l12 c12 k12
 have b12 := F12.binds (ps := ["self", "number"]) fun _ _ _ _ _ _ us hl => match us, hl with | [_, _], _ => rfl
 have F13 := yU (st := s_Journal_do_step) l13 c13 k13
 have b13 := F13.binds (ps := ["self", "step"]) fun _ _ _ _ _ _ us hl => match us, hl with | [_, _], _ => rfl
 have F14 := yU (st := s_Journal_step_on) l14 c14 k14
 have b14 := F14.binds (ps := ["self", "step"]) fun _ _ _ _ _ _ us hl => match us, hl with | [_, _], _ => rfl
 have F15 := yU (st := s_Journal_write) l15 c15 k15
 have b15 := F15.binds (ps := ["self", "topic", "text"]) fun _ _ _ _ _ _ us hl => match us, hl with | [_, _, _], _ => rfl
 have F16 := yU (st := s_Journal_trim) l16 c16 k16
 have b16 := F16.binds (ps := ["self", "number"]) fun _ _ _ _ _ _ us hl => match us, hl with | [_, _], _ => rfl
 have F17 := yU (st := s_Journal_trimmed_to) l17 c17 k17
 have b17 := F17.binds (ps := ["self"]) fun _ _ _ _ _ _ us hl => match us, hl with | [_], _ => rfl
 have F18 := yU (st := s_Journal_kept) l18 c18 k18
 have b18 := F18.binds (ps := ["self"]) fun _ _ _ _ _ _ us hl => match us, hl with | [_], _ => rfl
 have F19 := yU (st := s_Journal_last_at) l19 c19 k19
 have b19 := F19.binds (ps := ["self", "number"]) fun _ _ _ _ _ _ us hl => match us, hl with | [_, _], _ => rfl
 have F20 := yU (st := s_Journal_last) l20 c20 k20
 have b20 := F20.binds (ps := ["self"]) fun _ _ _ _ _ _ us hl => match us, hl with | [_], _ => rfl
 have F21 := yU (st := s_Journal_counts) l21 c21 k21
 have b21 := F21.binds (ps := ["self"]) fun _ _ _ _ _ _ us hl => match us, hl with | [_], _ => rfl
 have F22 := yU (st := s_trimmed_journal) l22 c22 k22
 have b22 := F22.binds (ps := ["number", "ones", "kept"]) fun _ _ _ _ _ _ us hl => match us, hl with | [_, _, _], _ => rfl
 have F23 := yU (st := s_frame_lines) l23 c23 k23
 have b23 := F23.binds (ps := ["message"]) fun _ _ _ _ _ _ us hl => match us, hl with | [_], _ => rfl
 have F24 := yU (st := s_frame_text) l24 c24 k24
 have b24 := F24.binds (ps := ["message"]) fun _ _ _ _ _ _ us hl => match us, hl with | [_], _ => rfl
 have F25 := yU (st := s_stream_text) l25 c25 k25
 have b25 := F25.binds (ps := ["messages"]) fun _ _ _ _ _ _ us hl => match us, hl with | [_], _ => rfl
 have F26 := yU (st := s_without_front) l26 c26 k26
 have b26 := F26.binds (ps := ["line", "front"]) fun _ _ _ _ _ _ us hl => match us, hl with | [_, _], _ => rfl
 have F27 := yU (st := s_number_in) l27 c27 k27
 have b27 := F27.binds (ps := ["text"]) fun _ _ _ _ _ _ us hl => match us, hl with | [_], _ => rfl
 have F28 := yU (st := s_message_in) l28 c28 k28
 have b28 := F28.binds (ps := ["lines"]) fun _ _ _ _ _ _ us hl => match us, hl with | [_], _ => rfl
 have F29 := yU (st := s_Reader___init__) l29 c29 k29
 have b29 := F29.binds (ps := ["self"]) fun _ _ _ _ _ _ us hl => match us, hl with | [_], _ => rfl
 have F30 := yU (st := s_Reader_feed) l30 c30 k30
 have b30 := F30.binds (ps := ["self", "piece"]) fun _ _ _ _ _ _ us hl => match us, hl with | [_, _], _ => rfl
 have F31 := yU (st := s_read) l31 c31 k31
 have b31 := F31.binds (ps := ["text"]) fun _ _ _ _ _ _ us hl => match us, hl with | [_], _ => rfl
 have F32 := yU (st := s_journal_text) l32 c32 k32
 have b32 := F32.binds (ps := ["journal"]) fun _ _ _ _ _ _ us hl => match us, hl with | [_], _ => rfl
 have F33 := yU (st := s_trim_number_in) l33 c33 k33
 have b33 := F33.binds (ps := ["text"]) fun _ _ _ _ _ _ us hl => match us, hl with | [_], _ => rfl
 have F34 := yU (st := s_refuse_unfit) l34 c34 k34
 have b34 := F34.binds (ps := ["number", "ones", "kept"]) fun _ _ _ _ _ _ us hl => match us, hl with | [_, _, _], _ => rfl
 have F35 := yU (st := s_read_journal) l35 c35 k35
 have b35 := F35.binds (ps := ["text"]) fun _ _ _ _ _ _ us hl => match us, hl with | [_], _ => rfl
 have F36 := yU (st := s_l_cell) l36 c36 k36
 have b36 := F36.binds (ps := ["_law_script", "_law_k"]) fun _ _ _ _ _ _ us hl => match us, hl with | [_, _], _ => rfl
 have F37 := yU (st := s_l_drawn) l37 c37 k37
 have b37 := F37.binds (ps := ["_law_script", "_law_k", "_law_many"]) fun _ _ _ _ _ _ us hl => match us, hl with | [_, _, _], _ => rfl
 have F38 := yU (st := s_l_said) l38 c38 k38
 have b38 := F38.binds (ps := ["_law_script", "_law_at"]) fun _ _ _ _ _ _ us hl => match us, hl with | [_, _], _ => rfl
 have F39 := yU (st := s_l_topic) l39 c39 k39
 have b39 := F39.binds (ps := ["_law_script", "_law_at"]) fun _ _ _ _ _ _ us hl => match us, hl with | [_, _], _ => rfl
 have F40 := yU (st := s_l_last) l40 c40 k40
 have b40 := F40.binds (ps := ["_law_messages"]) fun _ _ _ _ _ _ us hl => match us, hl with | [_], _ => rfl
 have F41 := yU (st := s_l_refused) l41 c41 k41
 have b41 := F41.binds (ps := ["_law_e"]) fun _ _ _ _ _ _ us hl => match us, hl with | [_], _ => rfl
 have F42 := yU (st := s_l_told) l42 c42 k42
 have b42 := F42.binds (ps := ["_law_text"]) fun _ _ _ _ _ _ us hl => match us, hl with | [_], _ => rfl
 have F43 := yU (st := s_l_frames) l43 c43 k43
 have b43 := F43.binds (ps := ["_law_messages"]) fun _ _ _ _ _ _ us hl => match us, hl with | [_], _ => rfl
 have F44 := yU (st := s_l_refuses) l44 c44 k44
 have b44 := F44.binds (ps := []) fun _ _ _ _ _ _ us hl => match us, hl with | [], _ => rfl
 have F45 := yU (st := s_law) l45 c45 k45
 refine ⟨W.fnOf "law" "law" (yQ s_law) (qw s_law) (qQ s_law) .none kV45 dc45 pm45 an45 cd45 ct45, fun s v => .of_eq rfl, fun base _ _ => ?_⟩
 have C0 : Callee l.prog w K mg base 1 "number_of" ["message"] (spItem 0) := ⟨_, _, ok_number_of F0 , W.mg_of X G a0, k0, b0⟩
 have C1 : Callee l.prog w K mg base 1 "topic_of" ["message"] (spItem 1) := ⟨_, _, ok_topic_of F1 , W.mg_of X G a1, k1, b1⟩
 have C2 : Callee l.prog w K mg base 1 "text_of" ["message"] (spItem 2) := ⟨_, _, ok_text_of F2 , W.mg_of X G a2, k2, b2⟩
 have C3 : Callee l.prog w K mg base 1 "is_whole" ["thing"] (spLook (fun _ => True) isWhole) := ⟨_, _, ok_is_whole F3 T, W.mg_of X G a3, k3, b3⟩
 have C4 : Callee l.prog w K mg base 2 "is_number" ["thing"] (spLook (fun _ => True) isNum) := ⟨_, _, ok_is_number F4 T C3, W.mg_of X G a4, k4, b4⟩
 have C5 : Callee l.prog w K mg base 1 "has_only" ["text", "signs"] (spOnly) := ⟨_, _, ok_has_only F5 T, W.mg_of X G a5, k5, b5⟩
 have C6 : Callee l.prog w K mg base 2 "is_topic" ["thing"] (spLook fit1 isTop) := ⟨_, _, ok_is_topic F6 T C5, W.mg_of X G a6, k6, b6⟩
 have C7 : Callee l.prog w K mg base 2 "is_text" ["thing"] (spLook fit1 isTxt) := ⟨_, _, ok_is_text F7 T C5, W.mg_of X G a7, k7, b7⟩
 have C8 : Callee l.prog w K mg base 3 "is_message" ["thing"] (spLook fitT isMsg) := ⟨_, _, ok_is_message F8 T C0 C1 C2 C4 C6 C7, W.mg_of X G a8, k8, b8⟩
 have C9 : Callee l.prog w K mg base 4 "last_ones" ["messages"] (spLast) := ⟨_, _, ok_last_ones F9 T C0 C1, W.mg_of X G a9, k9, b9⟩
 have C10 : CalleeI l.prog w K mg base 1 C_Journal ["self"] (spInitJ C_Journal) := ⟨_, _, ok_Journal_init F10 R_Journal, ⟨mk_Journal, a10, i10, kc_Journal⟩, b10⟩
 have C11 : CalleeM l.prog w K mg base 1 C_Journal "told" ["self"] (spToldJ C_Journal) := ⟨_, _, ok_Journal_told F11 T R_Journal, ⟨a11, i11, k11⟩, b11⟩
 have C12 : CalleeMX l.prog w K mg base 2 C_Journal "refuse_unknown" ["self", "number"] (spUnkX C_Journal CN) := ⟨_, _, okx_Journal_refuse_unknown F12 R_Journal xc_NoNumber C11, ⟨a12, i12, k12⟩, b12⟩
 have C13 : CalleeM l.prog w K mg base 1 C_Journal "do_step" ["self", "step"] (spDoJ C_Journal) := ⟨_, _, ok_Journal_do_step F13 R_Journal, ⟨a13, i13, k13⟩, b13⟩
 have C14 : CalleeM l.prog w K mg base 2 C_Journal "step_on" ["self", "step"] (spOnJ C_Journal) := ⟨_, _, ok_Journal_step_on F14 R_Journal C13, ⟨a14, i14, k14⟩, b14⟩
 have C15 : CalleeM l.prog w K mg base 3 C_Journal "write" ["self", "topic", "text"] (spWriteJ C_Journal) := ⟨_, _, ok_Journal_write F15 R_Journal C11 C14, ⟨a15, i15, k15⟩, b15⟩
 have C16 : CalleeMX l.prog w K mg base 3 C_Journal "trim" ["self", "number"] (spTrimX C_Journal CN) := ⟨_, _, okx_Journal_trim F16 R_Journal C12 C14, ⟨a16, i16, k16⟩, b16⟩
 have C17 : CalleeM l.prog w K mg base 1 C_Journal "trimmed_to" ["self"] (spTrTo C_Journal) := ⟨_, _, ok_Journal_trimmed_to F17 R_Journal, ⟨a17, i17, k17⟩, b17⟩
 have C18 : CalleeM l.prog w K mg base 1 C_Journal "kept" ["self"] (spKeptJ C_Journal) := ⟨_, _, ok_Journal_kept F18 R_Journal, ⟨a18, i18, k18⟩, b18⟩
 have C19 : CalleeM l.prog w K mg base 5 C_Journal "last_at" ["self", "number"] (spLastAtJ C_Journal) := ⟨_, _, ok_Journal_last_at F19 R_Journal C9, ⟨a19, i19, k19⟩, b19⟩
 have C20 : CalleeM l.prog w K mg base 6 C_Journal "last" ["self"] (spLastJ C_Journal) := ⟨_, _, ok_Journal_last F20 R_Journal C11 C19, ⟨a20, i20, k20⟩, b20⟩
 have C21 : CalleeM l.prog w K mg base 1 C_Journal "counts" ["self"] (spCountsJ C_Journal) := ⟨_, _, ok_Journal_counts F21 T R_Journal, ⟨a21, i21, k21⟩, b21⟩
 have C22 : Callee l.prog w K mg base 3 "trimmed_journal" ["number", "ones", "kept"] (spTrimmedJ C_Journal) := ⟨_, _, ok_trimmed_journal F22 T R_Journal C10, W.mg_of X G a22, k22, b22⟩
 have C23 : Callee l.prog w K mg base 2 "frame_lines" ["message"] (spFrL) := ⟨_, _, ok_frame_lines F23 T C0 C1 C2, W.mg_of X G a23, k23, b23⟩
 have C24 : Callee l.prog w K mg base 3 "frame_text" ["message"] (spFrT) := ⟨_, _, ok_frame_text F24 T C23, W.mg_of X G a24, k24, b24⟩
 have C25 : Callee l.prog w K mg base 4 "stream_text" ["messages"] (spSmT) := ⟨_, _, ok_stream_text F25 T C24, W.mg_of X G a25, k25, b25⟩
 have C26 : CalleeX l.prog w K mg base 1 "without_front" ["line", "front"] (spWFX CX) := ⟨_, _, okx_without_front F26 T xc_NoText, W.mg_of X G a26, k26, b26⟩
 have C27 : CalleeX l.prog w K mg base 2 "number_in" ["text"] (spNInX CX) := ⟨_, _, okx_number_in F27 T xc_NoText C5, W.mg_of X G a27, k27, b27⟩
 have C28 : CalleeX l.prog w K mg base 4 "message_in" ["lines"] (spMInX CX) := ⟨_, _, okx_message_in F28 T xc_NoText C27 C26 C8, W.mg_of X G a28, k28, b28⟩
 have C29 : CalleeI l.prog w K mg base 1 C_Reader ["self"] (spDInit C_Reader) := ⟨_, _, ok_Reader_init F29 R_Reader, ⟨mk_Reader, a29, i29, kc_Reader⟩, b29⟩
 have C30 : CalleeMX l.prog w K mg base 5 C_Reader "feed" ["self", "piece"] (spFeedX C_Reader CX) := ⟨_, _, okx_Reader_feed F30 T R_Reader C28, ⟨a30, i30, k30⟩, b30⟩
 have C31 : CalleeX l.prog w K mg base 6 "read" ["text"] (spReadX CX) := ⟨_, _, okx_read F31 R_Reader xc_NoText C29 C30 C25, W.mg_of X G a31, k31, b31⟩
 have C32 : Callee l.prog w K mg base 6 "journal_text" ["journal"] (spJText C_Journal) := ⟨_, _, ok_journal_text F32 T R_Journal C17 C19 C18 C25, W.mg_of X G a32, k32, b32⟩
 have C33 : CalleeX l.prog w K mg base 3 "trim_number_in" ["text"] (spTNX CX) := ⟨_, _, okx_trim_number_in F33 C27, W.mg_of X G a33, k33, b33⟩
 have C34 : CalleeX l.prog w K mg base 2 "refuse_unfit" ["number", "ones", "kept"] (spUnfit CX) := ⟨_, _, okx_refuse_unfit F34 T xc_NoText C0, W.mg_of X G a34, k34, b34⟩
 have C35 : CalleeX l.prog w K mg base 7 "read_journal" ["text"] (spReadJX C_Journal CX) := ⟨_, _, okx_read_journal F35 T xc_NoText C33 C26 C31 C34 C22 C32, W.mg_of X G a35, k35, b35⟩
 have C36 : Callee l.prog w K mg base 1 "_law_cell" ["_law_script", "_law_k"] (spCell K) := ⟨_, _, ok_l_cell F36 T, W.mg_of X G a36, k36, b36⟩
 have C37 : Callee l.prog w K mg base 2 "_law_drawn" ["_law_script", "_law_k", "_law_many"] (spDrawn K) := ⟨_, _, ok_l_drawn F37 T C36, W.mg_of X G a37, k37, b37⟩
 have C38 : Callee l.prog w K mg base 3 "_law_said" ["_law_script", "_law_at"] (spSaid K) := ⟨_, _, ok_l_said F38 T C37, W.mg_of X G a38, k38, b38⟩
 have C39 : Callee l.prog w K mg base 3 "_law_topic" ["_law_script", "_law_at"] (spTopicF K) := ⟨_, _, ok_l_topic F39 C37, W.mg_of X G a39, k39, b39⟩
 have C40 : Callee l.prog w K mg base 1 "_law_last" ["_law_messages"] (spLLast) := ⟨_, _, ok_l_last F40 T, W.mg_of X G a40, k40, b40⟩
 have C41 : CalleeH l.prog w K mg base 1 "_law_refused" ["_law_e"] (spRefused CX) := ⟨_, _, ok_l_refused F41 T TX, W.mg_of X G a41, k41, b41⟩
 have C42 : Callee l.prog w K mg base 8 "_law_told" ["_law_text"] (spToldR C_Journal) := ⟨_, _, ok_l_told F42 TX C41 C35, W.mg_of X G a42, k42, b42⟩
 have C43 : Callee l.prog w K mg base 1 "_law_frames" ["_law_messages"] (spFrames) := ⟨_, _, ok_l_frames F43 T, W.mg_of X G a43, k43, b43⟩
 have C44 : Callee l.prog w K mg base 9 "_law_refuses" [] (spRefuses) := ⟨_, _, ok_l_refuses F44 T R_Journal C42 C11, W.mg_of X G a44, k44, b44⟩
 exact ok_law F45 T TC TX C37 C38 C39 C40 C43 C42 C44 C32 C10 C15 C11 C16 C18 C20 C21
theorem walk {l : W.OpenLaw} {q : Program} {loose : List Str} {XP : (Str → Option Value) → Heap → Prop} {YP : World → Heap → Prop} {d : DefRec} {K : Params → W.Frag} (hn : l.most = some 63) (hdf : d.params.defaults = [])
   (hY : ∀ (w : World) (h : Heap), YP w h → (K w.params).In h)
   (F : ∀ (w : World) (mg : Str → Option Value) (fa : Addr) (h : Heap), (K w.params).In h → h.Ns mainGlobals mg → mg d.name = some (.ref fa) →
     ∃ fd : FuncData, (∀ (s : Shared) (u : Value), BindsTo s fd ⟨[u], []⟩ [("_law_script", u)]) ∧ ∀ base : Heap, (K w.params).In base → base.Ns mainGlobals mg → FnOk l.prog w (K w.params) mg base CX0 10 fa fd ["_law_script"] (spLaw (K w.params))) :
   W.WalkO q loose XP YP l.row.toRowW d [] (fun f vs => PySem.call f vs) :=
 L2.walk_of (n := 63) (k := 10) (x := "_law_script") (CX := fun _ => CX0) (sp := fun w => spLaw (K w.params)) hn (by decide) hdf ⟨rfl, by decide, by decide⟩ hY F (fun _ _ a ns hl _ hS => ⟨a, ns, rfl, hS, hl, fun _ => rfl⟩) fun _ _ _ _ _ z => z
end K86
def PySem.W.Fast.tw615596252074362632 : Unit := ()
def PySem.W.Fast.tw4957708424295415043 : Unit := ()
def PySem.W.Fast.tw14032590303723303551 : Unit := ()
def PySem.W.Fast.tw9534817350262488702 : Unit := ()
def PySem.W.Fast.tw5403779727469894203 : Unit := ()
def PySem.W.Fast.tw8134086524727977562 : Unit := ()
def PySem.W.Fast.tw74129817422580347 : Unit := ()
def PySem.W.Fast.tw3641153928377385895 : Unit := ()
def PySem.W.Fast.tw11576585962464946282 : Unit := ()
def PySem.W.Fast.tw9242531673336782456 : Unit := ()
def PySem.W.Fast.tw15007967650208265200 : Unit := ()
open PySem PySem.W PyProof.Rows
set_option maxRecDepth 100000 in
set_option maxHeartbeats 0 in
theorem PySem.Challenge.cw_tellroads_k86_journal_texts_holds : PySem.Challenge.rw_tellroads_k86_journal_texts.Holds := by
 w_on; o_law; k_head; (case hw => w_witness2)
 k_fill
 refine K86.walk (l := PySem.Challenge.rw_tellroads_k86_journal_texts) rfl rfl (fun w h Y => W.kIn_of Y) ?F
 case F =>
   intro w mg fa h KX G hmg
   refine' K86.all_mk KX G hmg ?aX_TellError ?aX_NoText ?aX_NoNumber ?xe_NoNumber ?xe_NoText ?xga_z ?xcl_z ?xno_z ?xob_z ?xbe_z ?xhd_z ?x_iN ?x_iV ?x_em ?xoc_oJ ?xos_oJ ?xot_oJ ?xom_oJ ?xon_oJ ?aC_Journal ?pg_Journal ?hd_Journal ?po_Journal ?sa_Journal ?mk_Journal ?kc_Journal ?n_Journal_ground ?n_Journal_ground_ones ?n_Journal_row ?n_Journal_trimmed ?n_Journal_steps ?n_Journal_steps_back ?aC_Reader ?pg_Reader ?hd_Reader ?po_Reader ?sa_Reader ?mk_Reader ?kc_Reader ?n_Reader_line_begun ?n_Reader_lines_begun ?a0 ?l0 ?c0 ?k0 ?a1 ?l1 ?c1 ?k1 ?a2 ?l2 ?c2 ?k2 ?a3 ?l3 ?c3 ?k3 ?a4 ?l4 ?c4 ?k4 ?a5 ?l5 ?c5 ?k5 ?a6 ?l6 ?c6 ?k6 ?a7 ?l7 ?c7 ?k7 ?a8 ?l8 ?c8 ?k8 ?a9 ?l9 ?c9 ?k9 ?a10 ?i10 ?l10 ?c10 ?k10 ?a11 ?i11 ?l11 ?c11 ?k11 ?a12 ?i12 ?l12 ?c12 ?k12 ?a13 ?i13 ?l13 ?c13 ?k13 ?a14 ?i14 ?l14 ?c14 ?k14 ?a15 ?i15 ?l15 ?c15 ?k15 ?a16 ?i16 ?l16 ?c16 ?k16 ?a17 ?i17 ?l17 ?c17 ?k17 ?a18 ?i18 ?l18 ?c18 ?k18 ?a19 ?i19 ?l19 ?c19 ?k19 ?a20 ?i20 ?l20 ?c20 ?k20 ?a21 ?i21 ?l21 ?c21 ?k21 ?a22 ?l22 ?c22 ?k22 ?a23 ?l23 ?c23 ?k23 ?a24 ?l24 ?c24 ?k24 ?a25 ?l25 ?c25 ?k25 ?a26 ?l26 ?c26 ?k26 ?a27 ?l27 ?c27 ?k27 ?a28 ?l28 ?c28 ?k28 ?a29 ?i29 ?l29 ?c29 ?k29 ?a30 ?i30 ?l30 ?c30 ?k30 ?a31 ?l31 ?c31 ?k31 ?a32 ?l32 ?c32 ?k32 ?a33 ?l33 ?c33 ?k33 ?a34 ?l34 ?c34 ?k34 ?a35 ?l35 ?c35 ?k35 ?a36 ?l36 ?c36 ?k36 ?a37 ?l37 ?c37 ?k37 ?a38 ?l38 ?c38 ?k38 ?a39 ?l39 ?c39 ?k39 ?a40 ?l40 ?c40 ?k40 ?a41 ?l41 ?c41 ?k41 ?a42 ?l42 ?c42 ?k42 ?a43 ?l43 ?c43 ?k43 ?a44 ?l44 ?c44 ?k44 ?a45 ?l45 ?c45 ?k45 ?z0 ?z1 ?z2 ?z3 ?z4 ?z5 ?z6 ?z7 ?z8 ?z9 ?z10 ?z11 ?z12 ?y0 ?y1 ?y2 ?y3 ?y4 ?y5 ?y6 ?y7 ?y8 ?y9 ?y10 ?y11
   (case aX_TellError => k_is)
   (case aX_NoText => k_is)
   (case aX_NoNumber => k_is)
   (case xe_NoNumber => k_exc)
   (case xe_NoText => k_exc)
   (case xga_z => k_is)
   (case xcl_z => k_is)
   (case xno_z => k_is)
   (case xob_z => k_is)
   (case xbe_z => k_is)
   (case xhd_z => k_is)
   (case x_iN => kit_is)
   (case x_iV => kit_is)
   (case x_em => kts_exm)
   (case aC_Journal => k_is)
   (case pg_Journal => k_is)
   (case hd_Journal => k_is)
   (case po_Journal => k_is)
   (case sa_Journal => k_is)
   (case mk_Journal => k_is)
   (case kc_Journal => k_is)
   (case n_Journal_ground => k_is)
   (case n_Journal_ground_ones => k_is)
   (case n_Journal_row => k_is)
   (case n_Journal_trimmed => k_is)
   (case n_Journal_steps => k_is)
   (case n_Journal_steps_back => k_is)
   (case aC_Reader => k_is)
   (case pg_Reader => k_is)
   (case hd_Reader => k_is)
   (case po_Reader => k_is)
   (case sa_Reader => k_is)
   (case mk_Reader => k_is)
   (case kc_Reader => k_is)
   (case n_Reader_line_begun => k_is)
   (case n_Reader_lines_begun => k_is)
   (case a0 => k_is)
   (case l0 => k_is)
   (case c0 => k_is)
   (case k0 => k_is)
   (case a1 => k_is)
   (case l1 => k_is)
   (case c1 => k_is)
   (case k1 => k_is)
   (case a2 => k_is)
   (case l2 => k_is)
   (case c2 => k_is)
   (case k2 => k_is)
   (case a3 => k_is)
   (case l3 => k_is)
   (case c3 => k_is)
   (case k3 => k_is)
   (case a4 => k_is)
   (case l4 => k_is)
   (case c4 => k_is)
   (case k4 => k_is)
   (case a5 => k_is)
   (case l5 => k_is)
   (case c5 => k_is)
   (case k5 => k_is)
   (case a6 => k_is)
   (case l6 => k_is)
   (case c6 => k_is)
   (case k6 => k_is)
   (case a7 => k_is)
   (case l7 => k_is)
   (case c7 => k_is)
   (case k7 => k_is)
   (case a8 => k_is)
   (case l8 => k_is)
   (case c8 => k_is)
   (case k8 => k_is)
   (case a9 => k_is)
   (case l9 => k_is)
   (case c9 => k_is)
   (case k9 => k_is)
   (case a10 => k_is)
   (case i10 => k_is)
   (case l10 => k_is)
   (case c10 => k_is)
   (case k10 => k_is)
   (case a11 => k_is)
   (case i11 => k_is)
   (case l11 => k_is)
   (case c11 => k_is)
   (case k11 => k_is)
   (case a12 => k_is)
   (case i12 => k_is)
   (case l12 => k_is)
   (case c12 => k_is)
   (case k12 => k_is)
   (case a13 => k_is)
   (case i13 => k_is)
   (case l13 => k_is)
   (case c13 => k_is)
   (case k13 => k_is)
   (case a14 => k_is)
   (case i14 => k_is)
   (case l14 => k_is)
   (case c14 => k_is)
   (case k14 => k_is)
   (case a15 => k_is)
   (case i15 => k_is)
   (case l15 => k_is)
   (case c15 => k_is)
   (case k15 => k_is)
   (case a16 => k_is)
   (case i16 => k_is)
   (case l16 => k_is)
   (case c16 => k_is)
   (case k16 => k_is)
   (case a17 => k_is)
   (case i17 => k_is)
   (case l17 => k_is)
   (case c17 => k_is)
   (case k17 => k_is)
   (case a18 => k_is)
   (case i18 => k_is)
   (case l18 => k_is)
   (case c18 => k_is)
   (case k18 => k_is)
   (case a19 => k_is)
   (case i19 => k_is)
   (case l19 => k_is)
   (case c19 => k_is)
   (case k19 => k_is)
   (case a20 => k_is)
   (case i20 => k_is)
   (case l20 => k_is)
   (case c20 => k_is)
   (case k20 => k_is)
   (case a21 => k_is)
   (case i21 => k_is)
   (case l21 => k_is)
   (case c21 => k_is)
   (case k21 => k_is)
   (case a22 => k_is)
   (case l22 => k_is)
   (case c22 => k_is)
   (case k22 => k_is)
   (case a23 => k_is)
   (case l23 => k_is)
   (case c23 => k_is)
   (case k23 => k_is)
   (case a24 => k_is)
   (case l24 => k_is)
   (case c24 => k_is)
   (case k24 => k_is)
   (case a25 => k_is)
   (case l25 => k_is)
   (case c25 => k_is)
   (case k25 => k_is)
   (case a26 => k_is)
   (case l26 => k_is)
   (case c26 => k_is)
   (case k26 => k_is)
   (case a27 => k_is)
   (case l27 => k_is)
   (case c27 => k_is)
   (case k27 => k_is)
   (case a28 => k_is)
   (case l28 => k_is)
   (case c28 => k_is)
   (case k28 => k_is)
   (case a29 => k_is)
   (case i29 => k_is)
   (case l29 => k_is)
   (case c29 => k_is)
   (case k29 => k_is)
   (case a30 => k_is)
   (case i30 => k_is)
   (case l30 => k_is)
   (case c30 => k_is)
   (case k30 => k_is)
   (case a31 => k_is)
   (case l31 => k_is)
   (case c31 => k_is)
   (case k31 => k_is)
   (case a32 => k_is)
   (case l32 => k_is)
   (case c32 => k_is)
   (case k32 => k_is)
   (case a33 => k_is)
   (case l33 => k_is)
   (case c33 => k_is)
   (case k33 => k_is)
   (case a34 => k_is)
   (case l34 => k_is)
   (case c34 => k_is)
   (case k34 => k_is)
   (case a35 => k_is)
   (case l35 => k_is)
   (case c35 => k_is)
   (case k35 => k_is)
   (case a36 => k_is)
   (case l36 => k_is)
   (case c36 => k_is)
   (case k36 => k_is)
   (case a37 => k_is)
   (case l37 => k_is)
   (case c37 => k_is)
   (case k37 => k_is)
   (case a38 => k_is)
   (case l38 => k_is)
   (case c38 => k_is)
   (case k38 => k_is)
   (case a39 => k_is)
   (case l39 => k_is)
   (case c39 => k_is)
   (case k39 => k_is)
   (case a40 => k_is)
   (case l40 => k_is)
   (case c40 => k_is)
   (case k40 => k_is)
   (case a41 => k_is)
   (case l41 => k_is)
   (case c41 => k_is)
   (case k41 => k_is)
   (case a42 => k_is)
   (case l42 => k_is)
   (case c42 => k_is)
   (case k42 => k_is)
   (case a43 => k_is)
   (case l43 => k_is)
   (case c43 => k_is)
   (case k43 => k_is)
   (case a44 => k_is)
   (case l44 => k_is)
   (case c44 => k_is)
   (case k44 => k_is)
   (case a45 => k_is)
   (case l45 => k_is)
   (case c45 => k_is)
   (case k45 => k_is)
   (case z0 => k_is)
   (case z1 => k_is)
   (case z2 => k_is)
   (case z3 => k_is)
   (case z4 => k_is)
   (case z5 => k_is)
   (case z6 => k_is)
   (case z7 => k_is)
   (case z8 => k_is)
   (case z9 => k_is)
   (case z10 => k_is)
   (case z11 => k_is)
   (case z12 => k_is)
   (case y0 => k_is)
   (case y1 => k_is)
   (case y2 => k_is)
   (case y3 => k_is)
   (case y4 => k_is)
   (case y5 => k_is)
   (case y6 => k_is)
   (case y7 => k_is)
   (case y8 => k_is)
   (case y9 => k_is)
   (case y10 => k_is)
   (case y11 => k_is)
   (case xoc_oJ => k_is)
   (case xos_oJ => k_is)
   (case xot_oJ => k_is)
   (case xom_oJ => k_is)
   (case xon_oJ => kit_is)
