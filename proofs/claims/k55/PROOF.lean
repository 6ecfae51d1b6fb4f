import PyProof.Rows.All
import Wide.All
import OpenK.AllK
import Wide.FinOn
import Lean
import PyProof.EqAt
import PyProof.EqKinds
import PyProof.TupleCall
import PySem.Challenge.RW_tentloops_k55_hall_names
set_option Elab.async false
set_option linter.all false
set_option maxRecDepth 100000
namespace L2
open PySem PySem.Spec PyProof.Rows
noncomputable abbrev Key := Sum Int Str
noncomputable def keyIs : Key → Value → Bool
 | .inl k, v => Value.isInt k v
 | .inr x, v => Value.isStrOf x v
noncomputable def keyH (w : World) : Key → Int
 | .inl k => hashInt k
 | .inr x => hashStr w x
theorem keyIs_shape : ∀ {k : Key} {v : Value}, keyIs k v = true → (∃ i t, k = Sum.inl i ∧ v = Value.int i t) ∨ (∃ x t, k = Sum.inr x ∧ v = Value.str x t)
 | .inl i, v, h => by
  obtain ⟨t, e⟩ := Value.isInt_shape (k := i) (v := v) h
  exact .inl ⟨i, t, rfl, e⟩
 | .inr x, v, h => by
  obtain ⟨t, e⟩ := Value.isStrOf_shape (x := x) (v := v) h
  exact .inr ⟨x, t, rfl, e⟩
theorem keyIs_int (i : Int) (t : Tok) : keyIs (.inl i) (.int i t) = true := by simp [keyIs, Value.isInt]
theorem keyIs_str (x : Str) (t : Tok) : keyIs (.inr x) (.str x t) = true := by simp [keyIs, Value.isStrOf]
theorem key_ll (a b : Int) : decide ((Sum.inl a : Key) = Sum.inl b) = (a == b) := by
 by_cases e : a = b
 ·subst e; simp
 ·have h : ¬ (Sum.inl a : Key) = Sum.inl b := fun q => e (Sum.inl.inj q)
  rw [decide_eq_false h]
  exact (beq_eq_false_iff_ne.mpr e).symm
theorem key_rr (a b : Str) : decide ((Sum.inr a : Key) = Sum.inr b) = decide (a = b) := by
 by_cases e : a = b
 ·subst e; simp
 ·have h : ¬ (Sum.inr a : Key) = Sum.inr b := fun q => e (Sum.inr.inj q)
  rw [decide_eq_false h, decide_eq_false e]
theorem key_lr (a : Int) (b : Str) : decide ((Sum.inl a : Key) = Sum.inr b) = false := decide_eq_false (fun q => nomatch q)
theorem key_rl (a : Str) (b : Int) : decide ((Sum.inr a : Key) = Sum.inl b) = false := decide_eq_false (fun q => nomatch q)
noncomputable def mixKind (prog : Program) (w : World) : PySem.KeyKind prog w Key where
 is := keyIs
 hash := keyH w
 inj := fun v a b ha hb => by
  rcases keyIs_shape ha with ⟨i, t, rfl, rfl⟩ | ⟨x, t, rfl, rfl⟩
  ·rcases keyIs_shape hb with ⟨j, u, rfl, e⟩ | ⟨y, u, rfl, e⟩
   ·injection e with e1 _; rw [e1]
   ·exact nomatch e
  ·rcases keyIs_shape hb with ⟨j, u, rfl, e⟩ | ⟨y, u, rfl, e⟩
   ·exact nomatch e
   ·injection e with e1 _; rw [e1]
 byValue := fun k v h => by
  rcases keyIs_shape h with ⟨i, t, rfl, rfl⟩ | ⟨x, t, rfl, rfl⟩ <;> rfl
 pyHash := fun hv h => by
  rcases keyIs_shape hv with ⟨i, t, rfl, rfl⟩ | ⟨x, t, rfl, rfl⟩
  ·exact wpAny_pyHash_int h
  ·exact wpAny_pyHash_str h
 eqBool := fun hu hv h => by
  rcases keyIs_shape hu with ⟨i, t, rfl, rfl⟩ | ⟨x, t, rfl, rfl⟩
  ·rcases keyIs_shape hv with ⟨j, u, rfl, rfl⟩ | ⟨y, u, rfl, rfl⟩
   ·rw [key_ll] at h; exact wpAny_eqBool_int h
   ·rw [key_lr] at h; exact SeqAt.EqAt.int_str i t y u _ _ _ _ h
  ·rcases keyIs_shape hv with ⟨j, u, rfl, rfl⟩ | ⟨y, u, rfl, rfl⟩
   ·rw [key_rl] at h; exact SeqAt.EqAt.str_int x t j u _ _ _ _ h
   ·rw [key_rr] at h; exact wpAny_eqBool_str h
 «strs» := fun k x t v h => by
  rcases keyIs_shape h with ⟨i, u, rfl, e⟩ | ⟨y, u, rfl, e⟩
  ·exact nomatch e
  ·injection e with e1 _
   subst e1
   cases v <;> rfl
theorem mixKind_int (prog : Program) (w : World) (i : Int) (t : Tok) : (mixKind prog w).is (.inl i) (.int i t) = true := keyIs_int i t
theorem mixKind_str (prog : Program) (w : World) (x : Str) (t : Tok) : (mixKind prog w).is (.inr x) (.str x t) = true := keyIs_str x t
end L2
namespace L2
open PySem PySem.Spec PyProof.Rows
inductive V where
 | non | bl (b : Bool) | int (i : Int) | str (x : Str) | byt (b : Array UInt8) | flt (b : UInt64) | ref (a : Addr) | ty (n : String)
 deriving DecidableEq
set_option genInjectivity false
set_option genSizeOf false
noncomputable def RelV : V → Value → Prop
 | .non, u => u = Value.none
 | .bl b, u => u = Value.bool b
 | .int i, u => ∃ t, u = Value.int i t
 | .str x, u => ∃ t, u = Value.str x t
 | .byt b, u => ∃ t, u = Value.bytes b t
 | .flt b, u => ∃ t, u = Value.float b t
 | .ref a, u => u = Value.ref a
 | .ty n, u => u = Value.type n
noncomputable abbrev Vals : List V → List Value → Prop := Paired RelV
theorem Vals.length {xs : List V} {us : List Value} (r : Vals xs us) : xs.length = us.length := Paired.length r
theorem Vals.get : ∀ {xs : List V} {us : List Value} {i : Nat} {x : V}, Vals xs us → xs[i]? = some x → ∃ u, us[i]? = some u ∧ RelV x u
 | _, _, _, _, .nil, e => by simp at e
 | _, _, 0, _, .cons r _, e => by simp at e; subst e; exact ⟨_, rfl, r⟩
 | _, _, i + 1, x, .cons _ t, e => by
  obtain ⟨u, h1, h2⟩ := Vals.get (i := i) (x := x) t (by simpa using e)
  exact ⟨u, by simpa using h1, h2⟩
theorem Vals.set {x : V} {u : Value} (r : RelV x u) : ∀ {xs : List V} {us : List Value} (i : Nat), Vals xs us → Vals (xs.set i x) (us.set i u)
 | _, _, _, .nil => .nil
 | _, _, 0, .cons _ t => .cons r t
 | _, _, i + 1, .cons q t => .cons q (Vals.set r i t)
theorem Vals.append : ∀ {xs ys : List V} {us ws : List Value}, Vals xs us → Vals ys ws → Vals (xs ++ ys) (us ++ ws)
 | _, _, _, _, .nil, s => s
 | _, _, _, _, .cons r t, s => .cons r (Vals.append t s)
theorem Vals.take : ∀ {xs : List V} {us : List Value} (n : Nat), Vals xs us → Vals (xs.take n) (us.take n)
 | _, _, 0, _ => .nil
 | _, _, _ + 1, .nil => .nil
 | _, _, n + 1, .cons r t => .cons r (Vals.take n t)
theorem Vals.drop : ∀ {xs : List V} {us : List Value} (n : Nat), Vals xs us → Vals (xs.drop n) (us.drop n)
 | _, _, 0, r => r
 | _, _, _ + 1, .nil => .nil
 | _, _, n + 1, .cons _ t => Vals.drop n t
noncomputable def RelO : Option V → Option Value → Prop
 | some v, some u => RelV v u
 | none, none => True
 | _, _ => False
noncomputable def KV {κ : Type} : List (κ × V) → List (κ × Value) → Prop := Paired fun (p : κ × V) (q : κ × Value) => p.1 = q.1 ∧ RelV p.2 q.2
noncomputable def kV : Key → V
 | .inl i => .int i
 | .inr x => .str x
inductive HO where
 /-- a list -/
 | lst (xs : List V)
 /-- a tuple (never changes) -/
 | tup (xs : List V)
 /-- a dict whose keys are ints and texts; one whose keys are tuples of ints and texts (the empty one is both) -/
 | dK (kvs : List (Key × V)) | dT (kvs : List (List Key × V))
 /-- a set of ints: its members, its size -/
 | set (S : Int → Bool) (n : Nat)
 /-- an instance of the class at C, its dict at dx, its attributes -/
 | ins (C dx : Addr) (fs : List (Str × V))
 /-- the dict of the instance at x -/
 | own (x : Addr)
 /-- the dict of an exception -/
 | xd (fs : List (Str × V))
 /-- a bound method, f of x -/
 | met (f x : Addr)
 /-- a range object lo, lo + 1, .. below hi -/
 | rng (lo hi : Int)
 /-- a thing that is known to the object (the script; a dict while a loop walks it): read, never written while it is so -/
 | frz (o : Obj) (u : HO)
 /-- a code object's table -/
 | tbl (ps : Array Value)
 /-- any other thing, by what is true of its one object (a def of one's own: SetO a S n := HO.ext fun h => ..) -/
 | ext (φ : Heap → Prop)
noncomputable abbrev Hp := Addr → Option HO
noncomputable def upd (H : Hp) (a : Addr) (o : HO) : Hp := fun b => if b = a then some o else H b
theorem upd_same {H : Hp} {a : Addr} {o : HO} : upd H a o a = some o := by unfold upd; rw [if_pos rfl]
theorem upd_ne {H : Hp} {a b : Addr} {o : HO} (h : b ≠ a) : upd H a o b = H b := by unfold upd; rw [if_neg h]
theorem ne_of {H : Hp} {a b : Addr} {o u : HO} (h : H a = some o) (h' : H b = some u) (d : o ≠ u) : a ≠ b := by
 intro e; subst e; rw [h] at h'; exact d (Option.some.inj h')
theorem ne_of_none {H : Hp} {a b : Addr} {o : HO} (h : H a = some o) (h' : H b = none) : a ≠ b := by
 intro e; subst e; rw [h] at h'; cases h'
section
variable (P : Program) (w : World)
noncomputable def ObjOk (H : Hp) (h : Heap) (a : Addr) : HO → Prop
 | .lst xs => xs.length ≤ sizeLine ∧ ∃ (its : List Value) (n : Nat), Vals xs its ∧ h.get? a = some { cls := .type "list", data := .seq its.toArray n }
 | .tup xs => xs.length ≤ sizeLine ∧ ∃ its : List Value, Vals xs its ∧ IsTup h a its.toArray
 | .dK kvs => kvs.length ≤ sizeLine ∧ (a == sysModules) = false ∧ ∃ vs, KV kvs vs ∧ h.DictOf (mixKind P w) a vs
 | .dT kvs => kvs.length ≤ sizeLine ∧ (a == sysModules) = false ∧ ∃ xs : List (List Key × Addr × Value),
   Paired (fun (p : List Key × V) (q : List Key × Addr × Value) => p.1 = q.1 ∧ H q.2.1 = some (.tup (p.1.map kV)) ∧ RelV p.2 q.2.2) kvs xs ∧
   ∃ o es ep, h.get? a = some o ∧ o.ExactDict ∧ o.data = .dict es ep ∧ es.toList = xs.map (entryOfKey (tupleKind (mixKind P w))) ∧ (xs.map (·.1)).Nodup
 | .set S n => h.SetOf (intKind P w) a S n
 | .ins C dx fs => H dx = some (.own a) ∧ fs.length ≤ 1000 ∧ dx ≠ a ∧ h.get? a = some (PySem.W.instObj C dx) ∧
   ∃ mA, h.Ns1 dx mA ∧ (∀ f, RelO (fs.lookup f) (mA f)) ∧ PySem.Within mA (fs.map (·.1))
 | .own _ => ∃ o, h.get? a = some o
 | .xd fs => ∃ mA, h.Ns1 a mA ∧ ∀ f, RelO (fs.lookup f) (mA f)
 | .rng lo hi => ∃ t u v, h.get? a = some { cls := .type "range", data := .fields #[.int lo t, .int hi u, .int 1 v] }
 | .frz o u => h.get? a = some o ∧ ObjOk H h a u
 | .tbl ps => h.get? a = some { cls := .none, data := .fields ps }
 | .met f x => h.get? a = some (PySem.W.methodObj (.ref f) (.ref x))
 | .ext φ => φ h ∧ (∃ o, h.get? a = some o) ∧ ∀ h1 h2 : Heap, φ h1 → (∀ o, h1.get? a = some o → h2.get? a = some o) → φ h2
noncomputable def HOk (H : Hp) (h : Heap) : Prop := ∀ a o, H a = some o → ObjOk P w H h a o
end
section
variable {P : Program} {w : World} {H H' : Hp} {h h' : Heap} {a : Addr} {o : HO}
theorem ObjOk.lt (x : ObjOk P w H h a o) : a < h.objs.size := by
 cases o with
 | lst xs => obtain ⟨_, _, _, _, e⟩ := x; exact Heap.lt_size e
 | tup xs => obtain ⟨_, _, _, p⟩ := x; exact p.lt
 | dK kvs => obtain ⟨_, _, _, _, o, _, _, e, _⟩ := x; exact Heap.lt_size e
 | dT kvs => obtain ⟨_, _, _, _, o, _, _, e, _⟩ := x; exact Heap.lt_size e
 | set S n => obtain ⟨o, _, _, _, e, _⟩ := x; exact Heap.lt_size e
 | ins C dx fs => obtain ⟨_, _, _, e, _⟩ := x; exact Heap.lt_size e
 | own y => obtain ⟨_, e⟩ := x; exact Heap.lt_size e
 | xd fs => obtain ⟨_, ⟨_, _, _, e, _⟩, _⟩ := x; exact Heap.lt_size e
 | rng lo hi => obtain ⟨_, _, _, e⟩ := x; exact Heap.lt_size e
 | frz ob u => obtain ⟨e, _⟩ := x; exact Heap.lt_size e
 | tbl ps => exact Heap.lt_size (show h.get? a = some _ from x)
 | met f y => exact Heap.lt_size (show h.get? a = some _ from x)
 | ext φ => obtain ⟨_, ⟨_, e⟩, _⟩ := x; exact Heap.lt_size e
theorem Paired.mapP {α β : Type} {F G : α → β → Prop} : ∀ {l₁ : List α} {l₂ : List β}, Paired F l₁ l₂ → (∀ a b, F a b → G a b) → Paired G l₁ l₂
 | _, _, .nil, _ => .nil
 | _, _, .cons r t, f => .cons (f _ _ r) (Paired.mapP t f)
theorem ObjOk.stay (x : ObjOk P w H h a o) (k : ∀ b u, (b = a ∨ H b = some (.own a)) → h.get? b = some u → h'.get? b = some u)
  (ho : ∀ b, H b = some (.own a) → H' b = some (.own a)) (ht : ∀ b xs, H b = some (.tup xs) → H' b = some (.tup xs)) : ObjOk P w H' h' a o := by
 induction o with
 | lst xs => obtain ⟨z, its, n, r, e⟩ := x; exact ⟨z, its, n, r, k _ _ (.inl rfl) e⟩
 | tup xs => obtain ⟨z, its, r, ob, e, c⟩ := x; exact ⟨z, its, r, ob, k _ _ (.inl rfl) e, c⟩
 | dK kvs => obtain ⟨z, y, vs, r, ob, es, ep, e, c⟩ := x; exact ⟨z, y, vs, r, ob, es, ep, k _ _ (.inl rfl) e, c⟩
 | dT kvs =>
  obtain ⟨z, y, xs, r, ob, es, ep, e, c⟩ := x
  exact ⟨z, y, xs, Paired.mapP r fun p q z => ⟨z.1, ht _ _ z.2.1, z.2.2⟩, ob, es, ep, k _ _ (.inl rfl) e, c⟩
 | set S n => obtain ⟨ob, es, ep, t, e, c⟩ := x; exact ⟨ob, es, ep, t, k _ _ (.inl rfl) e, c⟩
 | ins C dx fs =>
  obtain ⟨d, z, ne, e, mA, ⟨od, es, ep, e2, c⟩, r⟩ := x
  exact ⟨ho _ d, z, ne, k _ _ (.inl rfl) e, mA, ⟨od, es, ep, k _ _ (.inr d) e2, c⟩, r⟩
 | own y => obtain ⟨ob, e⟩ := x; exact ⟨ob, k _ _ (.inl rfl) e⟩
 | xd fs => obtain ⟨mA, ⟨od, es, ep, e, c⟩, r⟩ := x; exact ⟨mA, ⟨od, es, ep, k _ _ (.inl rfl) e, c⟩, r⟩
 | rng lo hi => obtain ⟨t, u, v, e⟩ := x; exact ⟨t, u, v, k _ _ (.inl rfl) e⟩
 | frz ob u ih => obtain ⟨e, q⟩ := x; exact ⟨k _ _ (.inl rfl) e, ih q⟩
 | tbl ps =>
  have e : h.get? a = some { cls := .none, data := .fields ps } := x
  show h'.get? a = some { cls := .none, data := .fields ps }
  exact k a _ (.inl rfl) e
 | met f y =>
  have e : h.get? a = some (PySem.W.methodObj (.ref f) (.ref y)) := x
  show h'.get? a = some (PySem.W.methodObj (.ref f) (.ref y))
  exact k a _ (.inl rfl) e
 | ext φ => obtain ⟨p, ⟨o, e⟩, st⟩ := x; exact ⟨st _ _ p fun o q => k _ _ (.inl rfl) q, ⟨o, k _ _ (.inl rfl) e⟩, st⟩
theorem HOk.lt (x : HOk P w H h) (e : H a = some o) : a < h.objs.size := (x a o e).lt
theorem HOk.fresh (x : HOk P w H h) (e : h.objs.size ≤ a) : H a = none := by
 cases q : H a with
 | none => rfl
 | some u => exact absurd (Nat.lt_of_lt_of_le (x.lt q) e) (Nat.lt_irrefl _)
theorem HOk.kept (x : HOk P w H h) (k : ∀ b u, h.get? b = some u → h'.get? b = some u) : HOk P w H h' := fun a o e =>
 (x a o e).stay (fun b u _ q => k b u q) (fun _ q => q) fun _ _ q => q
theorem HOk.laid (x : HOk P w H h) (k : ∀ b u, h.get? b = some u → h'.get? b = some u) (hp : h.objs.size ≤ a) (new : ObjOk P w (upd H a o) h' a o) : HOk P w (upd H a o) h' := fun b u e => by
 have hn := x.fresh hp
 by_cases hb : b = a
 ·subst hb; rw [upd_same] at e; cases e; exact new
 ·rw [upd_ne hb] at e
  exact (x b u e).stay (fun c v _ q => k c v q) (fun c q => by rw [upd_ne (ne_of_none q hn)]; exact q) fun c xs q => by rw [upd_ne (ne_of_none q hn)]; exact q
end
noncomputable def Rd (H : Hp) (a : Addr) (u : HO) : Prop := H a = some u ∨ ∃ o, H a = some (.frz o u)
theorem Rd.ok {P : Program} {w : World} {H : Hp} {h : Heap} {a : Addr} {u : HO} (r : Rd H a u) (x : HOk P w H h) : ObjOk P w H h a u := by
 rcases r with r | ⟨o, r⟩
 ·exact x a u r
 ·obtain ⟨_, q⟩ := x a _ r
  exact q
noncomputable def Mut : Option HO → Prop
 | some (.lst _) => True
 | some (.dK _) => True
 | some (.dT _) => True
 | some (.set _ _) => True
 | some (.ins _ _ _) => True
 | some (.ext _) => True
 | _ => False
section
variable {P : Program} {w : World} {H : Hp} {h h' : Heap} {x e : Addr} {o' : HO}
theorem HOk.write (ok : HOk P w H h) (mu : Mut (H x)) (he : e = x ∨ H e = some (.own x)) (k : ∀ b u, b ≠ e → h.get? b = some u → h'.get? b = some u) (heo : ∃ u, h'.get? e = some u)
  (new : ObjOk P w (upd H x o') h' x o') : HOk P w (upd H x o') h' := fun b u q => by
 have nown : ∀ c y, H c = some (.own y) → c ≠ x := fun c y r z => by subst z; rw [r] at mu; exact mu
 have ntup : ∀ c xs, H c = some (.tup xs) → c ≠ x := fun c xs r z => by subst z; rw [r] at mu; exact mu
 by_cases hb : b = x
 ·subst hb; rw [upd_same] at q; cases q; exact new
 ·rw [upd_ne hb] at q
  by_cases hbe : b = e
  ·have q' : H b = some (.own x) := by
    rcases he with z | z
    ·exact absurd (hbe.trans z) hb
    ·rw [hbe]; exact z
   rw [q] at q'; cases q'
   obtain ⟨v, hv⟩ := heo
   exact ⟨v, by rw [hbe]; exact hv⟩
  ·refine (ok b u q).stay (fun c v hc r => k c v ?_ r) (fun c r => by rw [upd_ne (nown c b r)]; exact r) fun c xs r => by rw [upd_ne (ntup c xs r)]; exact r
   rcases hc with rfl | hc
   ·exact hbe
   ·rintro rfl
    rcases he with z | z
    ·exact nown c b hc z
    ·rw [hc] at z; cases z; exact hb rfl
end
structure Un (fs ex : List Addr) (H H' : Hp) (h h' : Heap) : Prop where
 keep : ∀ b o, h.get? b = some o → H b = none → b ∉ fs → b ∉ ex → h'.get? b = some o
 slot : ∀ b o, h.get? b = some o → H b = none → b ∈ fs → b ∉ ex → ∃ sl, h'.get? b = some { o with slots := sl }
 free : ∀ b o, h.get? b = some o → H b = none → b ∉ ex → H' b = none
 there : ∀ b o, h.get? b = some o → b ∉ ex → ∃ o', h'.get? b = some o'
 tups : ∀ b xs, H b = some (.tup xs) → H' b = some (.tup xs)
 frzs : ∀ b o u, H b = some (.frz o u) → H' b = some (.frz o u)
 tbls : ∀ b ps, H b = some (.tbl ps) → ∃ more, H' b = some (.tbl (ps ++ more))
section
variable {fs fs' ex ex' : List Addr} {H H1 H2 : Hp} {h h1 h2 h' : Heap} {a x e : Addr} {o : HO}
theorem Un.any (u : Un fs ex H H1 h h1) {b : Addr} {ob : Obj} (q : h.get? b = some ob) (n : H b = none) (hx : b ∉ ex) : ∃ sl, h1.get? b = some { ob with slots := sl } := by
 by_cases hb : b ∈ fs
 ·exact u.slot b ob q n hb hx
 ·exact ⟨ob.slots, u.keep b ob q n hb hx⟩
theorem Un.kept (k : ∀ b u, h.get? b = some u → h'.get? b = some u) : Un fs ex H H h h' :=
 ⟨fun b ob q _ _ _ => k b ob q, fun b ob q _ _ _ => ⟨ob.slots, k b ob q⟩, fun _ _ _ n _ => n, fun b ob q _ => ⟨ob, k b ob q⟩, fun _ _ q => q, fun _ _ _ q => q, fun _ ps q => ⟨#[], by rw [q]; simp⟩⟩
theorem Un.refl : Un fs ex H H h h := Un.kept fun _ _ q => q
theorem Un.laid (k : ∀ b u, h.get? b = some u → h'.get? b = some u) (hp : h.objs.size ≤ a) (hn : H a = none) : Un fs ex H (upd H a o) h h' where
 keep := fun b u q _ _ _ => k b u q
 slot := fun b u q _ _ _ => ⟨u.slots, k b u q⟩
 free := fun b u q n _ => by rw [upd_ne (Nat.ne_of_lt (Nat.lt_of_lt_of_le (Heap.lt_size q) hp))]; exact n
 there := fun b u q _ => ⟨u, k b u q⟩
 tups := fun b xs q => by rw [upd_ne (ne_of_none q hn)]; exact q
 frzs := fun b u xs q => by rw [upd_ne (ne_of_none q hn)]; exact q
 tbls := fun b ps q => ⟨#[], by rw [upd_ne (ne_of_none q hn), q]; simp⟩
theorem Un.write (mu : Mut (H x)) (he : e = x ∨ H e = some (.own x)) (k : ∀ b u, b ≠ e → h.get? b = some u → h'.get? b = some u) (heo : ∃ u, h'.get? e = some u) : Un fs ex H (upd H x o) h h' := by
 have hx : ∀ b, H b = none → b ≠ x := fun b n z => by subst z; rw [n] at mu; exact mu
 have hb : ∀ b, H b = none → b ≠ e := fun b n z => by
  subst z
  rcases he with r | r
  ·exact hx b n r
  ·rw [n] at r; cases r
 have hm : ∀ b u, H b = some u → ¬ Mut (some u) → b ≠ x := fun b u q nm z => by subst z; rw [q] at mu; exact nm mu
 refine ⟨fun b u q n _ _ => k b u (hb b n) q, fun b u q n _ _ => ⟨u.slots, k b u (hb b n) q⟩, fun b u q n _ => by rw [upd_ne (hx b n)]; exact n, fun b u q _ => ?_,
  fun b xs q => by rw [upd_ne (hm b _ q fun z => z)]; exact q, fun b u xs q => by rw [upd_ne (hm b _ q fun z => z)]; exact q, fun b ps q => ⟨#[], by rw [upd_ne (hm b _ q fun z => z), q]; simp⟩⟩
 by_cases hbe : b = e
 ·subst hbe; exact heo
 ·exact ⟨u, k b u hbe q⟩
end
noncomputable def trk (h : Heap) (H : Hp) : List Addr := (List.range h.objs.size).filter fun a => (H a).isSome
noncomputable def hidT (h : Heap) (H : Hp) : Heap := PySem.W.hideAll h (trk h H)
theorem hidT_size (h : Heap) (H : Hp) : (hidT h H).objs.size = h.objs.size := PySem.W.hideAll_size _ _
theorem hidT_get {h : Heap} {H : Hp} {b : Addr} {o : Obj} (e : h.get? b = some o) (n : H b = none) : (hidT h H).get? b = some o :=
 PySem.W.hideAll_get _ e fun hm => by
  have q : (H b).isSome = true := (List.mem_filter.mp hm).2
  rw [n] at q; simp at q
theorem of_hidT {h : Heap} {H : Hp} {b : Addr} {o : Obj} (e : (hidT h H).get? b = some o) : h.get? b = some o ∧ H b = none := by
 have e' : h.get? b = some o := PySem.W.of_hideAll (trk h H) e
 refine ⟨e', ?_⟩
 cases q : H b with
 | none => rfl
 | some x =>
  have hm : b ∈ trk h H := List.mem_filter.mpr ⟨List.mem_range.mpr (Heap.lt_size e'), by simp [q]⟩
  have z : (hidT h H).get? b = none := PySem.W.hideAll_none (trk h H) hm
  rw [z] at e; cases e
noncomputable def allNews (g h : Heap) (L : Addr) : List (Addr × Obj) := (List.range h.objs.size).filterMap fun a => if a = L ∨ (g.get? a).isSome = true then none else (h.get? a).map fun o => (a, o)
noncomputable def rest (g h : Heap) (L d : Addr) : List (Addr × Obj) := (allNews g h L).filter fun p => decide (p.1 ≠ d)
end L2
namespace L2
open PySem PySem.Spec PyProof.Rows
structure Mod (K : PySem.W.Frag) (mg : Str → Option Value) (base : Heap) : Prop where
 kin : K.In base
 glob : base.Ns mainGlobals mg
 blt : ∃ mb, base.Ns builtinsNs mb ∧ ∀ x : Str, x ≠ "__name__" → mb x = bootBuiltins x
 nolimit : base.NoLimit
structure Cx where
 prog : Program
 w : World
 K : PySem.W.Frag
 mg : Str → Option Value
 base : Heap
 A : Around
 N : List Str
 s₀ : Shared
 H₀ : Hp
 env : Env
 outer : List Env
 stack : List Env
 ex : List Addr
 fn : Str → Bool
 calm : Bool
 pn : List (Addr × Obj)
 xe : Value → Shared → Prop
noncomputable def frs (l : List Env) : List Addr := l.filterMap (·.frame)
noncomputable abbrev Cx.fs (X : Cx) : List Addr := frs X.outer
noncomputable def Vis (sc : Scope) (x : Str) : Prop := sc.names.lookup x = some .local ∨ sc.names.lookup x = some .cell ∨ sc.names.lookup x = some .free
noncomputable def Loc (sc : Scope) (x : Str) : Prop := sc.names.lookup x = some .local ∨ sc.names.lookup x = some .cell
noncomputable def Look (env : Env) (h : Heap) (m : Str → Option Value) (x : Str) (u : Value) : Prop :=
 (env.kindOf x = some .local ∧ m x = some u) ∨ ((env.kindOf x = some .cell ∨ env.kindOf x = some .free) ∧ ∃ c, env.cells.lookup x = some c ∧ h.IsCell c (some u))
structure Cx.Ok (X : Cx) : Prop where
 mod : Mod X.K X.mg X.base
 kind : X.env.scope.kind = .function
 glob : X.env.globals = mainGlobals
 blt : X.env.builtins = builtinsNs
 above : X.s₀.heap.objs.size ≤ X.env.locals
 inj : ∀ x y c, X.env.cells.lookup x = some c → X.env.cells.lookup y = some c → x = y
 has : ∀ x, (X.env.kindOf x = some .cell ∨ X.env.kindOf x = some .free) → ∃ c, X.env.cells.lookup x = some c
 cab : ∀ x c, X.fn x = true → X.env.cells.lookup x = some c → X.s₀.heap.objs.size ≤ c
 hd : X.calm = true → X.A.handled = none
 frames : X.A.frames = some X.stack
 stk : X.stack = X.outer ∨ (X.stack = X.env :: X.outer ∧ X.env.frame = some X.env.locals)
 exf : ∀ b ∈ X.ex, b ≠ X.env.locals ∧ ∀ x c, X.env.cells.lookup x = some c → c ≠ b
 bs : ∀ b o, X.base.get? b = some o → X.s₀.heap.get? b = some o ∧ X.H₀ b = none
 bsz : X.base.objs.size ≤ X.s₀.heap.objs.size
 noex : ∀ b o, X.base.get? b = some o → b ∉ X.ex
 exfs : ∀ b ∈ X.ex, b ∉ X.fs
 funs : X.s₀.heap.FunFrames X.base X.outer
 frf : ∀ b ∈ X.fs, X.H₀ b = none
structure Inv (X : Cx) (pins : List (Addr × Obj)) (σ : List (Option V)) (H : Hp) (s : Shared) : Prop where
 ok : X.Ok
 os : s.os = X.s₀.os
 bare : AllBare s.gens
 base : Un X.fs X.ex X.H₀ H X.s₀.heap s.heap
 loc : ∃ m, s.heap.Ns X.env.locals m ∧ ∀ (i : Nat) (x : Str) (v : V), X.N[i]? = some x → σ[i]? = some (some v) → Vis X.env.scope x → ∃ u, RelV v u ∧ Look X.env s.heap m x u
 cell : ∀ x c, X.env.cells.lookup x = some c → ∃ v, s.heap.IsCell c v
 free : H X.env.locals = none
 freeC : ∀ x c, X.env.cells.lookup x = some c → H c = none
 pin : ∀ p ∈ X.pn ++ pins, s.heap.get? p.1 = some p.2 ∧ H p.1 = none ∧ p.1 ≠ X.env.locals ∧ p.1 ∉ X.fs ∧ ∀ v, p.2.data ≠ .cell v
 hok : HOk X.prog X.w H s.heap
 len : σ.length = X.N.length
section
variable {X : Cx} {pins : List (Addr × Obj)} {σ : List (Option V)} {H H' : Hp} {s : Shared} {h' : Heap}
theorem Cx.Ok.nofr (ok : X.Ok) {b : Addr} {o : Obj} (e : X.base.get? b = some o) : b ∉ X.fs := fun hb => by
 have := (ok.funs.mem hb).1
 rw [e] at this; cases this
theorem Inv.bs (I : Inv X pins σ H s) : ∀ b o, X.base.get? b = some o → s.heap.get? b = some o ∧ H b = none := fun b o e =>
 ⟨I.base.keep b o (I.ok.bs b o e).1 (I.ok.bs b o e).2 (I.ok.nofr e) (I.ok.noex b o e), I.base.free b o (I.ok.bs b o e).1 (I.ok.bs b o e).2 (I.ok.noex b o e)⟩
theorem Inv.bk (I : Inv X pins σ H s) : ∀ b o, X.base.get? b = some o → s.heap.get? b = some o := fun b o e => (I.bs b o e).1
theorem Inv.mod (I : Inv X pins σ H s) : Mod X.K X.mg X.base := I.ok.mod
theorem Inv.kIn (I : Inv X pins σ H s) : X.K.In s.heap := I.ok.mod.kin.keeps I.bk
theorem Inv.lt (I : Inv X pins σ H s) : X.env.locals < s.heap.objs.size := let ⟨_, hn, _⟩ := I.loc; hn.lt
theorem Inv.sz (I : Inv X pins σ H s) : X.s₀.heap.objs.size ≤ s.heap.objs.size := Nat.le_trans I.ok.above (Nat.le_of_lt I.lt)
theorem Inv.nofs (I : Inv X pins σ H s) {a : Addr} (h : s.heap.objs.size ≤ a) : a ∉ X.fs := fun hb => by
 obtain ⟨_, o, ho, _⟩ := I.ok.funs.mem hb
 exact absurd (Nat.lt_of_lt_of_le (Heap.lt_size ho) (Nat.le_trans I.sz h)) (Nat.lt_irrefl _)
theorem Inv.cne (I : Inv X pins σ H s) : ∀ x c, X.env.cells.lookup x = some c → c ≠ X.env.locals := fun x c e z => by
 obtain ⟨v, o, ho, hd⟩ := I.cell x c e
 obtain ⟨m, ⟨o', es, ep, ho', hd', _⟩, _⟩ := I.loc
 rw [z, ho'] at ho; cases ho; rw [hd'] at hd; cases hd
theorem Inv.funs (I : Inv X pins σ H s) : s.heap.FunFrames X.base X.outer := by
 have all : ∀ (l : List Env), (∀ b ∈ frs l, b ∈ X.fs) → X.s₀.heap.FunFrames X.base l → s.heap.FunFrames X.base l := by
  intro l
  induction l with
  | nil => intro _ _; trivial
  | cons env r ih =>
   intro hs hl
   obtain ⟨hk, ⟨L, o, hf, hn, ho, hd⟩, hr⟩ := hl
   have hL : L ∈ X.fs := hs L (by unfold frs; rw [List.filterMap_cons, hf]; exact List.mem_cons_self)
   obtain ⟨sl, e⟩ := I.base.slot L o ho (I.ok.frf L hL) hL fun z => I.ok.exfs L z hL
   exact ⟨hk, ⟨L, _, hf, hn, e, hd⟩, ih (fun b hb => hs b (by unfold frs; rw [List.filterMap_cons, hf]; exact List.mem_cons_of_mem _ hb)) hr⟩
 exact all X.outer (fun _ hb => hb) I.ok.funs
theorem Inv.stack (I : Inv X pins σ H s) : s.heap.FunFrames X.base X.stack := by
 rcases I.ok.stk with e | ⟨e, hf⟩
 ·rw [e]; exact I.funs
 ·rw [e]
  obtain ⟨m, hn, _⟩ := I.loc
  refine .cons (by rw [I.ok.kind]; decide) hf hn ?_ I.funs
  exact Heap.get?_none_of_le (Nat.le_trans I.ok.bsz I.ok.above)
theorem Inv.stkSub (I : Inv X pins σ H s) : ∀ b ∈ frs X.stack, b ∈ X.env.locals :: X.fs := fun b hb => by
 rcases I.ok.stk with e | ⟨e, hf⟩
 ·rw [e] at hb; exact List.mem_cons_of_mem _ hb
 ·rw [e] at hb
  unfold frs at hb
  rw [List.filterMap_cons, hf] at hb
  exact hb
theorem Inv.stkFree (I : Inv X pins σ H s) : ∀ b ∈ frs X.stack, H b = none := fun b hb => by
 rcases List.mem_cons.mp (I.stkSub b hb) with e | hb
 ·rw [e]; exact I.free
 ·obtain ⟨_, o, ho, _⟩ := I.ok.funs.mem hb
  exact I.base.free b o ho (I.ok.frf b hb) fun z => I.ok.exfs b z hb
theorem Inv.step {g' : Array GenState} {t' : Nat} {d' : Drawn} {ch : List Addr} (I : Inv X pins σ H s)
  (hch : ∀ b ∈ ch, (b ∈ X.ex ∨ X.s₀.heap.objs.size ≤ b) ∧ b ≠ X.env.locals ∧ (∀ x c, X.env.cells.lookup x = some c → c ≠ b) ∧ ∀ p ∈ X.pn ++ pins, p.1 ≠ b)
  (keep : ∀ b o, b ≠ X.env.locals → b ∉ X.fs → b ∉ ch → s.heap.get? b = some o → H b = none → h'.get? b = some o)
  (slot : ∀ b o, b ≠ X.env.locals → b ∈ X.fs → b ∉ ch → s.heap.get? b = some o → H b = none → ∃ sl, h'.get? b = some { o with slots := sl }) (free : ∀ b o, b ∉ ch → s.heap.get? b = some o → H b = none → H' b = none)
  (there : ∀ b o, b ∉ ch → s.heap.get? b = some o → ∃ o', h'.get? b = some o')
  (tups : ∀ b xs, H b = some (.tup xs) → H' b = some (.tup xs)) (frzs : ∀ b o u, H b = some (.frz o u) → H' b = some (.frz o u)) (tbls : ∀ b ps, H b = some (.tbl ps) → ∃ more, H' b = some (.tbl (ps ++ more)))
  (ns : ∀ m, s.heap.Ns X.env.locals m → h'.Ns X.env.locals m) (hok : HOk X.prog X.w H' h') (hg : AllBare g') :
  Inv X pins σ H' { s with heap := h', gens := g', drawn := d', toks := t' } := by
 have neL : ∀ b o, X.s₀.heap.get? b = some o → b ≠ X.env.locals := fun b o e => Nat.ne_of_lt (Nat.lt_of_lt_of_le (Heap.lt_size e) I.ok.above)
 have neC : ∀ b o, X.s₀.heap.get? b = some o → b ∉ X.ex → b ∉ ch := fun b o e hx hb => by
  rcases (hch b hb).1 with z | z
  ·exact hx z
  ·exact absurd (Nat.lt_of_lt_of_le (Heap.lt_size e) z) (Nat.lt_irrefl _)
 have cellK : ∀ x c, X.env.cells.lookup x = some c → ∀ v, s.heap.IsCell c v → h'.IsCell c v := fun x c e v ⟨o, ho, hd⟩ => by
  have nch : c ∉ ch := fun z => (hch c z).2.2.1 x c e rfl
  by_cases hc : c ∈ X.fs
  ·obtain ⟨sl, q⟩ := slot c o (I.cne x c e) hc nch ho (I.freeC x c e)
   exact ⟨_, q, hd⟩
  ·exact ⟨o, keep c o (I.cne x c e) hc nch ho (I.freeC x c e), hd⟩
 refine ⟨I.ok, I.os, hg, ⟨fun b o e n hb hx => ?_, fun b o e n hb hx => ?_, fun b o e n hx => ?_, fun b o e hx => ?_, fun b xs e => tups b xs (I.base.tups b xs e), fun b o xs e => frzs b o xs (I.base.frzs b o xs e), fun b ps e => ?_⟩, ?_, fun x c e => ?_, ?_, fun x c e => ?_, fun p hp => ?_, hok, I.len⟩
 ·exact keep b o (neL b o e) hb (neC b o e hx) (I.base.keep b o e n hb hx) (I.base.free b o e n hx)
 ·obtain ⟨sl, e1⟩ := I.base.slot b o e n hb hx
  obtain ⟨sl', e2⟩ := slot b _ (neL b o e) hb (neC b o e hx) e1 (I.base.free b o e n hx)
  exact ⟨sl', e2⟩
 ·obtain ⟨o', e1⟩ := I.base.there b o e hx
  exact free b o' (neC b o e hx) e1 (I.base.free b o e n hx)
 ·obtain ⟨o', e1⟩ := I.base.there b o e hx
  exact there b o' (neC b o e hx) e1
 ·obtain ⟨m1, e1⟩ := I.base.tbls b ps e
  obtain ⟨m2, e2⟩ := tbls b _ e1
  exact ⟨m1 ++ m2, by rw [e2, Array.append_assoc]⟩
 ·obtain ⟨m, hn, hl⟩ := I.loc
  refine ⟨m, ns m hn, fun i x v e1 e2 e3 => ?_⟩
  obtain ⟨u, r, l⟩ := hl i x v e1 e2 e3
  refine ⟨u, r, ?_⟩
  rcases l with l | ⟨k, c, e, z⟩
  ·exact .inl l
  ·exact .inr ⟨k, c, e, cellK x c e _ z⟩
 ·obtain ⟨v, z⟩ := I.cell x c e
  exact ⟨v, cellK x c e v z⟩
 ·obtain ⟨m, ⟨o, _, _, ho, _⟩, _⟩ := I.loc
  exact free _ o (fun z => (hch _ z).2.1 rfl) ho I.free
 ·obtain ⟨v, o, ho, hd⟩ := I.cell x c e
  exact free c o (fun z => (hch c z).2.2.1 x c e rfl) ho (I.freeC x c e)
 ·obtain ⟨e, n, ne, nf, d⟩ := I.pin p hp
  have nch : p.1 ∉ ch := fun z => (hch p.1 z).2.2.2 p hp rfl
  exact ⟨keep p.1 p.2 ne nf nch e n, free p.1 p.2 nch e n, ne, nf, d⟩
theorem Inv.un {t' : Nat} (I : Inv X pins σ H s) (u : Un X.fs [] H H' s.heap h') (hok : HOk X.prog X.w H' h') : Inv X pins σ H' { s with heap := h', toks := t' } := by
 obtain ⟨m, ⟨o, es, ep, ho, r⟩, _⟩ := id I.loc
 obtain ⟨sl, hL⟩ := u.any ho I.free (by simp)
 exact I.step (g' := s.gens) (d' := s.drawn) (ch := []) (fun _ z => nomatch z) (fun b o _ hb _ e n => u.keep b o e n hb (by simp)) (fun b o _ hb _ e n => u.slot b o e n hb (by simp)) (fun b o _ e n => u.free b o e n (by simp)) (fun b o _ e => u.there b o e (by simp)) u.tups u.frzs u.tbls (fun m' hm => by
  obtain ⟨o', es', ep', ho', r'⟩ := hm
  rw [ho] at ho'; cases ho'
  exact ⟨_, es', ep', hL, r'⟩) hok I.bare
theorem Inv.call {g' : Array GenState} {t' : Nat} {d' : Drawn} {ch : List Addr} (I : Inv X pins σ H s) (u : Un (frs X.stack) ch H H' s.heap h') (hok : HOk X.prog X.w H' h') (hg : AllBare g')
  (hch : ∀ b ∈ ch, (b ∈ X.ex ∨ X.s₀.heap.objs.size ≤ b) ∧ b ≠ X.env.locals ∧ (∀ x c, X.env.cells.lookup x = some c → c ≠ b) ∧ ∀ p ∈ X.pn ++ pins, p.1 ≠ b) :
  Inv X pins σ H' { s with heap := h', gens := g', drawn := d', toks := t' } := by
 obtain ⟨m, ⟨o, es, ep, ho, r⟩, _⟩ := id I.loc
 obtain ⟨sl, hL⟩ := u.any ho I.free fun z => (hch _ z).2.1 rfl
 exact I.step (ch := ch) hch (fun b o hL hb hc e n => u.keep b o e n (fun z => (List.mem_cons.mp (I.stkSub b z)).elim hL hb) hc) (fun b o _ _ hc e n => u.any e n hc) (fun b o hc e n => u.free b o e n hc) (fun b o hc e => u.there b o e hc) u.tups u.frzs u.tbls (fun m' hm => by
  obtain ⟨o', es', ep', ho', r'⟩ := hm
  rw [ho] at ho'; cases ho'
  exact ⟨_, es', ep', hL, r'⟩) hok hg
theorem Inv.turned {t' : Nat} {it : Addr} (I : Inv X pins σ H s) (k : ∀ b o, b ≠ it → s.heap.get? b = some o → h'.get? b = some o) (hn : H it = none) (hL : it ≠ X.env.locals)
  (h1 : it ∈ X.ex ∨ X.s₀.heap.objs.size ≤ it) (h2 : ∀ x c, X.env.cells.lookup x = some c → c ≠ it) (h3 : ∀ p ∈ X.pn ++ pins, p.1 ≠ it) : Inv X pins σ H { s with heap := h', toks := t' } := by
 have nit : ∀ b u, H b = some u → b ≠ it := fun b u e z => by rw [z, hn] at e; cases e
 refine I.step (g' := s.gens) (d' := s.drawn) (ch := [it]) (fun b hb => ?_) (fun b o _ _ hc e _ => k b o (fun z => hc (by simp [z])) e) (fun b o _ _ hc e _ => ⟨o.slots, k b o (fun z => hc (by simp [z])) e⟩) (fun _ _ _ _ n => n)
  (fun b o hc e => ⟨o, k b o (fun z => hc (by simp [z])) e⟩) (fun _ _ e => e) (fun _ _ _ e => e) (fun b ps e => ⟨#[], by rw [e]; simp⟩) (fun m hm => ?_) (fun b u e => ?_) I.bare
 ·have e : b = it := by simpa using hb
  subst e
  exact ⟨h1, hL, h2, h3⟩
 ·obtain ⟨o, es, ep, ho, r⟩ := hm
  exact ⟨o, es, ep, k _ o (Ne.symm hL) ho, r⟩
 ·refine (I.hok b u e).stay (fun c v hc q => k c v ?_ q) (fun _ q => q) fun _ _ q => q
  rcases hc with z | z
  ·rw [z]; exact nit b u e
  ·exact nit c _ z
theorem Inv.tok (I : Inv X pins σ H s) (t : Nat) : Inv X pins σ H { s with toks := t } := I.un (h' := s.heap) (t' := t) Un.refl I.hok
theorem Inv.kept {t' : Nat} (I : Inv X pins σ H s) (k : ∀ b u, s.heap.get? b = some u → h'.get? b = some u) : Inv X pins σ H { s with heap := h', toks := t' } := I.un (Un.kept k) (I.hok.kept k)
theorem Inv.laid {a : Addr} {o : HO} {t' : Nat} (I : Inv X pins σ H s) (k : ∀ b u, s.heap.get? b = some u → h'.get? b = some u) (hp : s.heap.objs.size ≤ a) (new : ObjOk X.prog X.w (upd H a o) h' a o) :
  Inv X pins σ (upd H a o) { s with heap := h', toks := t' } := I.un (Un.laid k hp (I.hok.fresh hp)) (I.hok.laid k hp new)
theorem Inv.write {x e : Addr} {o : HO} {t' : Nat} (I : Inv X pins σ H s) (mu : Mut (H x)) (he : e = x ∨ H e = some (.own x)) (k : ∀ b u, b ≠ e → s.heap.get? b = some u → h'.get? b = some u) (heo : ∃ u, h'.get? e = some u)
  (new : ObjOk X.prog X.w (upd H x o) h' x o) : Inv X pins σ (upd H x o) { s with heap := h', toks := t' } := I.un (Un.write mu he k heo) (I.hok.write mu he k heo new)
theorem Inv.pins_of {pins' : List (Addr × Obj)} (I : Inv X pins σ H s) (h : ∀ p ∈ pins', s.heap.get? p.1 = some p.2 ∧ H p.1 = none ∧ p.1 ≠ X.env.locals ∧ p.1 ∉ X.fs ∧ ∀ v, p.2.data ≠ .cell v) : Inv X pins' σ H s :=
 ⟨I.ok, I.os, I.bare, I.base, I.loc, I.cell, I.free, I.freeC, fun p hp => (List.mem_append.mp hp).elim (fun z => I.pin p (List.mem_append_left _ z)) (h p), I.hok, I.len⟩
theorem nodup_ix {N : List Str} (hN : N.Nodup) {i j : Nat} {x : Str} (a : N[i]? = some x) (b : N[j]? = some x) : i = j := by
 obtain ⟨h1, e1⟩ := List.getElem?_eq_some_iff.mp a
 obtain ⟨h2, e2⟩ := List.getElem?_eq_some_iff.mp b
 exact (List.getElem_inj hN).mp (e1.trans e2.symm)
theorem store_ok2 {M : Model} {A : Around} {E : Value → Shared → Prop} {i : Nat} {x : Str} {v : V} {u : Value} {Q : Unit → Shared → Prop} (I : Inv X pins σ H s) (hN : X.N.Nodup) (hi : X.N[i]? = some x) (hx : Loc X.env.scope x) (r : RelV v u)
  (h : ∀ s', Inv X pins (σ.set i (some v)) H s' → (∃ a, Heap.SameBut a s.heap s'.heap ∧ (a = X.env.locals ∨ X.env.cells.lookup x = some a)) → Q () s') (hf : X.fn x = true ∨ X.env.scope.names.lookup x = some .local := by first | exact .inl rfl | exact .inr rfl | assumption) : wpAny M A (storeName X.env x u) Q E s := by
 obtain ⟨m, hn, hl⟩ := id I.loc
 have hcls : (X.env.scope.kind == .class || (X.env.scope.kind == .module && X.env.locals != X.env.globals)) = false := by rw [I.ok.kind]; rfl
 have hiσ : i < σ.length := by rw [I.len]; exact (List.getElem?_eq_some_iff.mp hi).1
 have cne := I.cne
 have tracked : ∀ {a : Addr} {h' : Heap}, (∃ o, s.heap.get? a = some o ∧ H a = none) → Heap.SameBut a s.heap h' → HOk X.prog X.w H h' := fun {a h'} ha hs b ob e => by
  obtain ⟨_, _, hfree⟩ := ha
  refine (I.hok b ob e).stay (fun c w' hc q => (hs.2 c ?_).trans q) (fun _ q => q) fun _ _ q => q
  rintro rfl
  rcases hc with rfl | hc
  ·rw [hfree] at e; cases e
  ·rw [hfree] at hc; cases hc
 rcases hx with hk | hk
 ·refine wpAny_storeName_local hk hn (fun h' hn' hs => ?_) hcls
  obtain ⟨oL, _, _, hoL, _⟩ := id hn
  refine h _ ⟨I.ok, I.os, I.bare, ⟨fun b o e n hb hx => ?_, fun b o e n hb hx => ?_, I.base.free, fun b o e hx => ?_, I.base.tups, I.base.frzs, I.base.tbls⟩, ⟨_, hn', fun j y v' e1 e2 e3 => ?_⟩, fun y c e => ?_, I.free, I.freeC, fun p hp => ?_, tracked ⟨oL, hoL, I.free⟩ hs, by simpa using I.len⟩ ⟨_, hs, .inl rfl⟩
  ·exact (hs.2 b (Nat.ne_of_lt (Nat.lt_of_lt_of_le (Heap.lt_size e) I.ok.above))).trans (I.base.keep b o e n hb hx)
  ·obtain ⟨sl, e1⟩ := I.base.slot b o e n hb hx
   exact ⟨sl, (hs.2 b (Nat.ne_of_lt (Nat.lt_of_lt_of_le (Heap.lt_size e) I.ok.above))).trans e1⟩
  ·obtain ⟨o', e1⟩ := I.base.there b o e hx
   exact ⟨o', (hs.2 b (Nat.ne_of_lt (Nat.lt_of_lt_of_le (Heap.lt_size e) I.ok.above))).trans e1⟩
  ·by_cases hj : j = i
   ·subst hj
    rw [hi] at e1; cases e1
    rw [List.getElem?_set_self hiσ] at e2
    cases e2
    exact ⟨u, r, .inl ⟨hk, by simp⟩⟩
   ·rw [List.getElem?_set_ne (Ne.symm hj)] at e2
    obtain ⟨u', r', q⟩ := hl j y v' e1 e2 e3
    refine ⟨u', r', ?_⟩
    rcases q with ⟨k, e⟩ | ⟨k, c, e, z⟩
    ·refine .inl ⟨k, ?_⟩
     have : y ≠ x := fun e => hj (nodup_ix hN e1 (e ▸ hi))
     simp [this, e]
    ·exact .inr ⟨k, c, e, z.sameBut hs (cne y c e)⟩
  ·obtain ⟨w', z⟩ := I.cell y c e
   exact ⟨w', z.sameBut hs (cne y c e)⟩
  ·obtain ⟨e, n, ne, nf, d⟩ := I.pin p hp
   exact ⟨(hs.2 p.1 ne).trans e, n, ne, nf, d⟩
 ·have hfn : X.fn x = true := by
   rcases hf with z | z
   ·exact z
   ·rw [z] at hk; cases hk
  obtain ⟨c, hc⟩ := I.ok.has x (.inl hk)
  obtain ⟨w', z⟩ := I.cell x c hc
  refine wpAny_storeName_cell I.ok.kind hk hc z (fun h' hc' hs => ?_)
  obtain ⟨oc, hoc, hocd⟩ := id z
  refine h { s with heap := h' } ⟨I.ok, I.os, I.bare, ⟨fun b o e n hb hx => ?_, fun b o e n hb hx => ?_, I.base.free, fun b o e hx => ?_, I.base.tups, I.base.frzs, I.base.tbls⟩, ⟨m, hn.sameBut hs (Ne.symm (cne x c hc)), fun j y v' e1 e2 e3 => ?_⟩, fun y c' e => ?_, I.free, I.freeC, fun p hp => ?_, tracked ⟨oc, hoc, I.freeC x c hc⟩ hs, by simpa using I.len⟩ ⟨c, hs, .inr hc⟩
  ·exact (hs.2 b (Nat.ne_of_lt (Nat.lt_of_lt_of_le (Heap.lt_size e) (I.ok.cab x c hfn hc)))).trans (I.base.keep b o e n hb hx)
  ·obtain ⟨sl, e1⟩ := I.base.slot b o e n hb hx
   exact ⟨sl, (hs.2 b (Nat.ne_of_lt (Nat.lt_of_lt_of_le (Heap.lt_size e) (I.ok.cab x c hfn hc)))).trans e1⟩
  ·obtain ⟨o', e1⟩ := I.base.there b o e hx
   exact ⟨o', (hs.2 b (Nat.ne_of_lt (Nat.lt_of_lt_of_le (Heap.lt_size e) (I.ok.cab x c hfn hc)))).trans e1⟩
  ·by_cases hj : j = i
   ·subst hj
    rw [hi] at e1; cases e1
    rw [List.getElem?_set_self hiσ] at e2
    cases e2
    exact ⟨u, r, .inr ⟨.inl hk, c, hc, hc'⟩⟩
   ·rw [List.getElem?_set_ne (Ne.symm hj)] at e2
    obtain ⟨u', r', q⟩ := hl j y v' e1 e2 e3
    refine ⟨u', r', ?_⟩
    rcases q with q | ⟨k, c', e, z'⟩
    ·exact .inl q
    ·refine .inr ⟨k, c', e, z'.sameBut hs ?_⟩
     rintro rfl
     exact hj (nodup_ix hN e1 (I.ok.inj _ _ _ e hc ▸ hi))
  ·by_cases hcc : c' = c
   ·subst hcc; exact ⟨_, hc'⟩
   ·obtain ⟨w2, z2⟩ := I.cell y c' e
    exact ⟨w2, z2.sameBut hs hcc⟩
  ·obtain ⟨e, n, ne, nf, d⟩ := I.pin p hp
   refine ⟨(hs.2 p.1 ?_).trans e, n, ne, nf, d⟩
   intro q
   rw [q, hoc] at e
   have q' : oc = p.2 := Option.some.inj e
   exact d w' (by rw [← q']; exact hocd)
theorem store_ok {M : Model} {A : Around} {E : Value → Shared → Prop} {i : Nat} {x : Str} {v : V} {u : Value} {Q : Unit → Shared → Prop} (I : Inv X pins σ H s) (hN : X.N.Nodup) (hi : X.N[i]? = some x) (hx : Loc X.env.scope x) (r : RelV v u)
  (h : ∀ s', Inv X pins (σ.set i (some v)) H s' → Q () s') (hf : X.fn x = true ∨ X.env.scope.names.lookup x = some .local := by first | exact .inl rfl | exact .inr rfl | assumption) : wpAny M A (storeName X.env x u) Q E s :=
 store_ok2 I hN hi hx r (fun s' I' _ => h s' I') hf
theorem Inv.call' {s' : Shared} {ch : List Addr} (I : Inv X pins σ H s) (ho : s'.os = s.os) (u : Un (frs X.stack) ch H H' s.heap s'.heap) (hok : HOk X.prog X.w H' s'.heap) (hg : AllBare s'.gens)
  (hch : ∀ b ∈ ch, (b ∈ X.ex ∨ X.s₀.heap.objs.size ≤ b) ∧ b ≠ X.env.locals ∧ (∀ x c, X.env.cells.lookup x = some c → c ≠ b) ∧ ∀ p ∈ X.pn ++ pins, p.1 ≠ b) : Inv X pins σ H' s' := by
 obtain ⟨h', g', d', t', o'⟩ := s'
 have e : o' = s.os := ho
 subst e
 exact I.call (g' := g') (t' := t') (d' := d') u hok hg hch
end
noncomputable abbrev XK := Value → Option Addr → Hp → Prop
noncomputable abbrev St := List (Option V)
noncomputable abbrev VK := V → Hp → Prop
noncomputable abbrev TE := St → Hp → VK → Prop
noncomputable abbrev TT := St → Hp → (Bool → Hp → Prop) → Prop
noncomputable abbrev TA := St → Hp → (List V → Hp → Prop) → Prop
structure Ends where
 nx : St → Hp → Prop
 rt : VK
 bk : St → Hp → Prop := fun _ _ => False
 ct : St → Hp → Prop := fun _ _ => False
noncomputable abbrev TS := Ends → St → Hp → Prop
noncomputable def EP (X : Cx) (pins : List (Addr × Obj)) (σ : St) (Q : VK) (u : Value) (s' : Shared) : Prop := ∃ v H', Inv X pins σ H' s' ∧ RelV v u ∧ Q v H'
noncomputable def TP (X : Cx) (pins : List (Addr × Obj)) (σ : St) (Q : Bool → Hp → Prop) (b : Bool) (s' : Shared) : Prop := ∃ H', Inv X pins σ H' s' ∧ Q b H'
noncomputable def AP (X : Cx) (pins : List (Addr × Obj)) (σ : St) (Q : List V → Hp → Prop) (us : List Value) (s' : Shared) : Prop := ∃ vs H', Inv X pins σ H' s' ∧ Vals vs us ∧ Q vs H'
noncomputable def SP (X : Cx) (pins : List (Addr × Obj)) (D : Ends) (f : Flow) (s' : Shared) : Prop :=
 match f with
 | .next => ∃ σ' H', Inv X pins σ' H' s' ∧ D.nx σ' H'
 | .brk => ∃ σ' H', Inv X pins σ' H' s' ∧ D.bk σ' H'
 | .cont => ∃ σ' H', Inv X pins σ' H' s' ∧ D.ct σ' H'
 | .ret u => ∃ v σ' H', Inv X pins σ' H' s' ∧ RelV v u ∧ D.rt v H'
noncomputable def PE (X : Cx) (e : Expr) (t : TE) : Prop :=
 ∀ (pins : List (Addr × Obj)) (s : Shared) (σ : St) (H : Hp) (Q : VK), Inv X pins σ H s → t σ H Q → wpAny (model X.prog X.w) X.A (eval e X.env) (EP X pins σ Q) X.xe s
noncomputable def PT (X : Cx) (e : Expr) (t : TT) : Prop :=
 ∀ (pins : List (Addr × Obj)) (s : Shared) (σ : St) (H : Hp) (Q : Bool → Hp → Prop), Inv X pins σ H s → t σ H Q → wpAny (model X.prog X.w) X.A (isTrue e X.env (eval e X.env)) (TP X pins σ Q) X.xe s
noncomputable def PW (X : Cx) (e : Expr) (t : TT) : Prop :=
 ∀ (whole : Sem Value) (pins : List (Addr × Obj)) (s : Shared) (σ : St) (H : Hp) (Q : Bool → Hp → Prop), Inv X pins σ H s → t σ H Q → wpAny (model X.prog X.w) X.A (isTrue e X.env whole) (TP X pins σ Q) X.xe s
theorem PW.pt {X : Cx} {e : Expr} {t : TT} (h : PW X e t) : PT X e t := h _
noncomputable def PA (X : Cx) (es : List Expr) (t : TA) : Prop :=
 ∀ (pos : Pos) (pins : List (Addr × Obj)) (s : Shared) (σ : St) (H : Hp) (Q : List V → Hp → Prop), Inv X pins σ H s → t σ H Q → wpAny (model X.prog X.w) X.A (spliced (backTo pos (starEach es X.env))) (AP X pins σ Q) X.xe s
noncomputable def PS (X : Cx) (st : Stmt) (t : TS) : Prop :=
 ∀ (pins : List (Addr × Obj)) (s : Shared) (σ : St) (H : Hp) (D : Ends), Inv X pins σ H s → t D σ H → wpAny (model X.prog X.w) X.A (exec st X.env) (SP X pins D) X.xe s
noncomputable def PSs (X : Cx) (st : List Stmt) (t : TS) : Prop :=
 ∀ (pins : List (Addr × Obj)) (s : Shared) (σ : St) (H : Hp) (D : Ends), Inv X pins σ H s → t D σ H → wpAny (model X.prog X.w) X.A (execs st X.env) (SP X pins D) X.xe s
theorem thn {α : Type} {t : Sem α} {Q Q' : α → Shared → Prop} {M : Model} {A : Around} {E : Value → Shared → Prop} {s : Shared} (h : wpAny M A t Q E s) (hQ : ∀ a s, Q a s → Q' a s) : wpAny M A t Q' E s := wpAny_mono h hQ fun _ _ x => x
end L2
namespace L2
open PySem PySem.Spec PyProof.Rows
section
variable {X : Cx}
noncomputable def tVar (i : Nat) : TE := fun σ H Q => ∃ v, σ[i]? = some (some v) ∧ Q v H
noncomputable def tC (v : V) : TE := fun _ H Q => Q v H
theorem pe_var {i : Nat} {x : Str} {pos : Pos} (hN : X.N[i]? = some x) (hv : Vis X.env.scope x) (hd : (x == ("__debug__" : Str)) = false := by decide) (hcd : (x == ("__classdict__" : Str)) = false := by decide) : PE X (.Name x pos) (tVar i) := by
 intro pins s σ H Q I h
 obtain ⟨v, e, h⟩ := h
 obtain ⟨m, hn, hl⟩ := I.loc
 obtain ⟨u, r, l⟩ := hl i x v hN e hv
 have fin : EP X pins σ Q u s := ⟨v, H, I, r, h⟩
 rcases l with ⟨hk, hm⟩ | ⟨hk, c, hc, hcell⟩
 ·exact wpAny_Name (wpAny_loadName_local I.ok.kind hk hn hm fin) hd
 ·rcases hk with hk | hk
  ·exact wpAny_Name (wpAny_loadName_cell I.ok.kind hk hc hcell fin) hd
  ·exact wpAny_Name (wpAny_loadName_free I.ok.kind hk hc hcell fin hcd) hd
theorem pe_int {i j pos} : PE X (.Constant (.int i) j pos) (tC (.int i)) := fun _ _ _ H _ I h => wpAny_Constant_int ⟨.int i, H, I.tok _, ⟨_, rfl⟩, h⟩
theorem pe_bl {b j pos} : PE X (.Constant (.bool b) j pos) (tC (.bl b)) := fun _ _ _ H _ I h => Constant_bool ⟨.bl b, H, I, rfl, h⟩
theorem pe_non {j pos} : PE X (.Constant .none j pos) (tC .non) := fun _ _ _ H _ I h => Constant_none ⟨.non, H, I, rfl, h⟩
theorem pe_str {x j pos} : PE X (.Constant (.str x) j pos) (tC (.str x)) := fun _ _ _ H _ I h => Calls.Constant_str ⟨.str x, H, I.tok _, ⟨_, rfl⟩, h⟩
noncomputable def Gl (X : Cx) (x : Str) : Prop := X.env.kindOf x = some .globalImplicit
theorem ld_glob {E : Value → Shared → Prop} {pins : List (Addr × Obj)} {s : Shared} {σ : St} {H : Hp} {x : Str} {u : Value} {pos : Pos} {Q : Value → Shared → Prop} (I : Inv X pins σ H s) (hg : Gl X x) (hm : X.mg x = some u) (h : Q u s)
  (hd : (x == ("__debug__" : Str)) = false := by decide) : wpAny (model X.prog X.w) X.A (eval (.Name x pos) X.env) Q E s :=
 Calls.Name_function_global I.ok.kind hg (Calls.loadGlobal_global (by rw [I.ok.glob]; exact I.mod.glob.keeps I.bk) hm h) hd
theorem ld_blt {E : Value → Shared → Prop} {pins : List (Addr × Obj)} {s : Shared} {σ : St} {H : Hp} {x : Str} {u : Value} {pos : Pos} {Q : Value → Shared → Prop} (I : Inv X pins σ H s) (hg : Gl X x) (hm : X.mg x = none) (hv : bootBuiltins x = some u) (h : Q u s)
  (hn : x ≠ "__name__" := by decide) (hd : (x == ("__debug__" : Str)) = false := by decide) : wpAny (model X.prog X.w) X.A (eval (.Name x pos) X.env) Q E s := by
 obtain ⟨mb, h1, h2⟩ := I.mod.blt
 exact Calls.Name_function_global I.ok.kind hg (Calls.loadGlobal_builtin (by rw [I.ok.glob]; exact I.mod.glob.keeps I.bk) hm (by rw [I.ok.blt]; exact h1.keeps I.bk) ((h2 x hn).trans hv) h) hd
theorem pe_glob {x : Str} {v : V} {u : Value} {pos : Pos} (hg : Gl X x) (hm : X.mg x = some u) (r : RelV v u) (hd : (x == ("__debug__" : Str)) = false := by decide) : PE X (.Name x pos) (tC v) :=
 fun _ _ _ H _ I h => ld_glob I hg hm ⟨v, H, I, r, h⟩ hd
theorem pe_bltn {x : Str} {v : V} {u : Value} {pos : Pos} (hg : Gl X x) (hm : X.mg x = none) (hv : bootBuiltins x = some u) (r : RelV v u) (hn : x ≠ "__name__" := by decide) (hd : (x == ("__debug__" : Str)) = false := by decide) : PE X (.Name x pos) (tC v) :=
 fun _ _ _ H _ I h => ld_blt I hg hm hv ⟨v, H, I, r, h⟩ hn hd
variable {a b : Expr} {ta tb : TE} {pos : Pos}
noncomputable def PC (X : Cx) (op : CmpOp) (a b : Expr) (t : TE) : Prop :=
 ∀ (pins : List (Addr × Obj)) (s : Shared) (σ : St) (H : Hp) (Q : VK), Inv X pins σ H s → t σ H Q →
  wpAny (model X.prog X.w) X.A (eval a X.env) (fun v s₁ => wpAny (model X.prog X.w) X.A (eval b X.env) (fun u s₂ => wpAny (model X.prog X.w) X.A (compareOp op v u) (EP X pins σ Q) X.xe s₂) X.xe s₁) X.xe s
noncomputable def tB (t : TE) : TT := fun σ H Q => t σ H fun x H1 => ∃ c, x = .bl c ∧ Q c H1
theorem pt_cmp {op : CmpOp} {t : TE} (h : PC X op a b t) (h1 : behindInMarks op b = false := by first | exact nobehind _ (by decide) (by decide) | rfl) : PT X (.Compare a [op] [b] pos) (tB t) := by
 intro pins s σ H Q I hw
 refine wpAny_isTrue_Compare1 (thn (h pins s σ H _ I hw) fun v s1 h1 => thn h1 fun u s2 h2 => thn h2 fun c s3 zz0 => ?_) h1
 obtain ⟨x, H1, I1, r1, q1⟩ := zz0
 obtain ⟨d, rfl, q⟩ := q1
 cases r1
 exact wpAny_truthy_bool ⟨H1, I1, q⟩
theorem pt_val {e : Expr} {t : TE} (h : PE X e t) (he : ∀ whole, isTrue e X.env whole = (do let v ← whole; standAt e.pos; holding [v] (truthy v)) := by intro _; rfl) : PT X e (tB t) := by
 intro pins s σ H Q I hw
 refine isTrue_plain (thn (h pins s σ H _ I hw) fun v s1 zz1 => ?_) (he _)
 obtain ⟨x, H1, I1, r1, q1⟩ := zz1
 obtain ⟨d, rfl, q⟩ := q1
 cases r1
 exact wpAny_truthy_bool ⟨H1, I1, q⟩
variable {tA tB' : TT} {rest : List Expr}
noncomputable def tAnd (t u : TT) : TT := fun σ H Q => t σ H fun c H1 => if c = true then u σ H1 Q else Q false H1
noncomputable def tOr (t u : TT) : TT := fun σ H Q => t σ H fun c H1 => if c = true then Q true H1 else u σ H1 Q
noncomputable def tNot (t : TT) : TT := fun σ H Q => t σ H fun c H1 => Q (!c) H1
theorem pw_and1 (ha : PT X a tA) : PW X (.BoolOp .And [a] pos) tA := by
 intro wh pins s σ H Q I h
 refine isTrue_and (thn (ha pins s σ H Q I h) fun c s1 e => ?_)
 cases c with
 | true => exact isTrue_and_nil e
 | false => exact e
theorem pw_or1 (ha : PT X a tA) : PW X (.BoolOp .Or [a] pos) tA := by
 intro wh pins s σ H Q I h
 refine isTrue_or (thn (ha pins s σ H Q I h) fun c s1 e => ?_)
 cases c with
 | false => exact isTrue_or_nil e
 | true => exact e
theorem pw_and (ha : PT X a tA) (hb : PW X (.BoolOp .And (b :: rest) pos) tB') : PW X (.BoolOp .And (a :: b :: rest) pos) (tAnd tA tB') := by
 intro wh pins s σ H Q I h
 refine isTrue_and (thn (ha pins s σ H _ I h) fun c s1 zz9 => ?_)
 obtain ⟨H1, I1, q1⟩ := zz9
 cases c with
 | true => exact hb wh pins s1 σ H1 Q I1 q1
 | false => exact ⟨H1, I1, q1⟩
theorem pw_or (ha : PT X a tA) (hb : PW X (.BoolOp .Or (b :: rest) pos) tB') : PW X (.BoolOp .Or (a :: b :: rest) pos) (tOr tA tB') := by
 intro wh pins s σ H Q I h
 refine isTrue_or (thn (ha pins s σ H _ I h) fun c s1 zz9 => ?_)
 obtain ⟨H1, I1, q1⟩ := zz9
 cases c with
 | true => exact ⟨H1, I1, q1⟩
 | false => exact hb wh pins s1 σ H1 Q I1 q1
theorem pt_not (ha : PT X a tA) : PT X (.UnaryOp .Not a pos) (tNot tA) := by
 intro pins s σ H Q I h
 exact isTrue_not (ha pins s σ H (fun c H1 => Q (!c) H1) I h)
noncomputable def tAndV (ta tb : TE) : TE := fun σ H Q => ta σ H fun x H1 => ∃ c, x = .bl c ∧ if c = true then tb σ H1 Q else Q (.bl false) H1
theorem pe_one {op} {t : TE} (h : PE X a t) : PE X (.BoolOp op [a] pos) t := fun pins s σ H Q I hw => BoolOp_one (h pins s σ H Q I hw)
theorem pe_and (ha : PE X a ta) (hb : PE X (.BoolOp .And (b :: rest) pos) tb) : PE X (.BoolOp .And (a :: b :: rest) pos) (tAndV ta tb) := by
 intro pins s σ H Q I h
 refine BoolOp_and (thn (ha pins s σ H _ I h) fun v s1 zz9 => ?_)
 obtain ⟨x, H1, I1, r1, q1⟩ := zz9
 obtain ⟨c, rfl, q1⟩ := q1
 cases r1
 refine wpAny_truthy_bool ?_
 cases c with
 | true => exact hb pins s1 σ H1 Q I1 q1
 | false => exact ⟨.bl false, H1, I1, rfl, q1⟩
noncomputable def tIf (t : TT) (ta tb : TE) : TE := fun σ H Q => t σ H fun c H1 => if c = true then ta σ H1 Q else tb σ H1 Q
theorem pe_ifExp {c : Expr} (hc : PT X c tA) (ha : PE X a ta) (hb : PE X b tb) : PE X (.IfExp c a b pos) (tIf tA ta tb) := by
 intro pins s σ H Q I h
 refine wpAny_IfExp (thn (hc pins s σ H _ I h) fun d s1 zz9 => ?_)
 obtain ⟨H1, I1, q1⟩ := zz9
 cases d with
 | true => exact ha pins s1 σ H1 Q I1 q1
 | false => exact hb pins s1 σ H1 Q I1 q1
end
end L2
namespace L2
open PySem PySem.Spec PyProof.Rows
noncomputable def SqL (K : PySem.W.Frag) (H : Hp) (a : Addr) (xs : List V) : Prop :=
 Rd H a (.lst xs) ∨
  ∃ (o : Obj) (its : Array Value) (n : Nat), K.lookup a = some o ∧ o.cls = .type "list" ∧ o.dict = none ∧ o.data = .seq its n ∧ its.size ≤ sizeLine ∧ Vals xs its.toList
noncomputable def SqT (K : PySem.W.Frag) (H : Hp) (a : Addr) (xs : List V) : Prop :=
 Rd H a (.tup xs) ∨
  ∃ (o : Obj) (its : Array Value) (n : Nat), K.lookup a = some o ∧ o.cls = .type "tuple" ∧ o.data = .seq its n ∧ its.size ≤ sizeLine ∧ Vals xs its.toList
noncomputable def absV : Value → Option V
 | .none => some .non
 | .bool b => some (.bl b)
 | .int i _ => some (.int i)
 | .str x _ => some (.str x)
 | .bytes b _ => some (.byt b)
 | .float b _ => some (.flt b)
 | .ref a => some (.ref a)
 | .type n => some (.ty n)
 | _ => none
theorem RelV.abs {x : V} {u : Value} (r : RelV x u) : absV u = some x := by
 cases x with
 | non => cases r; rfl
 | bl _ => cases r; rfl
 | int _ => obtain ⟨t, rfl⟩ := r; rfl
 | str _ => obtain ⟨t, rfl⟩ := r; rfl
 | byt _ => obtain ⟨t, rfl⟩ := r; rfl
 | flt _ => obtain ⟨t, rfl⟩ := r; rfl
 | ref _ => cases r; rfl
 | ty _ => cases r; rfl
theorem RelV.inj {x y : V} {u : Value} (r : RelV x u) (q : RelV y u) : x = y := Option.some.inj (r.abs.symm.trans q.abs)
theorem Vals.inj : ∀ {xs ys : List V} {us : List Value}, Vals xs us → Vals ys us → xs = ys
 | _, _, _, .nil, .nil => rfl
 | _, _, _, .cons r t, .cons r' t' => by rw [r.inj r', Vals.inj t t']
section
variable {X : Cx} {pins : List (Addr × Obj)} {σ : St} {H : Hp} {s : Shared} {a : Addr} {xs ys : List V}
theorem SqL.of {K : PySem.W.Frag} (h : H a = some (.lst xs)) : SqL K H a xs := .inl (.inl h)
theorem SqT.of {K : PySem.W.Frag} (h : H a = some (.tup xs)) : SqT K H a xs := .inl (.inl h)
theorem Inv.list (I : Inv X pins σ H s) (h : SqL X.K H a xs) : ∃ its : List Value, Vals xs its ∧ PlainL s.heap a its.toArray ∧ xs.length ≤ sizeLine := by
 rcases h with h | ⟨o, its, n, hk, hc, hd, hs, hz, r⟩
 ·obtain ⟨z, its, n, r, e⟩ := h.ok I.hok
  exact ⟨its, r, ⟨_, n, e, rfl, rfl, rfl⟩, z⟩
 ·refine ⟨its.toList, r, ⟨o, n, I.kIn a o hk, hc, hd, by simpa using hs⟩, ?_⟩
  have e := r.length
  simp only [Array.length_toList] at e
  omega
theorem Inv.tuple (I : Inv X pins σ H s) (h : SqT X.K H a xs) : ∃ its : List Value, Vals xs its ∧ IsTup s.heap a its.toArray ∧ xs.length ≤ sizeLine := by
 rcases h with h | ⟨o, its, n, hk, hc, hs, hz, r⟩
 ·obtain ⟨z, its, r, p⟩ := h.ok I.hok
  exact ⟨its, r, p, z⟩
 ·refine ⟨its.toList, r, ⟨o, I.kIn a o hk, hc, n, by simpa using hs⟩, ?_⟩
  have e := r.length
  simp only [Array.length_toList] at e
  omega
theorem Inv.list_inj (I : Inv X pins σ H s) (h : SqL X.K H a xs) (h' : SqL X.K H a ys) : xs = ys := by
 obtain ⟨its, r, ⟨o, n, e, _, _, d⟩, _⟩ := I.list h
 obtain ⟨its', r', ⟨o', n', e', _, _, d'⟩, _⟩ := I.list h'
 rw [e] at e'; cases e'
 rw [d] at d'
 injection d' with d1 _
 have : its = its' := by simpa using congrArg Array.toList d1
 subst this
 exact r.inj r'
theorem Inv.tuple_inj (I : Inv X pins σ H s) (h : SqT X.K H a xs) (h' : SqT X.K H a ys) : xs = ys := by
 obtain ⟨its, r, ⟨o, e, _, n, d⟩, _⟩ := I.tuple h
 obtain ⟨its', r', ⟨o', e', _, n', d'⟩, _⟩ := I.tuple h'
 rw [e] at e'; cases e'
 rw [d] at d'
 injection d' with d1 _
 have : its = its' := by simpa using congrArg Array.toList d1
 subst this
 exact r.inj r'
end
noncomputable abbrev Cx.wish (X : Cx) (E : Value → Shared → Prop) : Cx := { X with xe := E }
noncomputable abbrev Cx.nox (X : Cx) : Cx := X.wish fun _ _ => False
theorem Cx.Ok.wish {X : Cx} (ok : X.Ok) (E : Value → Shared → Prop) : (X.wish E).Ok :=
 ⟨ok.mod, ok.kind, ok.glob, ok.blt, ok.above, ok.inj, ok.has, ok.cab, ok.hd, ok.frames, ok.stk, ok.exf, ok.bs, ok.bsz, ok.noex, ok.exfs, ok.funs, ok.frf⟩
theorem Cx.Ok.unwish {X : Cx} {E : Value → Shared → Prop} (ok : (X.wish E).Ok) : X.Ok :=
 ⟨ok.mod, ok.kind, ok.glob, ok.blt, ok.above, ok.inj, ok.has, ok.cab, ok.hd, ok.frames, ok.stk, ok.exf, ok.bs, ok.bsz, ok.noex, ok.exfs, ok.funs, ok.frf⟩
section
variable {X : Cx} {pins : List (Addr × Obj)} {σ : St} {H : Hp} {s : Shared} {E : Value → Shared → Prop}
theorem Inv.wish (I : Inv X pins σ H s) (E : Value → Shared → Prop) : Inv (X.wish E) pins σ H s := ⟨I.ok.wish E, I.os, I.bare, I.base, I.loc, I.cell, I.free, I.freeC, I.pin, I.hok, I.len⟩
theorem Inv.unwish (I : Inv (X.wish E) pins σ H s) : Inv X pins σ H s := ⟨I.ok.unwish, I.os, I.bare, I.base, I.loc, I.cell, I.free, I.freeC, I.pin, I.hok, I.len⟩
theorem SP.unwish {D : Ends} {f : Flow} {s' : Shared} (h : SP (X.wish E) pins D f s') : SP X pins D f s' := by
 cases f with
 | next => obtain ⟨σ', H', I, q⟩ := h; exact ⟨σ', H', I.unwish, q⟩
 | brk => obtain ⟨σ', H', I, q⟩ := h; exact ⟨σ', H', I.unwish, q⟩
 | cont => obtain ⟨σ', H', I, q⟩ := h; exact ⟨σ', H', I.unwish, q⟩
 | ret u => obtain ⟨v, σ', H', I, r, q⟩ := h; exact ⟨v, σ', H', I.unwish, r, q⟩
theorem PSs.nox {st : List Stmt} {t : TS} (h : PSs X.nox st t) : PSs X st t := fun pins s σ H D I hw =>
 wpAny_mono (h pins s σ H D (I.wish _) hw) (fun _ _ q => q.unwish) fun _ _ z => False.elim z
end
section
variable {X : Cx} {st : Stmt} {rest : List Stmt} {t u : TS} {e : Expr} {te : TE} {pos : Pos}
noncomputable def tNext : TS := fun D σ H => D.nx σ H
noncomputable def tSeq (t u : TS) : TS := fun D σ H => t { D with nx := u D } σ H
theorem pss_nil : PSs X [] tNext := fun _ _ σ H _ I h => wpAny_execs_nil ⟨σ, H, I, h⟩
theorem pss_cons (h1 : PS X st t) (h2 : PSs X rest u) : PSs X (st :: rest) (tSeq t u) := by
 intro pins s σ H D I h
 refine wpAny_execs_cons (thn (h1 pins s σ H { D with nx := u D } I h) fun f s1 q => ?_)
 cases f with
 | next =>
  obtain ⟨σ', H', I', q⟩ := q
  exact h2 pins s1 σ' H' D I' q
 | ret v => exact q
 | brk => exact q
 | cont => exact q
theorem pss_one (h1 : PS X st t) : PSs X [st] t := by
 intro pins s σ H D I h
 refine wpAny_execs_cons (thn (h1 pins s σ H D I h) fun f s1 q => ?_)
 cases f with
 | next => exact wpAny_execs_nil q
 | ret v => exact q
 | brk => exact q
 | cont => exact q
noncomputable def tBreak : TS := fun D σ H => D.bk σ H
theorem ps_break : PS X (.Break pos) tBreak := fun _ _ σ H _ I h => wpAny_Break ⟨σ, H, I, h⟩
theorem Inv.quiet {pins : List (Addr × Obj)} {σ : St} {H : Hp} {s : Shared} (I : Inv X pins σ H s) : interactive X.env = false := by simp [interactive, I.ok.kind]
noncomputable def tDrop (te : TE) : TS := fun D σ H => te σ H fun _ H1 => D.nx σ H1
theorem ps_expr (he : PE X e te) (hs : swapsWith e none pos.line X.env = pure false := by rfl) : PS X (.Expr e pos) (tDrop te) := by
 intro pins s σ H D I h
 refine wpAny_Expr_any (thn (he pins s σ H _ I h) fun v s1 zz2 => ?_) I.quiet hs
 obtain ⟨x, H1, I1, r1, q1⟩ := zz2
 exact ⟨σ, H1, I1, q1⟩
noncomputable def tRet (te : TE) : TS := fun D σ H => te σ H D.rt
theorem ps_ret (he : PE X e te) : PS X (.Return (some e) pos) (tRet te) := by
 intro pins s σ H D I h
 refine wpAny_Return_some (thn (he pins s σ H _ I h) fun v s1 zz3 => ?_)
 obtain ⟨x, H1, I1, r1, q1⟩ := zz3
 exact ⟨x, σ, H1, I1, r1, q1⟩
noncomputable def tIfS (c : TT) (t u : TS) : TS := fun D σ H => c σ H fun b H1 => if b = true then t D σ H1 else u D σ H1
theorem ps_if {c : Expr} {a b : List Stmt} {tc : TT} (hc : PT X c tc) (ha : PSs X a t) (hb : PSs X b u) : PS X (.If c a b pos) (tIfS tc t u) := by
 intro pins s σ H D I h
 refine wpAny_If (thn (hc pins s σ H _ I h) fun d s1 zz9 => ?_)
 obtain ⟨H1, I1, q1⟩ := zz9
 cases d with
 | true => exact ha pins s1 σ H1 D I1 q1
 | false => exact hb pins s1 σ H1 D I1 q1
noncomputable def tNever : TS := fun _ _ _ => False
theorem ps_never : PS X st tNever := fun _ _ _ _ _ _ h => h.elim
theorem pss_never {sts : List Stmt} : PSs X sts tNever := fun _ _ _ _ _ _ h => h.elim
end
noncomputable abbrev TG := V → St → Hp → (St → Hp → Prop) → Prop
noncomputable abbrev TGs := List V → St → Hp → (St → Hp → Prop) → Prop
noncomputable def PG (X : Cx) (target : Expr) (t : TG) : Prop :=
 ∀ (pins : List (Addr × Obj)) (s : Shared) (σ : St) (H : Hp) (v : V) (u : Value) (Q : St → Hp → Prop), Inv X pins σ H s → RelV v u → t v σ H Q →
  wpAny (model X.prog X.w) X.A (assign target X.env u) (fun _ s' => ∃ σ' H', Inv X pins σ' H' s' ∧ Q σ' H') X.xe s
noncomputable def PGs (X : Cx) (ts : List Expr) (t : TGs) : Prop :=
 ∀ (pins : List (Addr × Obj)) (s : Shared) (σ : St) (H : Hp) (vs : List V) (us : List Value) (Q : St → Hp → Prop), Inv X pins σ H s → Vals vs us → t vs σ H Q →
  wpAny (model X.prog X.w) X.A (assignInOrder ((assignEach ts X.env).map (·.2)) us) (fun _ s' => ∃ σ' H', Inv X pins σ' H' s' ∧ Q σ' H') X.xe s
noncomputable abbrev TSet := V → V → V → Hp → (Hp → Prop) → Prop
noncomputable def PSet (X : Cx) (t : TSet) : Prop :=
 ∀ (pins : List (Addr × Obj)) (s : Shared) (σ : St) (H : Hp) (o i v : V) (ov iv u : Value) (Q : Hp → Prop), Inv X pins σ H s → RelV o ov → RelV i iv → RelV v u → t o i v H Q →
  wpAny (model X.prog X.w) X.A (setItem ov iv u) (fun _ s' => ∃ H', Inv X pins σ H' s' ∧ Q H') X.xe s
noncomputable abbrev TIp := V → V → Hp → VK → Prop
noncomputable def PIp (X : Cx) (op : Operator) (t : TIp) : Prop :=
 ∀ (pins : List (Addr × Obj)) (s : Shared) (σ : St) (H : Hp) (x y : V) (v u : Value) (Q : VK), Inv X pins σ H s → RelV x v → RelV y u → t x y H Q →
  wpAny (model X.prog X.w) X.A (inplaceOp op v u) (EP X pins σ Q) X.xe s
section
variable {X : Cx} {pos : Pos}
noncomputable def gName (i : Nat) : TG := fun v σ H Q => Q (σ.set i (some v)) H
theorem pg_name {i : Nat} {x : Str} (hN : X.N.Nodup) (hi : X.N[i]? = some x) (hx : Loc X.env.scope x) (hf : X.fn x = true ∨ X.env.scope.names.lookup x = some .local := by first | exact .inl rfl | exact .inr rfl | assumption) : PG X (.Name x pos) (gName i) := by
 intro pins s σ H v u Q I r h
 exact wpAny_assign_Name (store_ok I hN hi hx r (fun s' I' => ⟨_, H, I', h⟩) hf)
noncomputable def gNil : TGs := fun vs σ H Q => vs = [] ∧ Q σ H
noncomputable def gCons (t : TG) (u : TGs) : TGs := fun vs σ H Q => ∃ v r, vs = v :: r ∧ t v σ H fun σ' H' => u r σ' H' Q
theorem pgs_nil : PGs X [] gNil := by
 intro pins s σ H vs us Q I r h
 obtain ⟨e, h⟩ := h
 subst e
 cases r
 exact assignInOrder_nil ⟨σ, H, I, h⟩
theorem pgs_cons {e : Expr} {es : List Expr} {t : TG} {u : TGs} (h1 : PG X e t) (h2 : PGs X es u)
  (hs : (assignEach (e :: es) X.env).map (·.2) = assign e X.env :: (assignEach es X.env).map (·.2) := by rfl) : PGs X (e :: es) (gCons t u) := by
 intro pins s σ H vs us Q I r h
 obtain ⟨v, vr, e1, h⟩ := h
 subst e1
 cases r with
 | cons r rr =>
  rw [hs]
  refine assignInOrder_cons (thn (h1 pins s σ H _ _ _ I r h) fun _ s1 zz9 => ?_)
  obtain ⟨σ1, H1, I1, q1⟩ := zz9
  exact h2 pins s1 σ1 H1 _ _ Q I1 rr q1
noncomputable def gTup (K : PySem.W.Frag) (n : Nat) (t : TGs) : TG := fun v σ H Q => ∃ a xs, v = .ref a ∧ SqT K H a xs ∧ xs.length = n ∧ t xs σ H Q
theorem pg_tup {es : List Expr} {k : Nat} {t : TGs} {n : Nat} (hc : X.calm = true) (h : PGs X es t)
  (hn : (assignEach es X.env).length = n := by rfl) (hst : (assignEach es X.env).findIdx? (·.1) = none := by rfl) : PG X (.Tuple es k pos) (gTup X.K n t) := by
 intro pins s σ H v u Q I r hw
 obtain ⟨a, xs, e1, hq, hl, hw⟩ := hw
 subst e1
 cases r
 obtain ⟨its, rv, ht, hz⟩ := I.tuple hq
 refine assign_Tuple_tuple (I.ok.hd hc) ht (by simp [hn, ← hl, rv.length]) hst fun h' hx => ?_
 have I1 : Inv X pins σ H { s with heap := h' } := I.kept (t' := s.toks) fun b o e => hx b o (Nat.ne_of_lt (Heap.lt_size e)) e
 exact h pins _ σ H xs _ Q I1 (by simpa using rv) hw
noncomputable def gSub (to ti : TE) (t : TSet) : TG := fun v σ H Q => to σ H fun o H1 => ti σ H1 fun i H2 => t o i v H2 fun H3 => Q σ H3
theorem pg_sub {o i : Expr} {to ti : TE} {t : TSet} (ho : PE X o to) (hi : PE X i ti) (hs : PSet X t)
  (ha : ∀ v, assign (.Subscript o i pos) X.env v = (do
   let ov ← holding [v] (eval o X.env)
   let iv ← holding [v, ov] (eval i X.env)
   standAt pos
   holding [v, ov, iv] (setItem ov iv v)
   release [v, ov, iv] []) := by intro _; rfl) : PG X (.Subscript o i pos) (gSub to ti t) := by
 intro pins s σ H v u Q I r h
 rw [ha]
 refine wpAny_bind (wpAny_holding (thn (ho pins s σ H _ I h) fun ov s1 zz9 => ?_))
 obtain ⟨x, H1, I1, r1, q1⟩ := zz9
 refine wpAny_bind (wpAny_holding (thn (hi pins s1 σ H1 _ I1 q1) fun iv s2 zz9 => ?_))
 obtain ⟨y, H2, I2, r2, q2⟩ := zz9
 refine wpAny_bind (wpAny_standAt (wpAny_bind (wpAny_holding (thn (hs pins s2 σ H2 x y v ov iv u _ I2 r1 r2 r q2) fun _ s3 zz9 => ?_))))
 obtain ⟨H3, I3, q3⟩ := zz9
 exact wpAny_release ⟨σ, H3, I3, q3⟩
noncomputable def tAsg (te : TE) (g : TG) : TS := fun D σ H => te σ H fun x H1 => g x σ H1 D.nx
theorem ps_asg {tg e : Expr} {te : TE} {g : TG} (he : PE X e te) (hg : PG X tg g) (hs : swapsWithSole [tg] e pos.line X.env = pure false := by rfl) (hw : swappedStores [tg] e X.env = pure none := by rfl)
  (h1 : (assignEach [tg] X.env).map (·.2) = [assign tg X.env] := by rfl) : PS X (.Assign [tg] e pos) (tAsg te g) := by
 intro pins s σ H D I h
 refine wpAny_Assign_stores (thn (he pins s σ H _ I h) fun v s1 zz4 => ?_) hs hw
 obtain ⟨x, H1, I1, r1, q1⟩ := zz4
 rw [h1]
 exact thn (hg pins s1 σ H1 x v _ I1 r1 q1) fun _ s2 q => q
theorem ps_set {i : Nat} {x : Str} {e : Expr} {te : TE} {pos' : Pos} (hN : X.N.Nodup) (hi : X.N[i]? = some x) (hx : Loc X.env.scope x) (he : PE X e te) (hs : swapsWith e (some (.Name x pos')) pos.line X.env = pure false := by rfl) (hf : X.fn x = true ∨ X.env.scope.names.lookup x = some .local := by first | exact .inl rfl | exact .inr rfl | assumption) :
  PS X (.Assign [.Name x pos'] e pos) (tAsg te (gName i)) := by
 intro pins s σ H D I h
 refine wpAny_Assign_Name (thn (he pins s σ H _ I h) fun v s1 zz5 => ?_) hs
 obtain ⟨y, H1, I1, r1, q1⟩ := zz5
 exact store_ok I1 hN hi hx r1 (fun s2 I2 => ⟨_, H1, I2, q1⟩) hf
noncomputable def tPar (i j : Nat) (ta : TA) : TS := fun D σ H => ta σ H fun vs H1 => ∃ v w, vs = [v, w] ∧ D.nx ((σ.set i (some v)).set j (some w)) H1
theorem ps_par {i j : Nat} {x y : Str} {a b : Expr} {ta : TA} {px py pt : Pos} {kt k2 pt2} (hc : X.calm = true) (hN : X.N.Nodup) (hi : X.N[i]? = some x) (hj : X.N[j]? = some y) (hij : i ≠ j)
  (hx : X.env.scope.names.lookup x = some .local) (hy : X.env.scope.names.lookup y = some .local) (ha : PA X [a, b] ta)
  (hw : swappedStores [.Tuple [.Name x px, .Name y py] kt pt] (.Tuple [a, b] k2 pt2) X.env = pure (some [x, y]))
  (hs : swapsWithSole [.Tuple [.Name x px, .Name y py] kt pt] (.Tuple [a, b] k2 pt2) pos.line X.env = pure false := by rfl) :
  PS X (.Assign [.Tuple [.Name x px, .Name y py] kt pt] (.Tuple [a, b] k2 pt2) pos) (tPar i j ta) := by
 intro pins s σ H D I h
 rw [exec_Assign_arm]
 refine wpAny_bind (wpAny_standAt ?_)
 rw [hs]
 refine wpAny_bind (wpAny_pure ?_)
 rw [if_neg (by decide)]
 refine wpAny_bind (Tuple_ (thn (ha _ pins s σ H _ I h) fun us s1 zz9 => ?_))
 obtain ⟨vs, H1, I1, r1, q1⟩ := zz9
 obtain ⟨v, w, e1, q1⟩ := q1
 subst e1
 obtain ⟨u1, u2, rfl, rv, rw'⟩ : ∃ u1 u2, us = [u1, u2] ∧ RelV v u1 ∧ RelV w u2 := by
  cases r1 with
  | cons p q =>
   cases q with
   | cons p' q' =>
    cases q'
    exact ⟨_, _, rfl, p, p'⟩
 refine wpAny_newObj_type ?_ (by show 2 ≤ sizeLine; decide)
 have I2 : Inv X pins σ H1 { s1 with heap := s1.heap.push { cls := .type "tuple", data := .seq [u1, u2].toArray } } := I1.kept (t' := s1.toks) fun b o e => Heap.get?_push_of_some _ e
 rw [hw]
 refine wpAny_bind (wpAny_pure ?_)
 show wpAny (model X.prog X.w) X.A (do rule "assign.swapped-stores"; let items ← unpackItems (.ref s1.heap.objs.size) 2 none; assignInOrder [fun v => bindName X.env y v, fun v => bindName X.env x v] items.reverse; pure Flow.next) _ _ _
 refine wpAny_bind (wpAny_rule (wpAny_bind (unpackItems_tuple (items := #[u1, u2]) (I.ok.hd hc) (IsTup.new s1.heap _) fun h' hx' => ?_)))
 have I3 := I2.kept (h' := h') (t' := s1.toks) fun b o e => hx' b o (Nat.ne_of_lt (Heap.lt_size e)) e
 show wpAny _ _ (assignInOrder [fun v => bindName X.env y v, fun v => bindName X.env x v] [u2, u1] >>= fun _ => pure Flow.next) _ _ _
 refine wpAny_bind (assignInOrder_cons (wpAny_bindName (store_ok I3 hN hj (.inl hy) rw' (fun s2 I4 => ?_) (.inr hy))))
 refine assignInOrder_cons (wpAny_bindName (store_ok I4 hN hi (.inl hx) rv (fun s3 I5 => assignInOrder_nil (wpAny_pure ?_)) (.inr hx)))
 rw [List.set_comm _ _ (Ne.symm hij)] at I5
 exact ⟨_, H1, I5, q1⟩
noncomputable def tAug (i : Nat) (te : TE) (ti : TIp) : TS := fun D σ H => ∃ x, σ[i]? = some (some x) ∧ te σ H fun y H1 => ti x y H1 fun z H2 => D.nx (σ.set i (some z)) H2
theorem ps_aug {i : Nat} {x : Str} {e : Expr} {te : TE} {op : Operator} {ti : TIp} {pos' : Pos} (hN : X.N.Nodup) (hi : X.N[i]? = some x) (hx : Loc X.env.scope x) (he : PE X e te) (ho : PIp X op ti) (hf : X.fn x = true ∨ X.env.scope.names.lookup x = some .local := by first | exact .inl rfl | exact .inr rfl | assumption) :
  PS X (.AugAssign (.Name x pos') op e pos) (tAug i te ti) := by
 intro pins s σ H D I h
 obtain ⟨v, e1, h⟩ := h
 obtain ⟨m, hn, hl⟩ := I.loc
 have vis : Vis X.env.scope x := by rcases hx with k | k; exact .inl k; exact .inr (.inl k)
 obtain ⟨u, r, l⟩ := hl i x v hi e1 vis
 refine wpAny_AugAssign_Name ?_
 have go : wpAny (model X.prog X.w) X.A (eval e X.env) (fun w s₂ => wpAny (model X.prog X.w) X.A (inplaceOp op u w) (fun r s₃ => wpAny (model X.prog X.w) X.A (storeName X.env x r) (fun _ => SP X pins D .next) X.xe s₃) X.xe s₂) X.xe s := by
  refine thn (he pins s σ H _ I h) fun w s1 zz9 => ?_
  obtain ⟨y, H1, I1, r1, q1⟩ := zz9
  refine thn (ho pins s1 σ H1 v y u w _ I1 r r1 q1) fun z s2 zz9 => ?_
  obtain ⟨zv, H2, I2, r2, q2⟩ := zz9
  exact store_ok I2 hN hi hx r2 (fun s3 I3 => ⟨_, H2, I3, q2⟩) hf
 rcases l with ⟨hk, hm⟩ | ⟨hk, c, hc, hcell⟩
 ·exact wpAny_loadName_local I.ok.kind hk hn hm go
 ·rcases hk with hk | hk
  ·exact wpAny_loadName_cell I.ok.kind hk hc hcell go
  ·rcases hx with k | k
   ·have : X.env.scope.names.lookup x = some .free := hk
    rw [k] at this; cases this
   ·have : X.env.scope.names.lookup x = some .free := hk
    rw [k] at this; cases this
end
section
variable {X : Cx} {pos : Pos}
noncomputable def tWhile (c : TT) (tb : TS) : TS := fun D σ H => ∃ W : Nat → St → Hp → Prop, (∃ m, W m σ H) ∧ ∀ m σ H, W m σ H →
 c σ H fun b H1 => if b = true then ∃ N : St → Hp → Prop, (∀ σ' H', N σ' H' → ∃ m', m' < m ∧ W m' σ' H') ∧ tb { D with nx := N, ct := N, bk := D.nx } σ H1 else D.nx σ H1
theorem ps_while {c : Expr} {body : List Stmt} {tc : TT} {tb : TS} (hp : PassesOwn (model X.prog X.w) X.A X.env X.xe) (hc : PT X c tc) (hb : PSs X body tb) : PS X (.While c body [] pos) (tWhile tc tb) := by
 intro pins s σ H D I h
 obtain ⟨W, ⟨m0, w0⟩, turn⟩ := h
 refine wpAny_While (codeAny_whileLoop (fun n s' => ∃ σ' H', Inv X pins σ' H' s' ∧ W n σ' H') ?_ m0 ⟨σ, H, I, w0⟩)
 rintro n s1 ⟨σ1, H1, I1, w1⟩
 refine wpAny_passesOwn hp (thn (hc pins s1 σ1 H1 _ I1 (turn n σ1 H1 w1)) fun b s2 zz9 => ?_)
 obtain ⟨H2, I2, q2⟩ := zz9
 cases b with
 | true =>
  obtain ⟨N, hN, q2⟩ := q2
  rw [if_pos rfl]
  refine wpAny_passesOwn hp (thn (hb pins s2 σ1 H2 _ I2 q2) fun f s3 q3 => ?_)
  cases f with
  | next =>
   obtain ⟨σ3, H3, I3, n3⟩ := q3
   obtain ⟨m', hm, w3⟩ := hN σ3 H3 n3
   exact ⟨m', hm, σ3, H3, I3, w3⟩
  | cont =>
   obtain ⟨σ3, H3, I3, n3⟩ := q3
   obtain ⟨m', hm, w3⟩ := hN σ3 H3 n3
   exact ⟨m', hm, σ3, H3, I3, w3⟩
  | brk => exact q3
  | ret v => exact q3
 | false =>
  rw [if_neg Bool.false_ne_true]
  exact wpAny_execs_nil ⟨σ1, H2, I2, q2⟩
end
structure It where
 go : Nat → Hp → Prop
 yld : Nat → Hp → V → Hp → Prop
 stop : Nat → Hp → Prop
noncomputable def FpOk (X : Cx) (pins : List (Addr × Obj)) (H : Hp) (b : Addr) : Prop :=
 H b = none ∧ b ≠ X.env.locals ∧ b ∉ X.fs ∧ (b ∈ X.ex ∨ X.s₀.heap.objs.size ≤ b) ∧ (∀ x c, X.env.cells.lookup x = some c → c ≠ b) ∧ ∀ p ∈ X.pn ++ pins, p.1 ≠ b
theorem Inv.fpOk {X : Cx} {pins : List (Addr × Obj)} {σ : St} {H H' : Hp} {s : Shared} {b : Addr} (I : Inv X pins σ H s) (hb : s.heap.objs.size ≤ b) (hn : H' b = none) : FpOk X pins H' b := by
 refine ⟨hn, Nat.ne_of_gt (Nat.lt_of_lt_of_le I.lt hb), I.nofs hb, .inr (Nat.le_trans I.sz hb), fun x c e z => ?_, fun p hp z => ?_⟩
 ·obtain ⟨v, q⟩ := I.cell x c e
  exact absurd (Nat.lt_of_lt_of_le q.lt (by rw [z]; exact hb)) (Nat.lt_irrefl _)
 ·exact absurd (Nat.lt_of_lt_of_le (Heap.lt_size (I.pin p hp).1) (by rw [z]; exact hb)) (Nat.lt_irrefl _)
structure Turn (P : Program) (w : World) (K : PySem.W.Frag) (tg : Expr) (J : It) (fp : List Addr) (it : Addr) (tn : Nat → Heap → Prop) : Prop where
 mem : it ∈ fp
 obj : ∀ i h, tn i h → ∀ b ∈ fp, ∃ o, h.get? b = some o ∧ ∀ v, o.data ≠ .cell v
 keep : ∀ i h h', tn i h → (∀ b ∈ fp, ∀ o, h.get? b = some o → h'.get? b = some o) → tn i h'
 item : ∀ (X : Cx), X.prog = P → X.w = w → X.K = K → X.calm = true → ∀ (i : Nat) (pins : List (Addr × Obj)) (s : Shared) (σ : St) (H : Hp) (E : Value → Shared → Prop), Inv X pins σ H s → (∀ b ∈ fp, FpOk X pins H b) → tn i s.heap → J.go i H →
  wpAny (model P w) X.A (pyNext (.ref it)) (fun r s1 => ∃ u, r = some u ∧
   wpAny (model P w) X.A (letOwnedTupleGo tg (.ref it) u) (fun _ s2 => ∃ x H', Inv X pins σ H' s2 ∧ RelV x u ∧ J.yld i H x H' ∧ tn (i + 1) s2.heap ∧ ∀ b ∈ fp, H' b = none) E s1) E s
 done : ∀ (X : Cx), X.prog = P → X.w = w → X.K = K → X.calm = true → ∀ (i : Nat) (pins : List (Addr × Obj)) (s : Shared) (σ : St) (H : Hp) (E : Value → Shared → Prop), Inv X pins σ H s → (∀ b ∈ fp, FpOk X pins H b) → tn i s.heap → J.stop i H →
  wpAny (model P w) X.A (pyNext (.ref it)) (fun r s1 => r = none ∧ Inv X pins σ H s1) E s
 self : ∀ (A : Around) (i : Nat) (s : Shared) (Q : Value → Shared → Prop) (E : Value → Shared → Prop), tn i s.heap → Q (.ref it) s → wpAny (model P w) A (pyIter (.ref it)) Q E s
noncomputable abbrev TI := St → Hp → (It → Hp → Prop) → Prop
noncomputable def PIE (X : Cx) (pins : List (Addr × Obj)) (σ : St) (tg : Expr) (R : It → Hp → Prop) (itv : Value) (s2 : Shared) : Prop :=
 ∃ (it : Addr) (fp : List Addr) (tn : Nat → Heap → Prop) (J : It) (H' : Hp), itv = .ref it ∧ Inv X pins σ H' s2 ∧ Turn X.prog X.w X.K tg J fp it tn ∧ tn 0 s2.heap ∧ (∀ b ∈ fp, FpOk X pins H' b) ∧ R J H'
noncomputable def PI (X : Cx) (tg iter : Expr) (wi : TI) : Prop :=
 ∀ (pins : List (Addr × Obj)) (s : Shared) (σ : St) (H : Hp) (R : It → Hp → Prop), Inv X pins σ H s → wi σ H R →
  wpAny (model X.prog X.w) X.A (eval iter X.env) (fun v s1 => wpAny (model X.prog X.w) X.A (pyIter v) (PIE X pins σ tg R) X.xe s1) X.xe s
theorem go_of {M : Model} {A : Around} {E : Value → Shared → Prop} {s : Shared} {tg : Expr} {it : Addr} {u : Value} {o : Obj} {n : String} {vs : Array Value} {Q : Unit → Shared → Prop} (ho : s.heap.get? it = some o) (hc : o.cls = .type n) (hd : o.data = .fields vs)
    (hn : ["enumerate", "zip", "dict_itemiterator", "dict_reverseitemiterator", "odict_iterator", "itertools.zip_longest", "itertools.pairwise"].contains n = false) (hQ : Q () s) : wpAny M A (letOwnedTupleGo tg (.ref it) u) Q E s := by
  unfold letOwnedTupleGo
  cases tg <;> first
    | exact wpAny_pure hQ
    | (cases u <;> first
        | exact wpAny_pure hQ
        | (refine wpAny_bind (wpAny_load ho ?_)
           rw [hc, hd]
           show wpAny M A (if (["enumerate", "zip", "dict_itemiterator", "dict_reverseitemiterator", "odict_iterator", "itertools.zip_longest", "itertools.pairwise"].contains n && vs[0]? == some (rawInt _)) = true then _ else _) Q E s
           rw [if_neg (by intro h; rw [hn, Bool.false_and] at h; cases h)]
           exact wpAny_pure hQ))
noncomputable def Itl (K : PySem.W.Frag) (a : Addr) : It :=
 ⟨fun i H => ∃ xs x, SqL K H a xs ∧ xs[i]? = some x, fun i H x H' => H' = H ∧ ∀ xs, SqL K H a xs → xs[i]? = some x, fun i H => ∃ xs, SqL K H a xs ∧ xs.length ≤ i⟩
noncomputable def Itt (K : PySem.W.Frag) (a : Addr) : It :=
 ⟨fun i H => ∃ xs x, SqT K H a xs ∧ xs[i]? = some x, fun i H x H' => H' = H ∧ ∀ xs, SqT K H a xs → xs[i]? = some x, fun i H => ∃ xs, SqT K H a xs ∧ xs.length ≤ i⟩
noncomputable def Itr (lo : Int) (n : Nat) : It := ⟨fun i _ => i < n, fun i H x H' => H' = H ∧ x = .int (lo + i), fun i _ => n ≤ i⟩
theorem turn_list {P : Program} {w : World} {K : PySem.W.Frag} {tg : Expr} (a it : Addr) : Turn P w K tg (Itl K a) [it] it (fun i h => h.IsListIter it a i) where
 mem := by simp
 obj := fun i h st b hb => by
  have e : b = it := by simpa using hb
  subst e
  obtain ⟨o, e, c, d⟩ := st
  exact ⟨o, e, fun v z => by rw [d] at z; cases z⟩
 keep := fun i h h' st k => st.at fun o e => k it (by simp) o e
 item := by
  intro X hP hw hK hc i pins s σ H E I hf st hg
  subst hP hw hK
  obtain ⟨xs, x, hq, hx⟩ := hg
  obtain ⟨its, rv, p, hz⟩ := I.list hq
  obtain ⟨u, hu, ru⟩ := rv.get hx
  obtain ⟨f0, f1, f2, f3, f4, f5⟩ := hf it (by simp)
  refine wpAny_pyNext_list_item st p.isList (x := u) (by simpa using hu) fun h' st' sb => ?_
  have I1 : Inv X pins σ H { s with heap := h' } := I.turned (t' := s.toks) (fun b o hb e => (sb.2 b hb).trans e) f0 f1 f3 f4 f5
  obtain ⟨o, e, c, d⟩ := id st'
  exact ⟨u, rfl, go_of (s := { s with heap := h' }) e c d (by decide) ⟨x, H, I1, ru, ⟨rfl, fun ys hy => by rw [I.list_inj hy hq]; exact hx⟩, st', fun b hb => (hf b hb).1⟩⟩
 done := by
  intro X hP hw hK hc i pins s σ H E I hf st hg
  subst hP hw hK
  obtain ⟨xs, hq, hx⟩ := hg
  obtain ⟨its, rv, p, hz⟩ := I.list hq
  obtain ⟨f0, f1, f2, f3, f4, f5⟩ := hf it (by simp)
  have hl := rv.length
  exact wpAny_pyNext_list_end (I.ok.hd hc) st p.isList (by simp; omega) fun h' eb => ⟨rfl, I.turned (t' := s.toks) (fun b o hb e => eb b o hb e) f0 f1 f3 f4 f5⟩
 self := fun _ _ _ _ _ st h => wpAny_pyIter_listiter st h
theorem turn_tuple {P : Program} {w : World} {K : PySem.W.Frag} {tg : Expr} (a it : Addr) : Turn P w K tg (Itt K a) [it] it (fun i h => h.IsTupleIter it a i) where
 mem := by simp
 obj := fun i h st b hb => by
  have e : b = it := by simpa using hb
  subst e
  obtain ⟨o, e, c, d⟩ := st
  exact ⟨o, e, fun v z => by rw [d] at z; cases z⟩
 keep := fun i h h' st k => st.at fun o e => k it (by simp) o e
 item := by
  intro X hP hw hK hc i pins s σ H E I hf st hg
  subst hP hw hK
  obtain ⟨xs, x, hq, hx⟩ := hg
  obtain ⟨its, rv, p, hz⟩ := I.tuple hq
  obtain ⟨u, hu, ru⟩ := rv.get hx
  obtain ⟨f0, f1, f2, f3, f4, f5⟩ := hf it (by simp)
  refine wpAny_pyNext_tuple_item st (show s.heap.IsTuple a its.toArray from p) (x := u) (by simpa using hu) fun h' st' sb => ?_
  have I1 : Inv X pins σ H { s with heap := h' } := I.turned (t' := s.toks) (fun b o hb e => (sb.2 b hb).trans e) f0 f1 f3 f4 f5
  obtain ⟨o, e, c, d⟩ := id st'
  exact ⟨u, rfl, go_of (s := { s with heap := h' }) e c d (by decide) ⟨x, H, I1, ru, ⟨rfl, fun ys hy => by rw [I.tuple_inj hy hq]; exact hx⟩, st', fun b hb => (hf b hb).1⟩⟩
 done := by
  intro X hP hw hK hc i pins s σ H E I hf st hg
  subst hP hw hK
  obtain ⟨xs, hq, hx⟩ := hg
  obtain ⟨its, rv, p, hz⟩ := I.tuple hq
  obtain ⟨f0, f1, f2, f3, f4, f5⟩ := hf it (by simp)
  have hl := rv.length
  exact wpAny_pyNext_tuple_end (I.ok.hd hc) st (show s.heap.IsTuple a its.toArray from p) (by simp; omega) fun h' eb => ⟨rfl, I.turned (t' := s.toks) (fun b o hb e => eb b o hb e) f0 f1 f3 f4 f5⟩
 self := fun _ _ _ _ _ st h => wpAny_pyIter_tupleiter st h
theorem turn_range {P : Program} {w : World} {K : PySem.W.Frag} {tg : Expr} (it : Addr) (lo : Int) (n : Nat) : Turn P w K tg (Itr lo n) [it] it (fun i h => IsRangeIter h it (lo + (i : Nat) * 1) ((n : Int) - (i : Nat)) 1) where
 mem := by simp
 obj := fun i h st b hb => by
  have e : b = it := by simpa using hb
  subst e
  exact ⟨_, st, fun v z => by
   have z' : Data.fields _ = Data.cell v := z
   cases z'⟩
 keep := fun i h h' st k => k it (by simp) _ st
 item := by
  intro X hP hw hK hc i pins s σ H E I hf st hg
  subst hP hw hK
  obtain ⟨f0, f1, f2, f3, f4, f5⟩ := hf it (by simp)
  have W := Walks.range (prog := X.prog) (w := X.w) (I.ok.hd hc) it lo 1 n
  refine W.item i s _ _ hg st fun v h' tk hv st' kk => ?_
  obtain ⟨t, rfl⟩ := hv
  have I1 : Inv X pins σ H { s with heap := h', toks := tk } := I.turned (fun b o hb e => kk b o (by simpa using hb) e) f0 f1 f3 f4 f5
  refine ⟨_, rfl, go_of (s := { s with heap := h', toks := tk }) (n := "range_iterator") st' rfl rfl (by decide) ⟨.int (lo + i), H, I1, ⟨t, ?_⟩, ⟨rfl, rfl⟩, st', fun b hb => (hf b hb).1⟩⟩
  rw [Int.mul_one]
 done := by
  intro X hP hw hK hc i pins s σ H E I hf st hg
  subst hP hw hK
  obtain ⟨f0, f1, f2, f3, f4, f5⟩ := hf it (by simp)
  exact wpAny_pyNext_range_end (I.ok.hd hc) st (by have : n ≤ i := hg; omega) fun h' eb => ⟨rfl, I.turned (t' := s.toks) (fun b o hb e => eb b o hb e) f0 f1 f3 f4 f5⟩
 self := fun _ _ _ _ _ st h => wpAny_pyIter_rangeiter st h
end L2
namespace L2
open PySem PySem.Spec PyProof.Rows
section
variable {X : Cx} {tg : Expr}
noncomputable def iList (K : PySem.W.Frag) (tl : TE) : TI := fun σ H R => tl σ H fun x H1 => ∃ a, x = .ref a ∧ (∃ xs, SqL K H1 a xs) ∧ R (Itl K a) H1
noncomputable def iTup (K : PySem.W.Frag) (tl : TE) : TI := fun σ H R => tl σ H fun x H1 => ∃ a, x = .ref a ∧ (∃ xs, SqT K H1 a xs) ∧ R (Itt K a) H1
theorem pi_list {l : Expr} {tl : TE} (hl : PE X l tl) : PI X tg l (iList X.K tl) := by
 intro pins s σ H R I h
 refine thn (hl pins s σ H _ I h) fun v s1 zz9 => ?_
 obtain ⟨x, H1, I1, r1, q1⟩ := zz9
 obtain ⟨a, e, ⟨xs, hq⟩, q⟩ := q1
 subst e
 cases r1
 obtain ⟨its, rv, p, hz⟩ := I1.list hq
 refine wpAny_pyIter_list p.isList ?_
 refine ⟨s1.heap.objs.size, [s1.heap.objs.size], _, _, H1, rfl, I1.kept (t' := s1.toks) fun b o e => Heap.get?_push_of_some _ e, turn_list a _, ⟨_, Heap.get?_push_size _ rfl, rfl, rfl⟩, fun b hb => ?_, q⟩
 have e : b = s1.heap.objs.size := by simpa using hb
 subst e
 exact I1.fpOk (Nat.le_refl _) (I1.hok.fresh (Nat.le_refl _))
theorem pi_tup {l : Expr} {tl : TE} (hl : PE X l tl) : PI X tg l (iTup X.K tl) := by
 intro pins s σ H R I h
 refine thn (hl pins s σ H _ I h) fun v s1 zz9 => ?_
 obtain ⟨x, H1, I1, r1, q1⟩ := zz9
 obtain ⟨a, e, ⟨xs, hq⟩, q⟩ := q1
 subst e
 cases r1
 obtain ⟨its, rv, p, hz⟩ := I1.tuple hq
 refine wpAny_pyIter_tuple (show s1.heap.IsTuple a its.toArray from p) ?_
 refine ⟨s1.heap.objs.size, [s1.heap.objs.size], _, _, H1, rfl, I1.kept (t' := s1.toks) fun b o e => Heap.get?_push_of_some _ e, turn_tuple a _, ⟨_, Heap.get?_push_size _ rfl, rfl, rfl⟩, fun b hb => ?_, q⟩
 have e : b = s1.heap.objs.size := by simpa using hb
 subst e
 exact I1.fpOk (Nat.le_refl _) (I1.hok.fresh (Nat.le_refl _))
theorem range_it {pins : List (Addr × Obj)} {σ : St} {H : Hp} {s : Shared} {R : It → Hp → Prop} {E : Value → Shared → Prop} {lo hi : Int} {t u v : Tok} {tk : Nat} (I : Inv X pins σ H s) (h1 : -(2 ^ 62) ≤ lo) (h2 : lo < 2 ^ 62) (h3 : -(2 ^ 62) ≤ hi) (h4 : hi < 2 ^ 62)
  (q : R (Itr lo (hi - lo).toNat) H) : wpAny (model X.prog X.w) X.A (pyIter (.ref s.heap.objs.size)) (PIE X pins σ tg R) E { s with heap := s.heap.push { cls := .type "range", data := .fields #[.int lo t, .int hi u, .int 1 v] }, toks := tk } := by
 refine wpAny_pyIter_range (IsRange.new ..) (small_one h1 h2 h3 h4) ?_
 have I1 : Inv X pins σ H { s with heap := s.heap.push { cls := .type "range", data := .fields #[.int lo t, .int hi u, .int 1 v] }, toks := tk } := I.kept fun b o e => Heap.get?_push_of_some _ e
 refine ⟨(s.heap.push { cls := .type "range", data := .fields #[.int lo t, .int hi u, .int 1 v] }).objs.size, [(s.heap.push { cls := .type "range", data := .fields #[.int lo t, .int hi u, .int 1 v] }).objs.size], _, _, H, rfl,
  I1.kept (t' := tk) fun b o e => Heap.get?_push_of_some _ e, turn_range _ lo (hi - lo).toNat, ?_, fun b hb => ?_, q⟩
 ·have e1 : lo + ((0 : Nat) : Int) * 1 = lo := by simp
  have e2 : (((hi - lo).toNat : Nat) : Int) - ((0 : Nat) : Int) = Builtin.Range.rangeSize lo hi 1 := by rw [rangeSize_one]; split <;> omega
  show IsRangeIter _ _ (lo + ((0 : Nat) : Int) * 1) ((((hi - lo).toNat : Nat) : Int) - ((0 : Nat) : Int)) 1
  rw [e1, e2]
  exact Heap.get?_push_size _ rfl
 ·have e : b = (s.heap.push { cls := .type "range", data := .fields #[.int lo t, .int hi u, .int 1 v] }).objs.size := by simpa using hb
  subst e
  exact I1.fpOk (Nat.le_refl _) (I1.hok.fresh (Nat.le_refl _))
noncomputable def iRng1 (ta : TA) : TI := fun σ H R => ta σ H fun vs H1 => ∃ j : Int, vs = [.int j] ∧ -(2 ^ 62) ≤ j ∧ j < 2 ^ 62 ∧ R (Itr 0 j.toNat) H1
theorem pi_range1 {a : Expr} {ta : TA} {p pos : Pos} (hg : Gl X "range") (hm : X.mg "range" = none) (ha : PA X [a] ta) (hs : starEach [a] X.env = [(false, eval a X.env)] := by rfl) : PI X tg (.Call (.Name "range" p) [a] [] pos) (iRng1 ta) := by
 intro pins s σ H R I h
 refine Call_ (ld_blt I hg hm boot_range (PyProof.Rows.callWith_type1 (thn (ha pos pins s σ H _ I h) fun us s1 zz6 => ?_) hs rfl))
 obtain ⟨vs, H1, I1, r1, q1⟩ := zz6
 obtain ⟨j, e, q1, q2, q⟩ := q1
 subst e
 cases r1 with
 | cons r rr =>
  cases rr
  obtain ⟨t, rfl⟩ := r
  exact call_range_1 (range_it I1 (by omega) (by omega) q1 q2 (by simpa using q))
noncomputable def tFor (wi : TI) (g : TG) (tb : TS) : TS := fun D σ H => wi σ H fun J H1 => ∃ W : Nat → Nat → St → Hp → Prop, (∃ m, W 0 m σ H1) ∧ ∀ i m σ H, W i m σ H →
 (J.stop i H ∧ D.nx σ H) ∨ (J.go i H ∧ ∃ N : St → Hp → Prop, (∀ σ' H', N σ' H' → ∃ m', m' < m ∧ W (i + 1) m' σ' H') ∧ ∀ x H', J.yld i H x H' → g x σ H' fun σ2 H2 => tb { D with nx := N, ct := N, bk := D.nx } σ2 H2)
noncomputable def pinsAt (fp : List Addr) (h : Heap) : List (Addr × Obj) := fp.filterMap fun b => (h.get? b).map fun o => (b, o)
theorem mem_pinsAt {fp : List Addr} {h : Heap} {b : Addr} {o : Obj} (hb : b ∈ fp) (e : h.get? b = some o) : (b, o) ∈ pinsAt fp h := List.mem_filterMap.mpr ⟨b, hb, by rw [e]; rfl⟩
theorem of_pinsAt {fp : List Addr} {h : Heap} {p : Addr × Obj} (hp : p ∈ pinsAt fp h) : p.1 ∈ fp ∧ h.get? p.1 = some p.2 := by
 obtain ⟨b, hb, e⟩ := List.mem_filterMap.mp hp
 cases q : h.get? b with
 | none => rw [q] at e; cases e
 | some o =>
  rw [q] at e
  have e' : (b, o) = p := Option.some.inj e
  subst e'
  exact ⟨hb, q⟩
theorem Inv.pinned {pins : List (Addr × Obj)} {σ : St} {H : Hp} {s : Shared} {fp : List Addr} (I : Inv X pins σ H s) (hf : ∀ b ∈ fp, FpOk X pins H b) (ho : ∀ b ∈ fp, ∃ o, s.heap.get? b = some o ∧ ∀ v, o.data ≠ .cell v) : Inv X (pins ++ pinsAt fp s.heap) σ H s :=
 I.pins_of fun p hp => (List.mem_append.mp hp).elim (fun z => I.pin p (List.mem_append_right _ z)) fun z => by
  obtain ⟨hb, e⟩ := of_pinsAt z
  obtain ⟨f0, f1, f2, _⟩ := hf p.1 hb
  obtain ⟨o, e', d⟩ := ho p.1 hb
  rw [e] at e'; cases e'
  exact ⟨e, f0, f1, f2, d⟩
theorem Inv.unpinned {pins pl : List (Addr × Obj)} {σ : St} {H : Hp} {s : Shared} (I : Inv X (pins ++ pl) σ H s) : Inv X pins σ H s := I.pins_of fun p hp => I.pin p (List.mem_append_right _ (List.mem_append_left _ hp))
theorem ps_for {iter : Expr} {body : List Stmt} {wi : TI} {g : TG} {tb : TS} {pos : Pos} (hp : PassesOwn (model X.prog X.w) X.A X.env X.xe) (hc : X.calm = true) (hi : PI X tg iter wi) (hg : PG X tg g) (hb : PSs X body tb)
  (hs : ∀ x, foldedSetIterable iter X.env x = pure x := by intro _; rfl) : PS X (.For tg iter body [] pos) (tFor wi g tb) := by
 intro pins s σ H D I h
 refine wpAny_For (thn (hi pins s σ H _ I h) fun v s1 h1 => thn h1 fun itv s2 h2 => ?_) hs
 obtain ⟨it, fp, tn, J, H2, e, I2, T, st2, f2, W, ⟨m0, w0⟩, turn⟩ := h2
 subst e
 have stat : ∀ {H' : Hp}, (∀ b ∈ fp, H' b = none) → ∀ b ∈ fp, FpOk X pins H' b := fun hn b hb => ⟨hn b hb, (f2 b hb).2⟩
 refine codeAny_forLoop_any (fun n s' => ∃ i σ' H', Inv X pins σ' H' s' ∧ tn i s'.heap ∧ (∀ b ∈ fp, H' b = none) ∧ W i n σ' H') ?_ m0 ⟨0, σ, H2, I2, st2, fun b hb => (f2 b hb).1, w0⟩
 rintro n s3 ⟨i, σ3, H3, I3, st3, fr3, w3⟩
 rcases turn i n σ3 H3 w3 with ⟨stop, qn⟩ | ⟨go, N, hN, step⟩
 ·refine wpAny_passesOwn hp (thn (T.done X rfl rfl rfl hc i pins s3 σ3 H3 X.xe I3 (stat fr3) st3 stop) fun r s4 ⟨hr, I4⟩ => ?_)
  subst hr
  exact wpAny_execs_nil ⟨σ3, H3, I4, qn⟩
 ·refine wpAny_passesOwn hp (thn (T.item X rfl rfl rfl hc i pins s3 σ3 H3 X.xe I3 (stat fr3) st3 go) fun r s4 ⟨u, hr, h4⟩ => ?_)
  subst hr
  refine wpAny_passesOwn hp (thn h4 fun _ s5 zz9 => ?_)
  obtain ⟨x, H5, I5, r5, y5, st5, fr5⟩ := zz9
  have I5' := I5.pinned (stat fr5) (T.obj _ _ st5)
  refine wpAny_passesOwn hp (thn (hg _ s5 σ3 H5 x u _ I5' r5 (step x H5 y5)) fun _ s6 zz9 => ?_)
  obtain ⟨σ6, H6, I6, q6⟩ := zz9
  refine wpAny_passesOwn hp (thn (hb _ s6 σ6 H6 _ I6 q6) fun f s7 q7 => ?_)
  have again : ∀ {σ7 : St} {H7 : Hp}, Inv X (pins ++ pinsAt fp s5.heap) σ7 H7 s7 → N σ7 H7 → ∃ m, m < n ∧ ∃ i σ' H', Inv X pins σ' H' s7 ∧ tn i s7.heap ∧ (∀ b ∈ fp, H' b = none) ∧ W i m σ' H' := fun {σ7 H7} I7 n7 => by
   obtain ⟨m', hm, w7⟩ := hN σ7 H7 n7
   refine ⟨m', hm, i + 1, σ7, H7, I7.unpinned, T.keep _ _ _ st5 fun b hb o e => (I7.pin (b, o) (List.mem_append_right _ (List.mem_append_right _ (mem_pinsAt hb e)))).1, fun b hb => ?_, w7⟩
   obtain ⟨o, e, d⟩ := T.obj _ _ st5 b hb
   exact (I7.pin (b, o) (List.mem_append_right _ (List.mem_append_right _ (mem_pinsAt hb e)))).2.1
  cases f with
  | next => obtain ⟨σ7, H7, I7, n7⟩ := q7; exact again I7 n7
  | cont => obtain ⟨σ7, H7, I7, n7⟩ := q7; exact again I7 n7
  | brk => obtain ⟨σ7, H7, I7, q7⟩ := q7; exact ⟨σ7, H7, I7.unpinned, q7⟩
  | ret v => obtain ⟨x7, σ7, H7, I7, r7, q7⟩ := q7; exact ⟨x7, σ7, H7, I7.unpinned, r7, q7⟩
end
theorem for_list {K : PySem.W.Frag} {a : Addr} {xs : List V} {g : TG} {tb : TS} {D : Ends} {σ : St} {H : Hp} (Pv : Nat → St → Hp → Prop) (h0 : Pv 0 σ H) (hl : ∀ i σ H, i ≤ xs.length → Pv i σ H → SqL K H a xs)
  (hs : ∀ i x σ H, xs[i]? = some x → Pv i σ H → g x σ H fun σ2 H2 => tb { D with nx := Pv (i + 1), ct := Pv (i + 1), bk := D.nx } σ2 H2) (hd : ∀ σ H, Pv xs.length σ H → D.nx σ H) :
  ∃ W : Nat → Nat → St → Hp → Prop, (∃ m, W 0 m σ H) ∧ ∀ i m σ H, W i m σ H →
   ((Itl K a).stop i H ∧ D.nx σ H) ∨ ((Itl K a).go i H ∧ ∃ N : St → Hp → Prop, (∀ σ' H', N σ' H' → ∃ m', m' < m ∧ W (i + 1) m' σ' H') ∧ ∀ x H', (Itl K a).yld i H x H' → g x σ H' fun σ2 H2 => tb { D with nx := N, ct := N, bk := D.nx } σ2 H2) := by
 refine ⟨fun i m σ H => m = xs.length - i ∧ i ≤ xs.length ∧ Pv i σ H, ⟨xs.length, by simp, Nat.zero_le _, h0⟩, ?_⟩
 rintro i m σ H ⟨rfl, hi, p⟩
 have q := hl i σ H hi p
 by_cases hlt : i < xs.length
 ·refine .inr ⟨⟨xs, xs[i], q, by simp [hlt]⟩, Pv (i + 1), fun σ' H' p' => ⟨xs.length - (i + 1), by omega, rfl, hlt, p'⟩, fun x H' y => ?_⟩
  obtain ⟨e, y⟩ := y
  subst e
  exact hs i x σ _ (y xs q) p
 ·have e : i = xs.length := by omega
  subst e
  exact .inl ⟨⟨xs, q, Nat.le_refl _⟩, hd σ H p⟩
theorem for_range {lo : Int} {n : Nat} {g : TG} {tb : TS} {D : Ends} {σ : St} {H : Hp} (Pv : Nat → St → Hp → Prop) (h0 : Pv 0 σ H)
  (hs : ∀ i σ H, i < n → Pv i σ H → g (.int (lo + i)) σ H fun σ2 H2 => tb { D with nx := Pv (i + 1), ct := Pv (i + 1), bk := D.nx } σ2 H2) (hd : ∀ σ H, Pv n σ H → D.nx σ H) :
  ∃ W : Nat → Nat → St → Hp → Prop, (∃ m, W 0 m σ H) ∧ ∀ i m σ H, W i m σ H →
   ((Itr lo n).stop i H ∧ D.nx σ H) ∨ ((Itr lo n).go i H ∧ ∃ N : St → Hp → Prop, (∀ σ' H', N σ' H' → ∃ m', m' < m ∧ W (i + 1) m' σ' H') ∧ ∀ x H', (Itr lo n).yld i H x H' → g x σ H' fun σ2 H2 => tb { D with nx := N, ct := N, bk := D.nx } σ2 H2) := by
 refine ⟨fun i m σ H => m = n - i ∧ i ≤ n ∧ Pv i σ H, ⟨n, by simp, Nat.zero_le _, h0⟩, ?_⟩
 rintro i m σ H ⟨rfl, hi, p⟩
 by_cases hlt : i < n
 ·refine .inr ⟨hlt, Pv (i + 1), fun σ' H' p' => ⟨n - (i + 1), by omega, rfl, hlt, p'⟩, fun x H' y => ?_⟩
  obtain ⟨e, y⟩ := y
  subst e y
  exact hs i σ _ hlt p
 ·have e : i = n := by omega
  subst e
  exact .inl ⟨Nat.le_refl _, hd σ H p⟩
end L2
namespace L2
open PySem PySem.Spec PyProof.Rows
noncomputable abbrev R2 := V → V → Hp → VK → Prop
noncomputable def OpR (X : Cx) (f : Value → Value → Sem Value) (r : R2) : Prop :=
 ∀ (pins : List (Addr × Obj)) (s : Shared) (σ : St) (H : Hp) (x y : V) (v u : Value) (Q : VK), Inv X pins σ H s → RelV x v → RelV y u → r x y H Q →
  wpAny (model X.prog X.w) X.A (f v u) (EP X pins σ Q) X.xe s
noncomputable def UnR (X : Cx) (f : Value → Sem Value) (r : V → Hp → VK → Prop) : Prop :=
 ∀ (pins : List (Addr × Obj)) (s : Shared) (σ : St) (H : Hp) (x : V) (v : Value) (Q : VK), Inv X pins σ H s → RelV x v → r x H Q →
  wpAny (model X.prog X.w) X.A (f v) (EP X pins σ Q) X.xe s
noncomputable def CallR (X : Cx) (f : Value) (r : List V → Hp → VK → Prop) : Prop :=
 ∀ (pins : List (Addr × Obj)) (s : Shared) (σ : St) (H : Hp) (xs : List V) (us : List Value) (Q : VK), Inv X pins σ H s → Vals xs us → r xs H Q →
  wpAny (model X.prog X.w) X.A (call f us) (EP X pins σ Q) X.xe s
noncomputable def TruR (X : Cx) (r : V → Hp → (Bool → Hp → Prop) → Prop) : Prop :=
 ∀ (pins : List (Addr × Obj)) (s : Shared) (σ : St) (H : Hp) (x : V) (v : Value) (Q : Bool → Hp → Prop), Inv X pins σ H s → RelV x v → r x H Q →
  wpAny (model X.prog X.w) X.A (truthy v) (TP X pins σ Q) X.xe s
noncomputable def tOp (r : R2) (ta tb : TE) : TE := fun σ H Q => ta σ H fun x H1 => tb σ H1 fun y H2 => r x y H2 Q
noncomputable def tUn (r : V → Hp → VK → Prop) (ta : TE) : TE := fun σ H Q => ta σ H fun x H1 => r x H1 Q
noncomputable def rI (C : Int → Int → Prop) (g : Int → Int → V) : R2 := fun x y H Q => ∃ i j, x = .int i ∧ y = .int j ∧ C i j ∧ Q (g i j) H
noncomputable def rI0 (g : Int → Int → V) : R2 := fun x y H Q => ∃ i j, x = .int i ∧ y = .int j ∧ Q (g i j) H
noncomputable def rU (g : Int → V) : V → Hp → VK → Prop := fun x H Q => ∃ i, x = .int i ∧ Q (g i) H
section
variable {X : Cx} {a b c : Expr} {ta tb tc : TE} {pos : Pos}
theorem binT (ha : PE X a ta) (hb : PE X b tb) {pins : List (Addr × Obj)} {s : Shared} {σ : St} {H : Hp} {R : V → V → Hp → Prop} (I : Inv X pins σ H s)
  (h : ta σ H fun x H1 => tb σ H1 fun y H2 => R x y H2) {Q : Value → Shared → Prop} {f : Value → Value → Sem Value}
  (hf : ∀ v u s2 x y H2, Inv X pins σ H2 s2 → RelV x v → RelV y u → R x y H2 → wpAny (model X.prog X.w) X.A (f v u) Q X.xe s2) :
  wpAny (model X.prog X.w) X.A (eval a X.env) (fun v s₁ => wpAny (model X.prog X.w) X.A (eval b X.env) (fun u s₂ => wpAny (model X.prog X.w) X.A (f v u) Q X.xe s₂) X.xe s₁) X.xe s := by
 refine thn (ha pins s σ H _ I h) fun v s1 zz9 => ?_
 obtain ⟨x, H1, I1, r1, q1⟩ := zz9
 refine thn (hb pins s1 σ H1 _ I1 q1) fun u s2 zz9 => ?_
 obtain ⟨y, H2, I2, r2, q2⟩ := zz9
 exact hf v u s2 x y H2 I2 r1 r2 q2
theorem pe_op {op : Operator} {r : R2} (ho : OpR X (binaryOp op) r) (ha : PE X a ta) (hb : PE X b tb) : PE X (.BinOp a op b pos) (tOp r ta tb) := by
 intro pins s σ H Q I h
 exact wpAny_BinOp (binT ha hb I h fun v u s2 x y H2 I2 rx ry q => ho pins s2 σ H2 x y v u Q I2 rx ry q)
theorem pe_un {op : UnaryOp} {r : V → Hp → VK → Prop} (ho : UnR X (unaryOp op) r) (ha : PE X a ta) : PE X (.UnaryOp op a pos) (tUn r ta) := by
 intro pins s σ H Q I h
 refine UnaryOp_ (thn (ha pins s σ H _ I h) fun v s1 zz7 => ?_)
 obtain ⟨x, H1, I1, r1, q1⟩ := zz7
 exact ho pins s1 σ H1 x v Q I1 r1 q1
theorem opI {f : Value → Value → Sem Value} {C : Int → Int → Prop} {g : Int → Int → Int}
  (rule : ∀ (i j : Int) (t u : Tok) (s : Shared) (Q : Value → Shared → Prop) (E : Value → Shared → Prop), C i j → Q (.int (g i j) s.toks) { s with toks := s.toks + 1 } → wpAny (model X.prog X.w) X.A (f (.int i t) (.int j u)) Q E s) :
  OpR X f (rI C fun i j => .int (g i j)) := by
 intro pins s σ H x y v u Q I rx ry h
 obtain ⟨i, j, rfl, rfl, hc, q⟩ := h
 obtain ⟨t, rfl⟩ := rx
 obtain ⟨t', rfl⟩ := ry
 exact rule i j t t' s _ _ hc ⟨.int (g i j), H, I.tok _, ⟨_, rfl⟩, q⟩
theorem opI0 {f : Value → Value → Sem Value} {g : Int → Int → Int}
  (rule : ∀ (i j : Int) (t u : Tok) (s : Shared) (Q : Value → Shared → Prop) (E : Value → Shared → Prop), Q (.int (g i j) s.toks) { s with toks := s.toks + 1 } → wpAny (model X.prog X.w) X.A (f (.int i t) (.int j u)) Q E s) :
  OpR X f (rI0 fun i j => .int (g i j)) := by
 intro pins s σ H x y v u Q I rx ry h
 obtain ⟨i, j, rfl, rfl, q⟩ := h
 obtain ⟨t, rfl⟩ := rx
 obtain ⟨t', rfl⟩ := ry
 exact rule i j t t' s _ _ ⟨.int (g i j), H, I.tok _, ⟨_, rfl⟩, q⟩
theorem opB0 {f : Value → Value → Sem Value} {g : Int → Int → Bool}
  (rule : ∀ (i j : Int) (t u : Tok) (s : Shared) (Q : Value → Shared → Prop) (E : Value → Shared → Prop), Q (.bool (g i j)) s → wpAny (model X.prog X.w) X.A (f (.int i t) (.int j u)) Q E s) :
  OpR X f (rI0 fun i j => .bl (g i j)) := by
 intro pins s σ H x y v u Q I rx ry h
 obtain ⟨i, j, rfl, rfl, q⟩ := h
 obtain ⟨t, rfl⟩ := rx
 obtain ⟨t', rfl⟩ := ry
 exact rule i j t t' s _ _ ⟨.bl (g i j), H, I, rfl, q⟩
noncomputable def CDiv (i j : Int) : Prop := 0 < j ∧ j < 1073741824
noncomputable def CPow (i j : Int) : Prop := 0 ≤ j ∧ j ≤ 1000000 ∧ i.natAbs < 2 ^ 64
noncomputable def CMul (i j : Int) : Prop := (-(2 ^ 64) < i ∧ i < 2 ^ 64) ∨ (-(2 ^ 64) < j ∧ j < 2 ^ 64)
theorem CMul.ok {i j : Int} (h : CMul i j) : IntMulOk i j := by
 rcases h with ⟨h1, h2⟩ | ⟨h1, h2⟩
 ·exact .of_left (intBits_le_64 h1 h2)
 ·exact .of_right (intBits_le_64 h1 h2)
theorem op_add : OpR X (binaryOp .Add) (rI0 fun i j => .int (i + j)) := opI0 fun _ _ _ _ _ _ _ q => add_int q
theorem op_sub : OpR X (binaryOp .Sub) (rI0 fun i j => .int (i - j)) := opI0 fun _ _ _ _ _ _ _ q => sub_int q
theorem op_mul : OpR X (binaryOp .Mult) (rI CMul fun i j => .int (i * j)) := opI fun _ _ _ _ _ _ _ hc q => mul_int q hc.ok
theorem op_fdiv : OpR X (binaryOp .FloorDiv) (rI CDiv fun i j => .int (i / j)) := opI fun i j _ _ _ _ _ hc q => by
 have h1 : (0 : Int) < j := hc.1
 have h2 : j < 1073741824 := hc.2
 exact floordiv_int (by omega) (by rw [Int.fdiv_eq_ediv_of_nonneg i (by omega)]; exact q) (.inl (PyProof.noPylong_small (by omega)))
theorem op_mod : OpR X (binaryOp .Mod) (rI (fun _ j => 0 < j) fun i j => .int (i % j)) := opI fun i j _ _ _ _ _ hc q => by
 have h1 : (0 : Int) < j := hc
 exact mod_int' (by omega) (by rw [Int.fmod_eq_emod_of_nonneg i (by omega)]; exact q)
theorem op_pow : OpR X (binaryOp .Pow) (rI CPow fun i j => .int (i ^ j.toNat)) := opI fun _ _ _ _ _ _ _ hc q => pow_int_small hc.1 hc.2.1 hc.2.2 q
theorem unI {f : Value → Sem Value} {g : Int → Int}
  (rule : ∀ (i : Int) (t : Tok) (s : Shared) (Q : Value → Shared → Prop) (E : Value → Shared → Prop), Q (.int (g i) s.toks) { s with toks := s.toks + 1 } → wpAny (model X.prog X.w) X.A (f (.int i t)) Q E s) :
  UnR X f (rU fun i => .int (g i)) := by
 intro pins s σ H x v Q I rx h
 obtain ⟨i, rfl, q⟩ := h
 obtain ⟨t, rfl⟩ := rx
 exact rule i t s _ _ ⟨.int (g i), H, I.tok _, ⟨_, rfl⟩, q⟩
theorem un_neg : UnR X (unaryOp .USub) (rU fun i => .int (-i)) := unI fun _ _ _ _ _ q => neg_int q
end
noncomputable def scal : V → V → Bool
 | .non, .non => true | .non, .int _ => true | .int _, .non => true | .non, .bl _ => true | .bl _, .non => true | .non, .str _ => true | .str _, .non => true
 | .int _, .int _ => true | .bl _, .bl _ => true | .str _, .str _ => true | .byt _, .byt _ => true
 | .int _, .str _ => true | .str _, .int _ => true | .bl _, .str _ => true | .str _, .bl _ => true
 | _, _ => false
noncomputable def rEq : R2 := fun x y H Q => scal x y = true ∧ Q (.bl (decide (x = y))) H
noncomputable def rNe : R2 := fun x y H Q => scal x y = true ∧ Q (.bl (!decide (x = y))) H
theorem dec_int {i j : Int} : decide (V.int i = V.int j) = (i == j) := by
 rw [Bool.eq_iff_iff]
 simp
theorem dec_bl {i j : Bool} : decide (V.bl i = V.bl j) = (i == j) := by
 rw [Bool.eq_iff_iff]
 simp
theorem dec_str {i j : Str} : decide (V.str i = V.str j) = (i == j) := by
 rw [Bool.eq_iff_iff]
 simp
theorem dec_byt {i j : Array UInt8} : decide (V.byt i = V.byt j) = (i.toList == j.toList) := by
 rw [Bool.eq_iff_iff]
 cases i
 cases j
 simp
section
variable {X : Cx} {a b c : Expr} {ta tb tc : TE} {pos : Pos}
theorem fin_bl {pins : List (Addr × Obj)} {σ : St} {H : Hp} {s : Shared} {Q : VK} {k k' : Bool} (I : Inv X pins σ H s) (q : Q (.bl k) H) (e : k = k') : EP X pins σ Q (.bool k') s := by
 subst e
 exact ⟨.bl k, H, I, rfl, q⟩
theorem op_eq : OpR X (compareOp .Eq) rEq := by
 intro pins s σ H x y v u Q I rx ry h
 obtain ⟨hs, q⟩ := h
 cases x with
 | non =>
  cases rx
  cases y with
  | non => cases ry; exact PySem.EqNone.eq_none_none (fin_bl I q (by simp))
  | bl j => cases ry; exact PySem.EqNone.eq_none_bool (fin_bl I q (by simp))
  | int j => obtain ⟨t', rfl⟩ := ry; exact PySem.EqNone.eq_none_int (fin_bl I q (by simp))
  | str j => obtain ⟨t', rfl⟩ := ry; exact PySem.EqNone.eq_none_str (fin_bl I q (by simp))
  | _ => exact absurd (show false = true from hs) Bool.false_ne_true
 | bl i =>
  cases rx
  cases y with
  | non => cases ry; exact PySem.EqNone.eq_bool_none (fin_bl I q (by simp))
  | bl j => cases ry; exact eq_bool (fin_bl I q dec_bl)
  | str j => obtain ⟨t', rfl⟩ := ry; exact PySem.EqMixed.eq_bool_str (fin_bl I q (by simp))
  | _ => exact absurd (show false = true from hs) Bool.false_ne_true
 | int i =>
  obtain ⟨t, rfl⟩ := rx
  cases y with
  | non => cases ry; exact PySem.EqNone.eq_int_none (fin_bl I q (by simp))
  | int j => obtain ⟨t', rfl⟩ := ry; exact eq_int (fin_bl I q dec_int)
  | str j => obtain ⟨t', rfl⟩ := ry; exact PySem.EqMixed.eq_int_str (fin_bl I q (by simp))
  | _ => exact absurd (show false = true from hs) Bool.false_ne_true
 | str i =>
  obtain ⟨t, rfl⟩ := rx
  cases y with
  | non => cases ry; exact PySem.EqNone.eq_str_none (fin_bl I q (by simp))
  | bl j => cases ry; exact PySem.EqMixed.eq_str_bool (fin_bl I q (by simp))
  | int j => obtain ⟨t', rfl⟩ := ry; exact PySem.EqMixed.eq_str_int (fin_bl I q (by simp))
  | str j => obtain ⟨t', rfl⟩ := ry; exact eq_str (fin_bl I q dec_str)
  | _ => exact absurd (show false = true from hs) Bool.false_ne_true
 | byt i =>
  obtain ⟨t, rfl⟩ := rx
  cases y with
  | byt j => obtain ⟨t', rfl⟩ := ry; exact PySem.W.eq_bytes (fin_bl I q dec_byt)
  | _ => exact absurd (show false = true from hs) Bool.false_ne_true
 | _ => cases y <;> exact absurd (show false = true from hs) Bool.false_ne_true
theorem op_ne : OpR X (compareOp .NotEq) rNe := by
 intro pins s σ H x y v u Q I rx ry h
 obtain ⟨hs, q⟩ := h
 cases x with
 | non =>
  cases rx
  cases y with
  | non => cases ry; exact PySem.EqNone.ne_none_none (fin_bl I q (by simp))
  | bl j => cases ry; exact PySem.EqNone.ne_none_bool (fin_bl I q (by simp))
  | int j => obtain ⟨t', rfl⟩ := ry; exact PySem.EqNone.ne_none_int (fin_bl I q (by simp))
  | str j => obtain ⟨t', rfl⟩ := ry; exact PySem.EqNone.ne_none_str (fin_bl I q (by simp))
  | _ => exact absurd (show false = true from hs) Bool.false_ne_true
 | bl i =>
  cases rx
  cases y with
  | non => cases ry; exact PySem.EqNone.ne_bool_none (fin_bl I q (by simp))
  | bl j => cases ry; exact ne_bool (fin_bl I q (congrArg not dec_bl))
  | str j => obtain ⟨t', rfl⟩ := ry; exact PySem.EqMixed.ne_bool_str (fin_bl I q (by simp))
  | _ => exact absurd (show false = true from hs) Bool.false_ne_true
 | int i =>
  obtain ⟨t, rfl⟩ := rx
  cases y with
  | non => cases ry; exact PySem.EqNone.ne_int_none (fin_bl I q (by simp))
  | int j => obtain ⟨t', rfl⟩ := ry; exact ne_int (fin_bl I q (congrArg not dec_int))
  | str j => obtain ⟨t', rfl⟩ := ry; exact PySem.EqMixed.ne_int_str (fin_bl I q (by simp))
  | _ => exact absurd (show false = true from hs) Bool.false_ne_true
 | str i =>
  obtain ⟨t, rfl⟩ := rx
  cases y with
  | non => cases ry; exact PySem.EqNone.ne_str_none (fin_bl I q (by simp))
  | bl j => cases ry; exact PySem.EqMixed.ne_str_bool (fin_bl I q (by simp))
  | int j => obtain ⟨t', rfl⟩ := ry; exact PySem.EqMixed.ne_str_int (fin_bl I q (by simp))
  | str j => obtain ⟨t', rfl⟩ := ry; exact ne_str (fin_bl I q (congrArg not dec_str))
  | _ => exact absurd (show false = true from hs) Bool.false_ne_true
 | byt i =>
  obtain ⟨t, rfl⟩ := rx
  cases y with
  | byt j => obtain ⟨t', rfl⟩ := ry; exact PySem.W.ne_bytes (fin_bl I q (congrArg not dec_byt))
  | _ => exact absurd (show false = true from hs) Bool.false_ne_true
 | _ => cases y <;> exact absurd (show false = true from hs) Bool.false_ne_true
theorem op_lt : OpR X (compareOp .Lt) (rI0 fun i j => .bl (decide (i < j))) := opB0 fun _ _ _ _ _ _ _ q => lt_int q
theorem op_le : OpR X (compareOp .LtE) (rI0 fun i j => .bl (decide (i ≤ j))) := opB0 fun _ _ _ _ _ _ _ q => le_int q
theorem op_gt : OpR X (compareOp .Gt) (rI0 fun i j => .bl (decide (j < i))) := opB0 fun _ _ _ _ _ _ _ q => gt_int q
theorem op_ge : OpR X (compareOp .GtE) (rI0 fun i j => .bl (decide (j ≤ i))) := opB0 fun _ _ _ _ _ _ _ q => ge_int q
theorem op_notN : OpR X (compareOp .IsNot) (fun x y H Q => y = .non ∧ Q (.bl (!decide (x = .non))) H) := by
 intro pins s σ H x y v u Q I rx ry h
 obtain ⟨rfl, q⟩ := h
 cases ry
 refine isnot_none_gen (fin_bl I q ?_)
 cases x <;> first
  | (cases rx; rfl)
  | (obtain ⟨t, rfl⟩ := rx; rfl)
theorem nomark (b : Expr) {op : CmpOp} (h : op ≠ .In := by decide) (h2 : op ≠ .NotIn := by decide) : behindInMarks op b = false := by
 have e1 : (op == CmpOp.In) = false := by cases op <;> first | rfl | exact absurd rfl h
 have e2 : (op == CmpOp.NotIn) = false := by cases op <;> first | rfl | exact absurd rfl h2
 cases b <;> simp [behindInMarks, e1, e2]
theorem pe_cmpR {op : CmpOp} {r : R2} (ho : OpR X (compareOp op) r) (ha : PE X a ta) (hb : PE X b tb) (hm : behindInMarks op b = false) : PE X (.Compare a [op] [b] pos) (tOp r ta tb) := by
 intro pins s σ H Q I h
 exact wpAny_Compare1 (binT ha hb I h fun v u s2 x y H2 I2 rx ry q => ho pins s2 σ H2 x y v u Q I2 rx ry q) hm
noncomputable def tTest (t : TE) : TT := fun σ H Q => t σ H fun x H' => ∃ k, x = .bl k ∧ Q k H'
theorem pt_cmpR {op : CmpOp} {r : R2} (ho : OpR X (compareOp op) r) (ha : PE X a ta) (hb : PE X b tb) (hm : behindInMarks op b = false) : PT X (.Compare a [op] [b] pos) (tTest (tOp r ta tb)) := by
 intro pins s σ H Q I h
 refine wpAny_isTrue_Compare1 (thn (ha pins s σ H _ I h) fun v s1 ⟨x, H1, I1, r1, q1⟩ => thn (hb pins s1 σ H1 _ I1 q1) fun u s2 ⟨y, H2, I2, r2, q2⟩ =>
  thn (ho pins s2 σ H2 x y v u _ I2 r1 r2 q2) fun c s3 ⟨z, H3, I3, r3, k, e, q3⟩ => ?_) hm
 subst e
 cases r3
 exact wpAny_truthy_bool ⟨H3, I3, q3⟩
noncomputable def tChain (r r' : R2) (ta tb tc : TE) : TE := fun σ H Q => ta σ H fun x H1 => tb σ H1 fun y H2 => r x y H2 fun z H3 => ∃ k, z = .bl k ∧
 (if k = true then tc σ H3 fun w' H4 => r' y w' H4 Q else Q (.bl false) H3)
theorem pe_chain {op op' : CmpOp} {r r' : R2} (ho : OpR X (compareOp op) r) (ho' : OpR X (compareOp op') r') (ha : PE X a ta) (hb : PE X b tb) (hc : PE X c tc)
  (hm : lastMarks [op, op'] [b, c] = false := by with_unfolding_all rfl) : PE X (.Compare a [op, op'] [b, c] pos) (tChain r r' ta tb tc) := by
 intro pins s σ H Q I h
 refine Compare_chain (thn (ha pins s σ H _ I h) fun v s1 ⟨x, H1, I1, r1, q1⟩ => chain_link (thn (hb pins s1 σ H1 _ I1 q1) fun u s2 ⟨y, H2, I2, r2, q2⟩ =>
  thn (ho pins s2 σ H2 x y v u _ I2 r1 r2 q2) fun d s3 ⟨z, H3, I3, r3, k, e, q3⟩ => ?_)) hm
 subst e
 cases r3
 refine wpAny_truthy_bool ?_
 cases k with
 | false => exact ite_ff ⟨.bl false, H3, I3, rfl, q3⟩
 | true => exact ite_tt (chain_last (thn (hc pins s3 σ H3 _ I3 q3) fun w' s4 ⟨z', H4, I4, r4, q4⟩ => ho' pins s4 σ H4 y z' u w' Q I4 r2 r4 q4))
noncomputable def TruV (K : PySem.W.Frag) (x : V) (H : Hp) (k : Bool) : Prop :=
 match x with
 | .non => k = false
 | .bl b => k = b
 | .int i => k = (i != 0)
 | .str y => y.length ≤ sizeLine ∧ k = ((y.length : Int) != 0)
 | .byt y => y.size ≤ sizeLine ∧ k = ((y.size : Int) != 0)
 | .ref p => (∃ xs, SqL K H p xs ∧ k = !xs.isEmpty) ∨ (∃ xs, SqT K H p xs ∧ k = !xs.isEmpty) ∨ ∃ kvs, H p = some (.dK kvs) ∧ k = !kvs.isEmpty
 | _ => False
theorem isEmpty_kv {κ : Type} {kvs : List (κ × V)} {vs : List (κ × Value)} (r : KV kvs vs) : (!vs.isEmpty) = !kvs.isEmpty := by
 cases r <;> rfl
theorem isEmpty_of {xs : List V} {its : List Value} (r : Vals xs its) : (!its.toArray.isEmpty) = !xs.isEmpty := by
 cases r <;> simp
theorem line63 : (sizeLine : Nat) < 2 ^ 63 := by rw [sizeLine_eq]; decide
theorem tru_ok : TruR X (fun x H Q => ∃ k, TruV X.K x H k ∧ Q k H) := by
 intro pins s σ H x v Q I rx h
 obtain ⟨k, e, q⟩ := h
 have hl := line63
 have hs : sizeLine = 16777216 := sizeLine_eq
 cases x with
 | non =>
  cases rx
  have e' : k = false := e
  subst e'
  exact truthy_none ⟨H, I, q⟩
 | bl b =>
  cases rx
  have e' : k = b := e
  subst e'
  exact wpAny_truthy_bool ⟨H, I, q⟩
 | int i =>
  obtain ⟨t, rfl⟩ := rx
  have e' : k = (i != 0) := e
  subst e'
  exact PySem.P.truthy_int ⟨H, I, q⟩
 | str y =>
  obtain ⟨t, rfl⟩ := rx
  obtain ⟨hy, e'⟩ : y.length ≤ sizeLine ∧ k = ((y.length : Int) != 0) := e
  subst e'
  exact PySem.P.truthy_str (by omega) ⟨H, I.tok _, q⟩
 | byt y =>
  obtain ⟨t, rfl⟩ := rx
  obtain ⟨hy, e'⟩ : y.size ≤ sizeLine ∧ k = ((y.size : Int) != 0) := e
  subst e'
  exact PySem.W.truthy_bytes (by omega) ⟨H, I.tok _, q⟩
 | ref p =>
  cases rx
  have e' : (∃ xs, SqL X.K H p xs ∧ k = !xs.isEmpty) ∨ (∃ xs, SqT X.K H p xs ∧ k = !xs.isEmpty) ∨ ∃ kvs, H p = some (.dK kvs) ∧ k = !kvs.isEmpty := e
  rcases e' with ⟨xs, hx, e'⟩ | ⟨xs, hx, e'⟩ | ⟨kvs, hx, e'⟩
  ·subst e'
   obtain ⟨its, r, pl, hz⟩ := I.list hx
   have hlen := r.length
   exact wpAny_truthy_list pl.isList (by simp only [List.size_toArray]; omega) ⟨H, I.tok _, by rw [isEmpty_of r]; exact q⟩
  ·subst e'
   obtain ⟨its, r, pl, hz⟩ := I.tuple hx
   have hlen := r.length
   exact truthy_tuple pl (by simp only [List.size_toArray]; omega) ⟨H, I.tok _, by rw [isEmpty_of r]; exact q⟩
  ·subst e'
   obtain ⟨hz, hS, vs, r, m⟩ : kvs.length ≤ sizeLine ∧ (p == sysModules) = false ∧ ∃ vs, KV kvs vs ∧ s.heap.DictOf (mixKind X.prog X.w) p vs := I.hok p _ hx
   have hlen : kvs.length = vs.length := Paired.length r
   exact wpAny_truthy_dict hS m (by omega) ⟨H, I.tok _, by rw [isEmpty_kv r]; exact q⟩
 | _ => exact (show False from e).elim
theorem pt_truth (ha : PE X a ta) (he : ∀ whole, isTrue a X.env whole = (do let v ← whole; standAt a.pos; holding [v] (truthy v))) :
  PT X a (fun σ H Q => ta σ H fun x H' => ∃ k, TruV X.K x H' k ∧ Q k H') := by
 intro pins s σ H Q I h
 refine isTrue_plain (thn (ha pins s σ H _ I h) fun v s1 zz8 => ?_) (he _)
 obtain ⟨x, H1, I1, r1, q1⟩ := zz8
 exact tru_ok pins s1 σ H1 x v Q I1 r1 q1
theorem op_add_str : OpR X (binaryOp .Add) (fun x y H Q => ∃ i j, x = .str i ∧ y = .str j ∧ i.length + j.length ≤ sizeLine ∧ Q (.str (i ++ j)) H) := by
 intro pins s σ H x y v u Q I rx ry h
 obtain ⟨i, j, rfl, rfl, hz, q⟩ := h
 obtain ⟨t, rfl⟩ := rx
 obtain ⟨t', rfl⟩ := ry
 exact add_str (fun t' tk => ⟨.str (i ++ j), H, I.tok _, ⟨_, rfl⟩, q⟩) hz
theorem vals1 {x : V} {us : List Value} (r : Vals [x] us) : ∃ u, us = [u] ∧ RelV x u := by
 cases r with
 | cons r1 r2 => cases r2; exact ⟨_, rfl, r1⟩
theorem call_str_int : CallR X (.type "str") (fun xs H Q => ∃ i, xs = [.int i] ∧ i.natAbs.log2 < 1920 ∧ Q (.str (toString i)) H) := by
 intro pins s σ H xs us Q I r h
 obtain ⟨i, rfl, hz, q⟩ := h
 obtain ⟨u, rfl, t, rfl⟩ := vals1 r
 exact PySem.P.str_of_int hz ⟨.str _, H, I.tok _, ⟨_, rfl⟩, q⟩
end
end L2
namespace L2
open PySem PySem.Spec PyProof.Rows
structure ObjM (h : Heap) (x dx C : Addr) (mA : Str → Option Value) : Prop where
 obj : h.get? x = some (PySem.W.instObj C dx)
 ns : h.Ns1 dx mA
 ne : dx ≠ x
theorem lookIn_ns {h : Heap} {dx : Addr} {mA : Str → Option Value} (n : h.Ns1 dx mA) : ∃ od, h.get? dx = some od ∧ ∀ name, PySem.W.lookIn name od = some (mA name) := by
 obtain ⟨o, es, ep, ho, hd, hk, _, hm⟩ := n
 refine ⟨o, ho, fun name => ?_⟩
 have e := hm name
 unfold nsFind findBy at e
 rw [← Array.find?_toList] at e
 unfold PySem.W.lookIn
 rw [hd]
 dsimp only
 split
 ·rename_i y q
  rw [q] at e
  exact congrArg some e
 ·rename_i q
  rw [q] at e
  have a : es.toList.any (·.refKey) = false := by
   rw [List.any_eq_false]
   intro y hy
   obtain ⟨z, t, hkey⟩ := hk y (Array.mem_toList_iff.mp hy)
   simp [DictEntry.refKey, hkey]
  have a' : ¬ es.toList.any (·.refKey) = true := by rw [a]; exact Bool.false_ne_true
  rw [if_neg a']
  exact congrArg some e
theorem ObjM.look {h : Heap} {x dx C : Addr} {mA : Str → Option Value} (I : ObjM h x dx C mA) : ∃ od, PySem.W.InstAt h x (PySem.W.instObj C dx) C (some od) ∧ ∀ name, PySem.W.lookIn name od = some (mA name) :=
 let ⟨od, ho, hl⟩ := lookIn_ns I.ns
 ⟨od, ⟨I.obj, rfl, rfl, ho⟩, hl⟩
section
variable {prog : Program} {w : World} {A : Around} {E : Value → Shared → Prop} {s : Shared} {K : PySem.W.Frag} {x dx C f : Addr} {mA : Str → Option Value} {name : Str} {v : Value}
theorem get_map {expr : Bool} {Q : Value → Shared → Prop} (X : K.In s.heap) (I : ObjM s.heap x dx C mA) (hg : PySem.W.plainGet K C name = true) (hh : PySem.W.hasDictIn K C = true)
  (ha : PySem.W.findIn K (.ref C) name = some none) (hv : mA name = some v) (hv' : PySem.W.handedIn v = true) (h : Q v { s with toks := s.toks + 1 }) :
  wpAny (model prog w) A (getAttr (.ref x) name expr) Q E s := by
 obtain ⟨od, J, hl⟩ := I.look
 exact PySem.W.get_value X J (PySem.W.plainGet_of hg).1 (PySem.W.findObj_own hh ha rfl (by rw [hl, hv])) hv' h
theorem get_meth {pl : Sem Bool} {Q : Value × List Value → Shared → Prop} (X : K.In s.heap) (I : ObjM s.heap x dx C mA) (hg : PySem.W.plainGet K C name = true)
  (hf : PySem.W.findIn K (.ref C) name = some (some (.ref f))) (ht : PySem.W.isFn K (.ref f) = true) (hv : mA name = none) (h : Q (.ref f, [.ref x]) s) :
  wpAny (model prog w) A (getMethod (.ref x) name pl) Q E s := by
 obtain ⟨od, J, hl⟩ := I.look
 exact PySem.W.method_fn X J (PySem.W.plainGet_of hg).1 (PySem.W.plainGet_of hg).2 hf (beq_iff_eq.mp ht) (by show (PySem.W.lookIn name od).map (·.isSome) = some false; rw [hl, hv]; rfl) h
theorem set_map {ns : List Str} {Q : Unit → Shared → Prop} (X : K.In s.heap) (I : ObjM s.heap x dx C mA)
  (hs : PySem.W.findIn K (.ref C) "__setattr__" = some (some (.builtin "object.__setattr__"))) (hp : PySem.W.plainOver K C = true) (ht : PySem.W.takerIn K C name = some none) (hh : PySem.W.hasDictIn K C = true)
  (hw : PySem.Within mA ns) (hsz : ns.length ≤ sizeLine)
  (h : ∀ h', ObjM h' x dx C (fun y => if y = name then some v else mA y) → Heap.SameBut dx s.heap h' → Q () { s with heap := h', toks := s.toks + 2 }) :
  wpAny (model prog w) A (setAttr (.ref x) name v) Q E s := by
 obtain ⟨od, J, hl⟩ := I.look
 refine PySem.W.set_plain X J hs (PySem.W.osa_open (s := { s with toks := s.toks + 1 }) (r := none) X J hp ht fun b => ?_)
 obtain ⟨cd, hc, hd'⟩ := PySem.W.any_some hh
 have hx : s.heap.get? x = some ⟨.ref C, some dx, .plain, #[]⟩ := I.obj
 refine wpAny_bind (wpAny_pure (wpAny_bind (wpAny_bind (wpAny_loadPart hx (wpAny_bind (PySem.W.Looks.here (s := { s with toks := s.toks + 1 }) (PySem.W.looks_clsIn X hc) ?_))))))
 rw [hd']
 refine wpAny_pure (a := some dx) (wpAny_bind (wpAny_pure (wpAny_bind ?_)))
 refine wpAny_nsSet1 (s := { s with toks := s.toks + 1 }) I.ns fun h' hn2 hs2 => ?_
 obtain ⟨oD, esD, epD, hoD, hdD, hcD⟩ := hn2.count (PySem.Within.cons name v hw)
 refine wpAny_bind (wpAny_lookBehind hoD (by rw [hdD]; exact pastItsLine_dict (Nat.le_trans hcD (by rw [List.length_cons]; omega))) ?_)
 exact wpAny_pure (h _ ⟨(hs2.2 _ (Ne.symm I.ne)).trans I.obj, hn2, I.ne⟩ hs2)
theorem make_map {R : Result → Shared → Prop} {vs : List Value} {kw : List (Str × Value)} (X : K.In s.heap) (hm : PySem.W.makesIn K C = true)
  (hi : PySem.W.findIn K (.ref C) "__init__" = some (some (.ref f))) (hf : PySem.W.typeIn K (.ref f) = some (.type "function"))
  (h : codeAny (model prog w) (A.under (.builtin "type.__call__" ⟨.ref C :: vs, kw⟩)) (.call (.ref f) ⟨.ref (s.heap.objs.size + 1) :: vs, kw⟩) (PySem.W.InitBack (s.heap.objs.size + 1) R)
   { s with heap := (s.heap.push PySem.W.emptyDict).push (PySem.W.instObj C s.heap.objs.size) }) :
  codeAny (model prog w) A (.call (.ref C) ⟨vs, kw⟩) R s := by
 obtain ⟨hh, g, d, t, os⟩ := s
 exact PySem.W.make_core (PySem.W.makes_of X hm) (PySem.W.looks_findIn X hi) (fun self => PySem.W.bind_fn X self hf) (.inl rfl) h
end
noncomputable def putF (f : Str) (v : V) : List (Str × V) → List (Str × V)
 | [] => [(f, v)]
 | (g, x) :: r => if g = f then (g, v) :: r else (g, x) :: putF f v r
theorem lookup_putF (f g : Str) (v : V) : ∀ fs : List (Str × V), (putF f v fs).lookup g = if g = f then some v else fs.lookup g
 | [] => by
  show List.lookup g [(f, v)] = _
  by_cases h : g = f
  ·have hb : (g == f) = true := beq_iff_eq.mpr h
   simp only [List.lookup, hb, if_pos h]
  ·have hb : (g == f) = false := beq_eq_false_iff_ne.mpr h
   simp only [List.lookup, hb, if_neg h]
 | (k, x) :: r => by
  have ih := lookup_putF f g v r
  rw [show putF f v ((k, x) :: r) = (if k = f then (k, v) :: r else (k, x) :: putF f v r) from rfl]
  by_cases hk : k = f
  ·rw [if_pos hk]
   by_cases h : g = k
   ·have hb : (g == k) = true := beq_iff_eq.mpr h
    simp only [List.lookup, hb, if_pos (h.trans hk)]
   ·have hb : (g == k) = false := beq_eq_false_iff_ne.mpr h
    simp only [List.lookup, hb, if_neg (fun e : g = f => h (e.trans hk.symm))]
  ·rw [if_neg hk]
   by_cases h : g = k
   ·have hb : (g == k) = true := beq_iff_eq.mpr h
    simp only [List.lookup, hb, if_neg (fun e : g = f => hk (h.symm.trans e))]
   ·have hb : (g == k) = false := beq_eq_false_iff_ne.mpr h
    simp only [List.lookup, hb]
    exact ih
theorem keys_putF (f : Str) (v : V) : ∀ fs : List (Str × V), f ∈ (putF f v fs).map (·.1) ∧ ∀ g, g ∈ fs.map (·.1) → g ∈ (putF f v fs).map (·.1)
 | [] => ⟨by simp [putF], fun g h => by simp at h⟩
 | (k, x) :: r => by
  obtain ⟨i1, i2⟩ := keys_putF f v r
  rw [show putF f v ((k, x) :: r) = (if k = f then (k, v) :: r else (k, x) :: putF f v r) from rfl]
  by_cases hk : k = f
  ·rw [if_pos hk]
   subst hk
   exact ⟨by simp, fun g h => by simpa using h⟩
  ·rw [if_neg hk]
   refine ⟨?_, fun g h => ?_⟩
   ·rw [List.map_cons]
    exact List.mem_cons_of_mem _ i1
   ·rw [List.map_cons] at h ⊢
    rcases List.mem_cons.mp h with e | e
    ·exact List.mem_cons.mpr (.inl e)
    ·exact List.mem_cons_of_mem _ (i2 g e)
theorem length_putF (f : Str) (v : V) : ∀ fs : List (Str × V), (putF f v fs).length ≤ fs.length + 1
 | [] => by simp [putF]
 | (k, x) :: r => by
  have ih := length_putF f v r
  rw [show putF f v ((k, x) :: r) = (if k = f then (k, v) :: r else (k, x) :: putF f v r) from rfl]
  by_cases hk : k = f
  ·rw [if_pos hk, List.length_cons, List.length_cons]; omega
  ·rw [if_neg hk, List.length_cons, List.length_cons]; omega
theorem RelO.some_of {v : V} {o : Option Value} (r : RelO (some v) o) : ∃ u, o = some u ∧ RelV v u := by
 cases o with
 | none => exact (show False from r).elim
 | some u => exact ⟨u, rfl, r⟩
theorem RelO.none_of {o : Option Value} (r : RelO none o) : o = none := by
 cases o with
 | none => rfl
 | some u => exact (show False from r).elim
theorem handed_of {v : V} {u : Value} (r : RelV v u) : PySem.W.handedIn u = true := by
 cases v with
 | non => cases (show u = Value.none from r); rfl
 | bl b => cases (show u = Value.bool b from r); rfl
 | int i => obtain ⟨t, e⟩ := (show ∃ t, u = Value.int i t from r); cases e; rfl
 | str x => obtain ⟨t, e⟩ := (show ∃ t, u = Value.str x t from r); cases e; rfl
 | byt b => obtain ⟨t, e⟩ := (show ∃ t, u = Value.bytes b t from r); cases e; rfl
 | flt b => obtain ⟨t, e⟩ := (show ∃ t, u = Value.float b t from r); cases e; rfl
 | ref a => cases (show u = Value.ref a from r); rfl
 | ty n => cases (show u = Value.type n from r); rfl
section
variable {P : Program} {w : World} {H H' : Hp} {h h' : Heap} {a C dx : Addr} {fs fs' : List (Str × V)}
theorem ins_get (hok : HOk P w H h) (e : H a = some (.ins C dx fs)) : ∃ mA, ObjM h a dx C mA ∧ (∀ f, RelO (fs.lookup f) (mA f)) ∧ PySem.Within mA (fs.map (·.1)) ∧ fs.length ≤ 1000 ∧ H dx = some (.own a) := by
 obtain ⟨d, z, ne, ob, mA, n, r, q⟩ := (show ObjOk P w H h a (.ins C dx fs) from hok a _ e)
 exact ⟨mA, ⟨ob, n, ne⟩, r, q, z, d⟩
end
structure Cls (K : PySem.W.Frag) (C : Addr) : Prop where
 pg : PySem.W.plainGet K C Str.empty = true
 hd : PySem.W.hasDictIn K C = true
 po : PySem.W.plainOver K C = true
 sa : PySem.W.findIn K (.ref C) "__setattr__" = some (some (.builtin "object.__setattr__"))
theorem Cls.get {K : PySem.W.Frag} {C : Addr} (c : Cls K C) (f : Str) : PySem.W.plainGet K C f = true := c.pg
noncomputable def NoAttr (K : PySem.W.Frag) (C : Addr) (f : Str) : Prop := PySem.W.findIn K (.ref C) f = some none
theorem NoAttr.taker {K : PySem.W.Frag} {C : Addr} {f : Str} (n : NoAttr K C f) : PySem.W.takerIn K C f = some none := by
 unfold PySem.W.takerIn
 rw [show PySem.W.findIn K (.ref C) f = some none from n]
 rfl
structure Meth (K : PySem.W.Frag) (C : Addr) (m : Str) (f : Addr) : Prop where
 at_ : PySem.W.findIn K (.ref C) m = some (some (.ref f))
 fn : PySem.W.isFn K (.ref f) = true
 kp : PySem.W.keepIn K (.ref f) = true
section
variable {X : Cx} {pins : List (Addr × Obj)} {σ : St} {H : Hp} {s : Shared} {a C dx : Addr} {fs : List (Str × V)} {f : Str} {v : V} {A : Around} {E : Value → Shared → Prop}
theorem getattr_ok {b : Bool} {Q : Value → Shared → Prop} (I : Inv X pins σ H s) (e : H a = some (.ins C dx fs)) (c : Cls X.K C) (n : NoAttr X.K C f) (l : fs.lookup f = some v)
  (h : ∀ u s', Inv X pins σ H s' → RelV v u → Q u s') : wpAny (model X.prog X.w) A (getAttr (.ref a) f b) Q E s := by
 obtain ⟨mA, O, r, _, _, _⟩ := ins_get I.hok e
 obtain ⟨u, hu, ru⟩ := RelO.some_of (v := v) (o := mA f) (by rw [← l]; exact r f)
 exact get_map I.kIn O (c.get f) c.hd n hu (handed_of ru) (h u _ (I.tok _) ru)
theorem getmeth_ok {m : Str} {g : Addr} {pl : Sem Bool} {Q : Value × List Value → Shared → Prop} (I : Inv X pins σ H s) (e : H a = some (.ins C dx fs)) (c : Cls X.K C) (k : Meth X.K C m g) (l : fs.lookup m = none)
  (h : Q (.ref g, [.ref a]) s) : wpAny (model X.prog X.w) A (getMethod (.ref a) m pl) Q E s := by
 obtain ⟨mA, O, r, _, _, _⟩ := ins_get I.hok e
 have hn : mA m = none := RelO.none_of (by rw [← l]; exact r m)
 exact get_meth I.kIn O (c.get m) k.at_ k.fn hn h
theorem setattr_ok {y : V} {u : Value} {Q : Unit → Shared → Prop} (I : Inv X pins σ H s) (e : H a = some (.ins C dx fs)) (c : Cls X.K C) (n : NoAttr X.K C f) (hl : fs.length < 1000) (ry : RelV y u)
  (h : ∀ s', Inv X pins σ (upd H a (.ins C dx (putF f y fs))) s' → Q () s') : wpAny (model X.prog X.w) A (setAttr (.ref a) f u) Q E s := by
 obtain ⟨mA, O, r, wi, _, ho⟩ := ins_get I.hok e
 have hz : (fs.map (·.1)).length ≤ sizeLine := by rw [List.length_map, sizeLine_eq]; omega
 refine set_map I.kIn O c.sa c.po n.taker c.hd wi hz fun h' O' sb => h _ ?_
 have hd : ∃ o, h'.get? dx = some o := let ⟨o, _, _, e', _⟩ := O'.ns; ⟨o, e'⟩
 refine I.write (x := a) (e := dx) (by rw [e]; exact True.intro) (.inr ho) (fun b q hb z => (sb.2 b hb).trans z) hd ?_
 refine ⟨by rw [upd_ne O.ne]; exact ho, ?_, O.ne, O'.obj, _, O'.ns, fun g => ?_, fun g hg => ?_⟩
 ·have := length_putF f y fs; omega
 ·show RelO ((putF f y fs).lookup g) (if g = f then some u else mA g)
  rw [lookup_putF]
  by_cases q : g = f
  ·rw [if_pos q, if_pos q]; exact ry
  ·rw [if_neg q, if_neg q]; exact r g
 ·by_cases q : g = f
  ·rw [q]; exact (keys_putF f y fs).1
  ·refine (keys_putF f y fs).2 g (wi g fun z => hg ?_)
   show (if g = f then some u else mA g) = none
   rw [if_neg q]; exact z
theorem Inv.made (I : Inv X pins σ H s) : Inv X pins σ (upd (upd H s.heap.objs.size (.own (s.heap.objs.size + 1))) (s.heap.objs.size + 1) (.ins C s.heap.objs.size []))
  { s with heap := (s.heap.push PySem.W.emptyDict).push (PySem.W.instObj C s.heap.objs.size) } := by
 have e1 : (s.heap.push PySem.W.emptyDict).get? s.heap.objs.size = some PySem.W.emptyDict := Heap.get?_push_size s.heap rfl
 have e2 : ((s.heap.push PySem.W.emptyDict).push (PySem.W.instObj C s.heap.objs.size)).get? (s.heap.objs.size + 1) = some (PySem.W.instObj C s.heap.objs.size) := by
  have := Heap.get?_push_size (s.heap.push PySem.W.emptyDict) (o := PySem.W.instObj C s.heap.objs.size) rfl
  rwa [Heap.size_push] at this
 have e3 : (s.heap.push PySem.W.emptyDict).Ns s.heap.objs.size (fun _ => none) := ⟨PySem.W.emptyDict, #[], _, e1, rfl, (fun e he => absurd he (by simp)), fun _ => rfl⟩
 have I1 := I.laid (a := s.heap.objs.size) (o := .own (s.heap.objs.size + 1)) (h' := s.heap.push PySem.W.emptyDict) (t' := s.toks) (fun b u q => Heap.get?_push_of_some _ q) (Nat.le_refl _) ⟨_, e1⟩
 refine I1.laid (a := s.heap.objs.size + 1) (o := .ins C s.heap.objs.size []) (t' := s.toks) (fun b u q => Heap.get?_push_of_some _ q) (Nat.le_of_eq (Heap.size_push _ _)) ?_
 have ne : s.heap.objs.size ≠ s.heap.objs.size + 1 := Nat.ne_of_lt (Nat.lt_succ_self _)
 refine ⟨by rw [upd_ne ne, upd_same], Nat.zero_le _, ne, e2, fun _ => none, (Heap.Ns1.of_empty e3).at fun o q => Heap.get?_push_of_some _ q, fun _ => True.intro, fun y hy => absurd rfl hy⟩
theorem attr_of {prog : Program} {w : World} {env : Env} {e : Expr} {f : Str} {pos : Pos} {s : Shared} {Q : Value → Shared → Prop} (hb : attributeBase e f env (eval e env) = eval e env)
  (h : wpAny (model prog w) A (eval e env) (fun o s₁ => wpAny (model prog w) A (getAttr o f true) Q E s₁) E s) : wpAny (model prog w) A (eval (.Attribute e f pos) env) Q E s :=
 Attribute_any_ h (by rw [arm_eval_Attribute, hb])
end
noncomputable def tFld (K : PySem.W.Frag) (ta : TE) (f : Str) : TE := fun σ H Q => ta σ H fun x H1 => ∃ a C dx fs v, x = .ref a ∧ H1 a = some (.ins C dx fs) ∧ Cls K C ∧ NoAttr K C f ∧ fs.lookup f = some v ∧ Q v H1
noncomputable def sFld (K : PySem.W.Frag) (ta tv : TE) (f : Str) : TS := fun D σ H => tv σ H fun y H1 => ta σ H1 fun x H2 => ∃ a C dx fs, x = .ref a ∧ H2 a = some (.ins C dx fs) ∧ Cls K C ∧ NoAttr K C f ∧ fs.length < 1000 ∧
 D.nx σ (upd H2 a (.ins C dx (putF f y fs)))
section
variable {X : Cx} {o e value : Expr} {f : Str} {pos pos' tpos : Pos} {ta tv : TE}
theorem pe_fld (he : PE X e ta) (hb : attributeBase e f X.env (eval e X.env) = eval e X.env) : PE X (.Attribute e f pos) (tFld X.K ta f) := by
 intro pins s σ H Q I h
 refine attr_of hb (thn (he pins s σ H _ I h) fun u s1 zz9 => ?_)
 obtain ⟨x, H1, I1, rx, a, C, dx, fs, v, ex, ea, c, n, l, q⟩ := zz9
 subst ex
 obtain rfl : u = Value.ref a := rx
 exact getattr_ok I1 ea c n l fun u' s2 I2 ru => ⟨v, H1, I2, ru, q⟩
theorem ps_fld (ha : PE X o ta) (hv : PE X value tv) (hs : swapsWith value (some (.Attribute o f pos')) pos.line X.env = pure false) : PS X (.Assign [.Attribute o f pos'] value pos) (sFld X.K ta tv f) := by
 intro pins s σ H D I h
 refine plainObj_wpAny_Assign_Attribute (thn (hv pins s σ H _ I h) fun u s1 zz9 => ?_) hs
 obtain ⟨y, H1, I1, ry, q⟩ := zz9
 refine thn (ha pins s1 σ H1 _ I1 q) fun ov s2 zz10 => ?_
 obtain ⟨x, H2, I2, rx, a, C, dx, fs, ex, ea, c, n, l, q2⟩ := zz10
 subst ex
 obtain rfl : ov = Value.ref a := rx
 exact setattr_ok I2 ea c n l ry fun s3 I3 => ⟨σ, _, I3, q2⟩
end
section
variable {X : Cx} {pins : List (Addr × Obj)} {σ : St} {H : Hp} {s : Shared} {A : Around} {E : Value → Shared → Prop} {Q : Value → Shared → Prop} {c : Value} {b : Bool}
inductive TyOf (K : PySem.W.Frag) (H : Hp) : V → Value → Prop where
 | non : TyOf K H .non (.type "NoneType")
 | bl (x : Bool) : TyOf K H (.bl x) (.type "bool")
 | int (i : Int) : TyOf K H (.int i) (.type "int")
 | str (x : Str) : TyOf K H (.str x) (.type "str")
 | flt (x : UInt64) : TyOf K H (.flt x) (.type "float")
 | lst {a : Addr} {xs : List V} (e : H a = some (.lst xs)) : TyOf K H (.ref a) (.type "list")
 | frz {a : Addr} {o : Obj} {xs : List V} (e : H a = some (.frz o (.lst xs))) : TyOf K H (.ref a) (.type "list")
 | tup {a : Addr} {xs : List V} (e : H a = some (.tup xs)) : TyOf K H (.ref a) (.type "tuple")
 | dK {a : Addr} {kvs : List (Key × V)} (e : H a = some (.dK kvs)) : TyOf K H (.ref a) (.type "dict")
 | dT {a : Addr} {kvs : List (List Key × V)} (e : H a = some (.dT kvs)) : TyOf K H (.ref a) (.type "dict")
 | ins {a C dx : Addr} {fs : List (Str × V)} (e : H a = some (.ins C dx fs)) (cl : Cls K C) (ha : PySem.W.findIn K (.ref C) "__class__" = some (some (.builtin "object.__class__")))
   (hn : PySem.W.specialIn K (.builtin "object.__class__") "__get__" = some (some (.builtin "getset_descriptor.__get__"))) (htk : PySem.W.takesIn K (.builtin "object.__class__") = some true)
   (hm : PySem.W.mroIn K C (.type "object") = some true) : TyOf K H (.ref a) (.ref C)
theorem isinst_ok {x : V} {u t : Value} (I : Inv X pins σ H s) (rx : RelV x u) (ty : TyOf X.K H x t) (e : PySem.W.kitOne X.K t c = some b) (h : ∀ tk, Q (.bool b) { s with toks := tk }) :
  wpAny (model X.prog X.w) A (call (.builtin "isinstance") [u, c]) Q E s := by
 cases ty with
 | non => cases (show u = Value.none from rx); exact PySem.W.kia_one PySem.W.kitx_none I.kIn True.intro e (fun z => nomatch z) h
 | bl y => cases (show u = Value.bool y from rx); exact PySem.W.kia_one PySem.W.kitx_bool I.kIn True.intro e (fun z => nomatch z) h
 | int i => obtain ⟨t, q⟩ := (show ∃ t, u = Value.int i t from rx); cases q; exact PySem.W.kia_one PySem.W.kitx_int I.kIn True.intro e (fun z => nomatch z) h
 | str y => obtain ⟨t, q⟩ := (show ∃ t, u = Value.str y t from rx); cases q; exact PySem.W.kia_one PySem.W.kitx_str I.kIn True.intro e (fun z => nomatch z) h
 | flt y => obtain ⟨t, q⟩ := (show ∃ t, u = Value.float y t from rx); cases q; exact PySem.W.kia_one PySem.W.kitx_float I.kIn True.intro e (fun z => nomatch z) h
 | @lst a xs ea =>
  cases (show u = Value.ref a from rx)
  obtain ⟨_, _, n, _, h1⟩ := (show ObjOk X.prog X.w H s.heap a (.lst xs) from I.hok a _ ea)
  exact PySem.W.kia_one PySem.W.kitx_list I.kIn ⟨_, h1, rfl⟩ e (fun z => nomatch z) h
 | @frz a ob xs ea =>
  cases (show u = Value.ref a from rx)
  obtain ⟨_, _, _, n, _, h1⟩ := (show ObjOk X.prog X.w H s.heap a (.frz ob (.lst xs)) from I.hok a _ ea)
  exact PySem.W.kia_one PySem.W.kitx_list I.kIn ⟨_, h1, rfl⟩ e (fun z => nomatch z) h
 | @tup a xs ea =>
  cases (show u = Value.ref a from rx)
  obtain ⟨_, _, _, p⟩ := (show ObjOk X.prog X.w H s.heap a (.tup xs) from I.hok a _ ea)
  obtain ⟨o, h1, h2, _⟩ := p
  exact PySem.W.kia_one PySem.W.kitx_tuple I.kIn ⟨o, h1, h2⟩ e (fun z => nomatch z) h
 | @dK a kvs ea =>
  cases (show u = Value.ref a from rx)
  obtain ⟨_, _, vs, _, p⟩ := (show ObjOk X.prog X.w H s.heap a (.dK kvs) from I.hok a _ ea)
  obtain ⟨o, es, ep, h1, h2, _⟩ := p
  exact PySem.W.kia_one PySem.W.kitx_dict I.kIn ⟨o, h1, h2.1⟩ e (fun z => nomatch z) h
 | @dT a kvs ea =>
  cases (show u = Value.ref a from rx)
  obtain ⟨_, _, xs, _, o, es, ep, h1, h2, _⟩ := (show ObjOk X.prog X.w H s.heap a (.dT kvs) from I.hok a _ ea)
  exact PySem.W.kia_one PySem.W.kitx_dict I.kIn ⟨o, h1, h2.1⟩ e (fun z => nomatch z) h
 | @ins a C dx fs ea cl ha hn htk hm =>
  cases (show u = Value.ref a from rx)
  obtain ⟨mA, O, _⟩ := ins_get I.hok ea
  obtain ⟨od, J, _⟩ := O.look
  exact PySem.W.kia_one (PySem.W.kitx_own (cl.get _) cl.hd ha hn htk hm) I.kIn J e (fun z => nomatch z) h
end
end L2
namespace L2
open PySem PySem.Spec PyProof.Rows
structure Room (k : Nat) (A : Around) : Prop where
 hd : A.handled = none
 dp : A.depth + 3 * k + 5 < recursionLimit
 un : A.units + 16 * k + 200 < cLine
theorem Room.mono {j k : Nat} {A : Around} (r : Room k A) (h : j ≤ k) : Room j A := ⟨r.hd, by have := r.dp; omega, by have := r.un; omega⟩
theorem Room.deeper {k : Nat} {A : Around} (r : Room (k + 1) A) (env : Env) : Room k (A.deeper env) :=
 ⟨r.hd, by have := r.dp; show A.depth + 1 + 3 * k + 5 < _; omega, by have := r.un; show A.units + 3 + 16 * k + 200 < _; omega⟩
theorem make_depth {A : Around} {C : Addr} {us : List Value} {kw : List (Str × Value)} : (A.under (.builtin "type.__call__" ⟨.ref C :: us, kw⟩)).depth = A.depth + 1 := by
 first | rfl | simp [Around.under, Code.weight, Code.isCreation, Code.isGuard, Code.isCaller, Code.frames, Code.isFrame, guardIds]
theorem make_units {A : Around} {C : Addr} {us : List Value} {kw : List (Str × Value)} : (A.under (.builtin "type.__call__" ⟨.ref C :: us, kw⟩)).units = A.units + 1 := by
 first | rfl | simp [Around.under, Code.cUnits, Code.frames, Code.isFrame]
theorem Room.make {k : Nat} {A : Around} (r : Room (k + 1) A) (C : Addr) (us : List Value) (kw : List (Str × Value)) : Room k (A.under (.builtin "type.__call__" ⟨.ref C :: us, kw⟩)) :=
 ⟨r.hd, by have := r.dp; rw [make_depth]; omega, by have := r.un; rw [make_units]; omega⟩
theorem Room.depth {k : Nat} {A : Around} (r : Room k A) : A.depth < recursionLimit := by have := r.dp; omega
theorem Room.units {k : Nat} {A : Around} (r : Room k A) : A.units + 64 < cLine := by have := r.un; omega
noncomputable def tNil : TA := fun _ H Q => Q [] H
noncomputable def tCons (ta : TE) (tr : TA) : TA := fun σ H Q => ta σ H fun x H1 => tr σ H1 fun xs H2 => Q (x :: xs) H2
section
variable {X : Cx} {e : Expr} {es : List Expr} {te : TE} {t : TA} {pos : Pos}
theorem pa_nil : PA X [] tNil := fun _ _ _ _ H Q I h => Calls.spliced_nil ⟨[], H, I, .nil, h⟩
theorem pa_cons (ha : PE X e te) (hr : PA X es t) (hs : starEach (e :: es) X.env = (false, eval e X.env) :: starEach es X.env := by rfl) : PA X (e :: es) (tCons te t) := by
 intro pos pins s σ H Q I h
 rw [hs]
 show wpAny _ _ (spliced ((false, eval e X.env) :: backTo pos (starEach es X.env))) _ _ s
 refine Calls.spliced_cons (thn (ha pins s σ H _ I h) fun u s1 zz9 => ?_)
 obtain ⟨x, H1, I1, r1, q1⟩ := zz9
 refine thn (hr pos pins s1 σ H1 _ I1 q1) fun us s2 zz11 => ?_
 obtain ⟨xs, H2, I2, r2, q2⟩ := zz11
 exact ⟨x :: xs, H2, I2, .cons r1 r2, q2⟩
noncomputable def tTup (t : TA) : TE := fun σ H Q => t σ H fun xs H1 => xs.length ≤ sizeLine ∧ ∀ p, H1 p = none → Q (.ref p) (upd H1 p (.tup xs))
noncomputable def tLst (t : TA) : TE := fun σ H Q => t σ H fun xs H1 => xs.length ≤ sizeLine ∧ ∀ p, H1 p = none → Q (.ref p) (upd H1 p (.lst xs))
theorem pe_tup {x1} (h : PA X es t) : PE X (.Tuple es x1 pos) (tTup t) := by
 intro pins s σ H Q I hq
 refine wpAny_Tuple_spliced (thn (h pos pins s σ H _ I hq) fun us s1 zz7 => ?_)
 obtain ⟨xs, H1, I1, r, z, q⟩ := zz7
 refine ⟨by rw [← r.length]; exact z, ?_⟩
 have hf : H1 s1.heap.objs.size = none := I1.hok.fresh (Nat.le_refl _)
 refine ⟨.ref s1.heap.objs.size, upd H1 s1.heap.objs.size (.tup xs), I1.laid (t' := s1.toks) (fun b u e => Heap.get?_push_of_some _ e) (Nat.le_refl _) ?_, rfl, q _ hf⟩
 exact ⟨z, us, r, ⟨_, Heap.get?_push_size _ rfl, rfl, _, rfl⟩⟩
theorem pe_lst (h : PA X es t) : PE X (.List es pos) (tLst t) := by
 intro pins s σ H Q I hq
 refine wpAny_List_spliced (thn (h pos pins s σ H _ I hq) fun us s1 zz7 => ?_)
 obtain ⟨xs, H1, I1, r, z, q⟩ := zz7
 refine ⟨by rw [← r.length]; exact z, ?_⟩
 have hf : H1 s1.heap.objs.size = none := I1.hok.fresh (Nat.le_refl _)
 refine ⟨.ref s1.heap.objs.size, upd H1 s1.heap.objs.size (.lst xs), I1.laid (t' := s1.toks) (fun b u e => Heap.get?_push_of_some _ e) (Nat.le_refl _) ?_, rfl, q _ hf⟩
 exact ⟨z, us, 0, r, Heap.get?_push_size _ rfl⟩
end
noncomputable abbrev Sp := List V → Hp → VK → XK → Prop
noncomputable abbrev CXT := List Env → Hp → Shared → XK → Value → Shared → Prop
structure Env0 (P : Program) (w : World) (K : PySem.W.Frag) (mg : Str → Option Value) (base : Heap) (A : Around) (outer : List Env) (s : Shared) (H : Hp) : Prop where
 frames : A.frames = some outer
 mod : Mod K mg base
 bs : ∀ b o, base.get? b = some o → s.heap.get? b = some o ∧ H b = none
 bsz : base.objs.size ≤ s.heap.objs.size
 funs : s.heap.FunFrames base outer
 frf : ∀ b ∈ frs outer, H b = none
 hok : HOk P w H s.heap
 bare : AllBare s.gens
noncomputable def CE (outer : List Env) (P : Program) (w : World) (H : Hp) (s : Shared) (Q : VK) (u : Value) (s' : Shared) : Prop :=
 ∃ v H', s'.os = s.os ∧ AllBare s'.gens ∧ Un (frs outer) [] H H' s.heap s'.heap ∧ HOk P w H' s'.heap ∧ RelV v u ∧ Q v H'
noncomputable def CR (CX : CXT) (outer : List Env) (P : Program) (w : World) (H : Hp) (s : Shared) (Q : VK) (E : XK) (r : Result) (s' : Shared) : Prop :=
 match r with
 | .ok (.ret u) => CE outer P w H s Q u s'
 | .ok _ => False
 | .error e => CX outer H s E e s'
structure FnOk (P : Program) (w : World) (K : PySem.W.Frag) (mg : Str → Option Value) (base : Heap) (CX : CXT) (k : Nat) (f : Addr) (fd : FuncData) (ps : List Str) (sp : Sp) : Prop where
 len : ∀ vs H Q E, sp vs H Q E → vs.length = ps.length
 run : ∀ (A : Around) (outer : List Env) (s : Shared) (H : Hp) (args : Args) (us : List Value) (vs : List V) (Q : VK) (E : XK), Room k A → Env0 P w K mg base A outer s H → BindsTo s fd args (ps.zip us) → Vals vs us → sp vs H Q E →
  codeAny (model P w) A (.call (.ref f) args) (CR CX outer P w H s Q E) s
theorem Env0.make {P : Program} {w : World} {K : PySem.W.Frag} {mg : Str → Option Value} {base : Heap} {A : Around} {outer : List Env} {s : Shared} {H : Hp} (e : Env0 P w K mg base A outer s H) (C : Addr) (us : List Value) (kw : List (Str × Value)) :
  Env0 P w K mg base (A.under (.builtin "type.__call__" ⟨.ref C :: us, kw⟩)) outer s H := ⟨by first | exact e.frames | (simpa [Around.under, Code.envs, Code.isFrame, pushEnvs] using e.frames), e.mod, e.bs, e.bsz, e.funs, e.frf, e.hok, e.bare⟩
section
variable {X : Cx} {pins : List (Addr × Obj)} {σ : St} {H : Hp} {s s' : Shared}
theorem Inv.env0 (I : Inv X pins σ H s) : Env0 X.prog X.w X.K X.mg X.base X.A X.stack s H :=
 ⟨I.ok.frames, I.ok.mod, I.bs, Nat.le_trans I.ok.bsz I.sz, I.stack, I.stkFree, I.hok, I.bare⟩
theorem Inv.after {Q : VK} {u : Value} (I : Inv X pins σ H s) (h : CE X.stack X.prog X.w H s Q u s') : EP X pins σ Q u s' := by
 obtain ⟨v, H', os, bare, un, hok, r, q⟩ := h
 obtain ⟨hh, g, d, t, os'⟩ := s'
 obtain rfl : os' = s.os := os
 exact ⟨v, H', I.call (h' := hh) (g' := g) (d' := d) (t' := t) (ch := []) un hok bare (fun b z => absurd z (by simp)), r, q⟩
end
noncomputable def tCall (sp : Sp) (dvs : List V) (E : XK) (t : TA) : TE := fun σ H Q => t σ H fun vs H1 => sp (vs ++ dvs) H1 Q E
noncomputable def tMeth (C : Addr) (m : Str) (sp : Sp) (dvs : List V) (E : XK) (ta : TE) (t : TA) : TE := fun σ H Q => ta σ H fun x H1 => ∃ a dx fs, x = .ref a ∧ H1 a = some (.ins C dx fs) ∧ fs.lookup m = none ∧
 t σ H1 fun vs H2 => sp (x :: (vs ++ dvs)) H2 Q E
noncomputable def tMake (C : Addr) (sp : Sp) (dvs : List V) (E : XK) (t : TA) : TE := fun σ H Q => t σ H fun vs H1 => ∀ x dx, H1 x = none → H1 dx = none → dx ≠ x →
 sp (.ref x :: (vs ++ dvs)) (upd (upd H1 dx (.own x)) x (.ins C dx [])) (fun v H2 => v = .non ∧ Q (.ref x) H2) E
noncomputable def Binds (K : PySem.W.Frag) (fd : FuncData) (ps : List Str) (ds : List Value) : Prop :=
 ∀ (s : Shared) (us : List Value), K.In s.heap → (us ++ ds).length = ps.length → BindsTo s fd ⟨us, []⟩ (ps.zip (us ++ ds))
theorem Binds.all {K : PySem.W.Frag} {fd : FuncData} {ps : List Str} (h : ∀ us : List Value, us.length = ps.length → bindArgs fd ⟨us, []⟩ = pure (ps.zip us)) : Binds K fd ps [] := fun s us _ hl => by
 rw [List.append_nil] at hl ⊢
 exact .of_eq (h us hl)
noncomputable def Passes (CX : CXT) (X : Cx) (E : XK) : Prop := ∀ (pins : List (Addr × Obj)) (σ : St) (H : Hp) (s : Shared) (e : Value) (s' : Shared), Inv X pins σ H s → CX X.stack H s E e s' → X.xe e s'
section
variable {X : Cx} {CX : CXT} {k : Nat} {f C : Addr} {fd : FuncData} {ps : List Str} {sp : Sp} {dvs : List V} {ds : List Value} {E : XK} {x m : Str} {p pos apos : Pos} {e o : Expr} {es : List Expr} {ta : TE} {t : TA}
theorem run_fn {pins : List (Addr × Obj)} {σ : St} {H : Hp} {s : Shared} {Q : VK} {us : List Value} {vs : List V} (F : FnOk X.prog X.w X.K X.mg X.base CX k f fd ps sp) (hr : Room k X.A) (hb : Binds X.K fd ps ds) (hd : Vals dvs ds) (hx : Passes CX X E)
  (I : Inv X pins σ H s) (r : Vals vs us) (h : sp (vs ++ dvs) H Q E) : wpAny (model X.prog X.w) X.A (call (.ref f) us) (EP X pins σ Q) X.xe s := by
 have r2 : Vals (vs ++ dvs) (us ++ ds) := r.append hd
 have hl : (us ++ ds).length = ps.length := by rw [← r2.length]; exact F.len _ _ _ _ h
 refine wpAny_call (codeAny_mono (F.run X.A X.stack s H ⟨us, []⟩ (us ++ ds) (vs ++ dvs) Q E hr I.env0 (hb s us I.kIn hl) r2 h) fun r s' hq => ?_)
 cases r with
 | error e => exact hx pins σ H s e s' I hq
 | ok fl =>
  cases fl with
  | ret u => exact I.after hq
  | next => exact False.elim hq
  | brk => exact False.elim hq
  | cont => exact False.elim hq
theorem pe_call (F : FnOk X.prog X.w X.K X.mg X.base CX k f fd ps sp) (hr : Room k X.A) (hg : Gl X x) (hm : X.mg x = some (.ref f)) (hk : PySem.W.keepIn X.K (.ref f) = true) (hb : Binds X.K fd ps ds) (hd : Vals dvs ds) (hx : Passes CX X E)
  (ha : PA X (e :: es) t) (hdb : (x == ("__debug__" : Str)) = false := by decide) (he : starEach (e :: es) X.env = (false, eval e X.env) :: starEach es X.env := by rfl) (hpl : (backTo pos (starEach es X.env)).any (·.1) = false := by rfl) :
  PE X (.Call (.Name x p) (e :: es) [] pos) (tCall sp dvs E t) := by
 intro pins s σ H Q I h
 refine wpAny_Call_Name_kw (ld_glob I hg hm ?_ hdb)
 refine PySem.W.callWith_K (h₀ := X.base) I.ok.mod.kin hk (thn (ha pos pins s σ H _ I h) fun us s1 zz12 => ?_) he hpl
 obtain ⟨vs, H1, I1, r, q⟩ := zz12
 refine ⟨I1.kIn, ?_⟩
 exact run_fn F hr hb hd hx I1 r q
theorem pe_meth {pl : Sem Bool} (he : PE X o ta) (c : Cls X.K C) (hm : Meth X.K C m f) (F : FnOk X.prog X.w X.K X.mg X.base CX k f fd ps sp) (hr : Room k X.A) (hb : Binds X.K fd ps ds) (hd : Vals dvs ds) (hx : Passes CX X E) (ha : PA X (e :: es) t)
  (hst : starEach (e :: es) X.env = (false, eval e X.env) :: starEach es X.env := by rfl) (hpl : (backTo pos (starEach es X.env)).any (·.1) = false := by rfl)
  (ht : eval (.Call (.Attribute o m apos) (e :: es) [] pos) X.env = (do
   let ov ← eval o X.env
   standAt apos.atName
   let (f, first) ← holding [ov] (getMethod ov m pl)
   callWith pos f first (backTo pos (starEach (e :: es) X.env)) (backToKw pos (keywordEach [] X.env))) := by rfl) :
  PE X (.Call (.Attribute o m apos) (e :: es) [] pos) (tMeth C m sp dvs E ta t) := by
 intro pins s σ H Q I h
 refine PySem.W.methodCall_KW (pl := pl) (thn (he pins s σ H _ I h) fun u s1 zz13 => ?_) ht
 obtain ⟨x, H1, I1, rx, a, dx, fs, ex, ea, l, q⟩ := zz13
 subst ex
 obtain rfl : u = Value.ref a := rx
 refine getmeth_ok I1 ea c hm l ?_
 refine PySem.W.callWith_K (first := [.ref a]) (h₀ := X.base) I.ok.mod.kin hm.kp (thn (ha pos pins s1 σ H1 _ I1 q) fun us s2 zz14 => ?_) hst hpl
 obtain ⟨vs, H2, I2, r, q2⟩ := zz14
 refine ⟨I2.kIn, ?_⟩
 exact run_fn (us := .ref a :: us) (vs := .ref a :: vs) F hr hb hd hx I2 (.cons rfl r) q2
theorem pe_meth0 {pl : Sem Bool} (he : PE X o ta) (c : Cls X.K C) (hm : Meth X.K C m f) (F : FnOk X.prog X.w X.K X.mg X.base CX k f fd ps sp) (hr : Room k X.A) (hb : Binds X.K fd ps ds) (hd : Vals dvs ds) (hx : Passes CX X E)
  (ht : eval (.Call (.Attribute o m apos) [] [] pos) X.env = (do
   let ov ← eval o X.env
   standAt apos.atName
   let (f, first) ← holding [ov] (getMethod ov m pl)
   callWith pos f first (backTo pos (starEach [] X.env)) (backToKw pos (keywordEach [] X.env))) := by rfl) :
  PE X (.Call (.Attribute o m apos) [] [] pos) (tMeth C m sp dvs E ta tNil) := by
 intro pins s σ H Q I h
 refine PySem.W.methodCall_KW (pl := pl) (thn (he pins s σ H _ I h) fun u s1 zz15 => ?_) ht
 obtain ⟨x, H1, I1, rx, a, dx, fs, ex, ea, l, q⟩ := zz15
 subst ex
 obtain rfl : u = Value.ref a := rx
 refine getmeth_ok I1 ea c hm l ?_
 exact PySem.W.callWith_K0 (first := [.ref a]) I1.kIn hm.kp (run_fn (us := [.ref a]) (vs := [.ref a]) F hr hb hd hx I1 (.cons rfl .nil) q)
structure Mk (K : PySem.W.Frag) (C f : Addr) : Prop where
 makes : PySem.W.makesIn K C = true
 init : PySem.W.findIn K (.ref C) "__init__" = some (some (.ref f))
 fn : PySem.W.isFn K (.ref f) = true
 kp : PySem.W.keepIn K (.ref C) = true
theorem run_make {pins : List (Addr × Obj)} {σ : St} {H : Hp} {s : Shared} {Q : VK} {us : List Value} {vs : List V} (M : Mk X.K C f) (F : FnOk X.prog X.w X.K X.mg X.base CX k f fd ps sp) (hr : Room (k + 1) X.A) (hb : Binds X.K fd ps ds) (hd : Vals dvs ds)
  (hx : Passes CX X E) (I : Inv X pins σ H s) (r : Vals vs us)
  (h : ∀ x dx, H x = none → H dx = none → dx ≠ x → sp (.ref x :: (vs ++ dvs)) (upd (upd H dx (.own x)) x (.ins C dx [])) (fun v H2 => v = .non ∧ Q (.ref x) H2) E) :
  wpAny (model X.prog X.w) X.A (call (.ref C) us) (EP X pins σ Q) X.xe s := by
 have hq := h (s.heap.objs.size + 1) s.heap.objs.size (I.hok.fresh (Nat.le_succ _)) (I.hok.fresh (Nat.le_refl _)) (Nat.ne_of_lt (Nat.lt_succ_self _))
 have I2 := Inv.made (C := C) I
 have r2 : Vals (V.ref (s.heap.objs.size + 1) :: (vs ++ dvs)) (Value.ref (s.heap.objs.size + 1) :: (us ++ ds)) := .cons rfl (r.append hd)
 have hl : (Value.ref (s.heap.objs.size + 1) :: us ++ ds).length = ps.length := by
  have e := r2.length
  rw [F.len _ _ _ _ hq] at e
  exact e.symm
 refine wpAny_call (make_map (f := f) I.kIn M.makes M.init (beq_iff_eq.mp M.fn) (codeAny_mono (F.run _ X.stack _ _ ⟨Value.ref (s.heap.objs.size + 1) :: us, []⟩ (Value.ref (s.heap.objs.size + 1) :: (us ++ ds)) _ _ E (hr.make C us [])
  (I2.env0.make C us []) (hb _ (Value.ref (s.heap.objs.size + 1) :: us) I2.kIn hl) r2 hq) fun r s' hq' => ?_))
 cases r with
 | error e => exact hx pins σ _ _ e s' I2 hq'
 | ok fl =>
  cases fl with
  | ret u =>
   obtain ⟨v, H', I3, rv, ev, q3⟩ := I2.after hq'
   subst ev
   exact ⟨rv, ⟨V.ref (s.heap.objs.size + 1), H', I3, rfl, q3⟩⟩
  | next => exact False.elim hq'
  | brk => exact False.elim hq'
  | cont => exact False.elim hq'
theorem pe_make (M : Mk X.K C f) (F : FnOk X.prog X.w X.K X.mg X.base CX k f fd ps sp) (hr : Room (k + 1) X.A) (hg : Gl X x) (hm : X.mg x = some (.ref C)) (hb : Binds X.K fd ps ds) (hd : Vals dvs ds) (hx : Passes CX X E)
  (ha : PA X (e :: es) t) (hdb : (x == ("__debug__" : Str)) = false := by decide) (he : starEach (e :: es) X.env = (false, eval e X.env) :: starEach es X.env := by rfl) (hpl : (backTo pos (starEach es X.env)).any (·.1) = false := by rfl) :
  PE X (.Call (.Name x p) (e :: es) [] pos) (tMake C sp dvs E t) := by
 intro pins s σ H Q I h
 refine wpAny_Call_Name_kw (ld_glob I hg hm ?_ hdb)
 refine PySem.W.callWith_K (h₀ := X.base) I.ok.mod.kin M.kp (thn (ha pos pins s σ H _ I h) fun us s1 zz16 => ?_) he hpl
 obtain ⟨vs, H1, I1, r, q⟩ := zz16
 refine ⟨I1.kIn, ?_⟩
 exact run_make M F hr hb hd hx I1 r q
end
structure FnScope (N P : List Str) (sc : Scope) : Prop where
 kind : sc.kind = .function
 co : sc.isCoroutine = false
 gen : sc.isGenerator = false
 nd : N.Nodup
 pre : N.take P.length = P
 par : ∀ x ∈ P, sc.names.lookup x = some .local ∨ sc.names.lookup x = some .cell
 nofree : ∀ y ∈ sc.names, y.2 ≠ .free
theorem bindL_out {kindOf : Str → Option NameKind} {x : Str} : ∀ {binds : List (Str × Value)} {m : Str → Option Value}, (∀ v, (x, v) ∉ binds) → bindL kindOf binds m x = m x
 | [], _, _ => rfl
 | (n, v) :: r, m, h => by
  unfold bindL
  rw [bindL_out fun w hw => h w (List.mem_cons_of_mem _ hw)]
  split
  ·have : x ≠ n := by rintro rfl; exact h v List.mem_cons_self
   simp [this]
  ·rfl
theorem bindC_out {kindOf : Str → Option NameKind} {x : Str} : ∀ {binds : List (Str × Value)} {m : Str → Option Value}, (∀ v, (x, v) ∉ binds) → bindC kindOf binds m x = m x
 | [], _, _ => rfl
 | (n, v) :: r, m, h => by
  unfold bindC
  rw [bindC_out fun w hw => h w (List.mem_cons_of_mem _ hw)]
  split
  ·rfl
  ·have : x ≠ n := by rintro rfl; exact h v List.mem_cons_self
   simp [this]
theorem bindL_get {kindOf : Str → Option NameKind} {x : Str} {v : Value} : ∀ {P : List Str} {vs : List Value} {i : Nat} {m : Str → Option Value}, P.Nodup → P[i]? = some x → vs[i]? = some v → kindOf x = some .local →
  bindL kindOf (P.zip vs) m x = some v
 | [], _, _, _, _, h, _, _ => by simp at h
 | _ :: _, [], _, _, _, _, h, _ => by simp at h
 | p :: P, w :: vs, 0, m, nd, h1, h2, hk => by
  simp at h1 h2; subst h1; subst h2
  show bindL kindOf ((p, w) :: P.zip vs) m p = _
  unfold bindL
  rw [bindL_out fun v hv => (List.nodup_cons.mp nd).1 (List.of_mem_zip hv).1, if_pos hk]
  simp
 | p :: P, w :: vs, i + 1, m, nd, h1, h2, hk => by
  show bindL kindOf ((p, w) :: P.zip vs) m x = _
  unfold bindL
  exact bindL_get (i := i) (List.nodup_cons.mp nd).2 (by simpa using h1) (by simpa using h2) hk
theorem bindC_get {kindOf : Str → Option NameKind} {x : Str} {v : Value} : ∀ {P : List Str} {vs : List Value} {i : Nat} {m : Str → Option Value}, P.Nodup → P[i]? = some x → vs[i]? = some v → kindOf x ≠ some .local →
  bindC kindOf (P.zip vs) m x = some v
 | [], _, _, _, _, h, _, _ => by simp at h
 | _ :: _, [], _, _, _, _, h, _ => by simp at h
 | p :: P, w :: vs, 0, m, nd, h1, h2, hk => by
  simp at h1 h2; subst h1; subst h2
  show bindC kindOf ((p, w) :: P.zip vs) m p = _
  unfold bindC
  rw [bindC_out fun v hv => (List.nodup_cons.mp nd).1 (List.of_mem_zip hv).1, if_neg hk]
  simp
 | p :: P, w :: vs, i + 1, m, nd, h1, h2, hk => by
  show bindC kindOf ((p, w) :: P.zip vs) m x = _
  unfold bindC
  exact bindC_get (i := i) (List.nodup_cons.mp nd).2 (by simpa using h1) (by simpa using h2) hk
noncomputable def start (N : List Str) (vs : List V) : St := vs.map some ++ List.replicate (N.length - vs.length) none
noncomputable def cxOf (CX : CXT) (P : Program) (w : World) (K : PySem.W.Frag) (mg : Str → Option Value) (base : Heap) (N : List Str) (qual : Str) (scope : Scope) (f : Addr) (cd : Value) (A : Around) (outer : List Env) (s : Shared) (H : Hp) (E : XK) : Cx where
 prog := P
 w := w
 K := K
 mg := mg
 base := base
 A := A.deeper (envOfC qual scope s.heap.objs.size f cd)
 N := N
 s₀ := s
 H₀ := H
 env := envOfC qual scope s.heap.objs.size f cd
 outer := outer
 stack := envOfC qual scope s.heap.objs.size f cd :: outer
 ex := []
 calm := true
 fn := fun _ => true
 pn := []
 xe := fun e s' => wpAny (model P w) (A.deeper (envOfC qual scope s.heap.objs.size f cd)) (leaving (envOfC qual scope s.heap.objs.size f cd) e) (fun _ s'' => CX outer H s E e s'') (fun e' s'' => CX outer H s E e' s'') s'
theorem cell_has {sc : Scope} {n : Nat} {x : Str} (h : sc.names.lookup x = some .cell) : ∃ c, (cellsFrom n sc.names []).lookup x = some c := by
 have q := PySem.W.cellsFrom_some sc.names n [] (.inl h)
 exact Option.isSome_iff_exists.mp q
theorem inv_start {CX : CXT} {P : Program} {w : World} {K : PySem.W.Frag} {mg : Str → Option Value} {base : Heap} {N ps : List Str} {qual : Str} {scope : Scope} {f : Addr} {cd : Value} {A : Around} {outer : List Env} {s s1 : Shared} {H : Hp} {E : XK} {us : List Value} {vs : List V}
  (S : FnScope N ps scope) (hd : A.handled = none) (e0 : Env0 P w K mg base A outer s H) (hl : vs.length = ps.length) (r : Vals vs us)
  (x : InCallC s s.heap.objs.size (bindL (envOfC qual scope s.heap.objs.size f cd).kindOf (ps.zip us) fun _ => none) (cellsFrom (s.heap.objs.size + 1) scope.names []) (bindC (envOfC qual scope s.heap.objs.size f cd).kindOf (ps.zip us) fun _ => none) s1) :
  Inv (cxOf CX P w K mg base N qual scope f cd A outer s H E) [] (start N vs) H s1 := by
 have hpl : ps.length ≤ N.length := by have := congrArg List.length S.pre; rw [List.length_take] at this; omega
 obtain ⟨h1, tk, rfl, hk⟩ := x.done
 have noA : ∀ b : Addr, b ∉ (cxOf CX P w K mg base N qual scope f cd A outer s H E).ex := fun b z => absurd (show b ∈ ([] : List Addr) from z) (by simp)
 refine ⟨⟨e0.mod, S.kind, rfl, rfl, Nat.le_refl _, fun y z c h1 h2 => ?_, fun y hy => ?_, fun y c _ h => ?_, fun _ => hd, Around.frames_deeper e0.frames, .inr ⟨rfl, rfl⟩, fun b z => absurd z (noA b), e0.bs, e0.bsz, fun b _ _ => noA b, fun b z => absurd z (noA b), e0.funs, e0.frf⟩,
  rfl, e0.bare, Un.kept hk, ⟨_, x.toInCall.ns, fun i y v h1 h2 h3 => ?_⟩, fun y c h => ⟨_, x.cell y c h⟩, e0.hok.fresh (Nat.le_refl _), fun y c h => ?_, fun p hp => absurd (show p ∈ ([] : List (Addr × Obj)) from hp) (by simp), e0.hok.kept hk, ?_⟩
 ·exact name_of_addr x.apart (PySem.mem_of_lookup h1) (PySem.mem_of_lookup h2)
 ·have hy : scope.names.lookup y = some .cell ∨ scope.names.lookup y = some .free := hy
  rcases hy with hy | hy
  ·exact cell_has hy
  ·exact absurd rfl (S.nofree _ (PySem.mem_of_lookup hy))
 ·exact Nat.le_of_lt (x.above y c (PySem.mem_of_lookup h))
 ·have hi : i < vs.length := by
   unfold start at h2
   by_cases hi : i < vs.length
   ·exact hi
   ·rw [List.getElem?_append_right (by simpa using hi)] at h2
    rw [List.getElem?_replicate] at h2
    split at h2 <;> cases h2
  have ha : vs[i]? = some v := by
   unfold start at h2
   rw [List.getElem?_append_left (by simpa using hi), List.getElem?_map] at h2
   cases e : vs[i]? with
   | none => rw [e] at h2; cases h2
   | some a => rw [e] at h2; cases h2; rfl
  obtain ⟨u, hu, rv⟩ := r.get ha
  have hp : ps[i]? = some y := by
   rw [← S.pre, List.getElem?_take_of_lt (by omega)]; exact h1
  have ndP : ps.Nodup := by rw [← S.pre]; exact S.nd.sublist (List.take_sublist _ _)
  refine ⟨u, rv, ?_⟩
  rcases S.par y (List.mem_of_getElem? hp) with k | k
  ·exact .inl ⟨k, bindL_get ndP hp hu k⟩
  ·obtain ⟨c, e⟩ := cell_has (n := s.heap.objs.size + 1) k
   refine .inr ⟨.inl k, c, e, ?_⟩
   have q := x.cell y c e
   rw [bindC_get ndP hp hu (by show scope.names.lookup y ≠ _; rw [k]; decide)] at q
   exact q
 ·exact e0.hok.fresh (Nat.le_of_lt (x.above y c (PySem.mem_of_lookup h)))
 ·unfold start
  show _ = N.length
  rw [List.length_append, List.length_map, List.length_replicate]
  omega
theorem fn_of {CX : CXT} {P : Program} {w : World} {K : PySem.W.Frag} {mg : Str → Option Value} {base : Heap} {k : Nat} {f : Addr} {name qual : Str} {params : Arguments} {body : List Stmt} {scope : Scope} {dV kV doc pm cdv ct oc : Value} {an od : Option Addr}
  {osl : Array (Option Value)} {N ps : List Str} {sp : Sp} (lk : K.lookup f = some ⟨oc, od, .func (PySem.W.fnOf name qual params body scope dV kV doc pm an cdv ct), osl⟩) (hcd : PySem.W.codeIn K cdv qual = true) (S : FnScope N ps scope)
  (len : ∀ vs H Q E, sp vs H Q E → vs.length = ps.length)
  (hbody : ∀ (A : Around) (outer : List Env) (s : Shared) (H : Hp) (vs : List V) (Q : VK) (E : XK), Room k (A.deeper (envOfC qual scope s.heap.objs.size f cdv)) → sp vs H Q E →
   ∃ t, PSs (cxOf CX P w K mg base N qual scope f cdv A outer s H E) body t ∧ t { nx := fun _ H' => Q .non H', rt := Q } (start N vs) H) :
  FnOk P w K mg base CX (k + 1) f (PySem.W.fnOf name qual params body scope dV kV doc pm an cdv ct) ps sp := by
 refine ⟨len, fun A outer s H args us vs Q E hr e0 hb r hsp => ?_⟩
 have hl := len _ _ _ _ hsp
 have KX : K.In s.heap := e0.mod.kin.keeps fun b o e => (e0.bs b o e).1
 have lim : s.heap.NoLimit := e0.mod.nolimit.keeps fun b o e => (e0.bs b o e).1
 have hkind : ∀ y ∈ ps.zip us, scope.names.lookup y.1 = some .local ∨ (scope.names.lookup y.1 = some .cell ∧ ((cellsFrom (s.heap.objs.size + 1) scope.names []).lookup y.1).isSome = true) := fun ⟨n, v⟩ hy => by
  rcases S.par n (List.of_mem_zip hy).1 with q | q
  ·exact .inl q
  ·exact .inr ⟨q, PySem.W.cellsFrom_some _ _ _ (.inl q)⟩
 refine codeAny_call_function hr.depth (KX _ _ lk) rfl S.co S.gen rfl (PySem.W.codeRec_of KX hcd) (hb _ _ _ _ ?_)
 refine wpAny_newFunctionEnv_cells S.kind hkind fun env he s1 x => ?_
 subst he
 refine ⟨lim.keeps x.toInCall.keep, codeAny_func ?_⟩
 obtain ⟨t, ht, hq⟩ := hbody A outer s H vs Q E (hr.deeper _) hsp
 have I : Inv (cxOf CX P w K mg base N qual scope f cdv A outer s H E) [] (start N vs) H s1 := inv_start S hr.hd e0 hl r x
 refine wpAny_mono (ht [] s1 (start N vs) H _ I hq) (fun fl s' hs => ?_) fun e s' hs => hs
 have fin : ∀ {σ' : St} {H' : Hp} {v : V} {u : Value}, Inv (cxOf CX P w K mg base N qual scope f cdv A outer s H E) [] σ' H' s' → RelV v u → Q v H' → CE outer P w H s Q u s' :=
  fun {σ' H' v u} J rv q => ⟨v, H', J.os, J.bare, J.base, J.hok, rv, q⟩
 cases fl with
 | ret u =>
  obtain ⟨v, σ', H', J, rv, q⟩ := hs
  exact fin J rv q
 | next =>
  obtain ⟨σ', H', J, q⟩ := hs
  exact fin (v := V.non) (u := Value.none) J rfl q
 | brk =>
  obtain ⟨_, _, _, q⟩ := hs
  exact False.elim q
 | cont =>
  obtain ⟨_, _, _, q⟩ := hs
  exact False.elim q
end L2
namespace L2
open PySem PySem.Spec PyProof.Rows
section
variable {X : Cx} {x : Str} {p pos : Pos} {e : Expr} {es : List Expr} {t : TA} {id T : String} {r : List V → Hp → VK → Prop}
noncomputable def tCB (r : List V → Hp → VK → Prop) (t : TA) : TE := fun σ H Q => t σ H fun vs H1 => r vs H1 Q
theorem pe_callB (hc : CallR X (.builtin id) r) (hg : Gl X x) (hm : X.mg x = none) (hv : bootBuiltins x = some (.builtin id)) (ha : PA X (e :: es) t) (hn : x ≠ "__name__" := by decide) (hdb : (x == ("__debug__" : Str)) = false := by decide)
  (he : starEach (e :: es) X.env = (false, eval e X.env) :: starEach es X.env := by rfl) (hpl : (backTo pos (starEach es X.env)).any (·.1) = false := by rfl) : PE X (.Call (.Name x p) (e :: es) [] pos) (tCB r t) := by
 intro pins s σ H Q I h
 refine wpAny_Call_Name_kw (ld_blt I hg hm hv ?_ hn hdb)
 refine PyProof.Rows.callWith_builtin1 (thn (ha pos pins s σ H _ I h) fun us s1 zz17 => ?_) he hpl
 obtain ⟨vs, H1, I1, r1, q1⟩ := zz17
 exact hc pins s1 σ H1 vs us Q I1 r1 q1
theorem pe_callTy (hc : CallR X (.type T) r) (hg : Gl X x) (hm : X.mg x = none) (hv : bootBuiltins x = some (.type T)) (ha : PA X (e :: es) t) (hn : x ≠ "__name__" := by decide) (hdb : (x == ("__debug__" : Str)) = false := by decide)
  (he : starEach (e :: es) X.env = (false, eval e X.env) :: starEach es X.env := by rfl) (hpl : (backTo pos (starEach es X.env)).any (·.1) = false := by rfl) : PE X (.Call (.Name x p) (e :: es) [] pos) (tCB r t) := by
 intro pins s σ H Q I h
 refine wpAny_Call_Name_kw (ld_blt I hg hm hv ?_ hn hdb)
 refine PyProof.Rows.callWith_type1 (thn (ha pos pins s σ H _ I h) fun us s1 zz18 => ?_) he hpl
 obtain ⟨vs, H1, I1, r1, q1⟩ := zz18
 exact hc pins s1 σ H1 vs us Q I1 r1 q1
end
end L2
namespace HT
open PySem PyProof.Rows
section
variable {prog : Program} {w : World} {A : Around} {E : Value → Shared → Prop} {s : Shared}
noncomputable def sIx (n d : Nat) : Option Int → Nat
 | none => d
 | some v => if v < 0 then (v + (n : Int)).toNat else min v.toNat n
theorem sIx_none (n d : Nat) : sIx n d none = d := rfl
theorem sIx_nat (n d k : Nat) : sIx n d (some (k : Int)) = min k n := by
 show (if (k : Int) < 0 then ((k : Int) + (n : Int)).toNat else min (k : Int).toNat n) = min k n
 rw [if_neg (by omega), Int.toNat_natCast]
end
end HT
namespace L2
open PySem PySem.Spec PyProof.Rows
noncomputable abbrev TO := St → Hp → (Option Int → Hp → Prop) → Prop
noncomputable def PO (X : Cx) (e : Option Expr) (t : TO) : Prop :=
 ∀ (pins : List (Addr × Obj)) (s : Shared) (σ : St) (H : Hp) (Q : Option Int → Hp → Prop), Inv X pins σ H s → t σ H Q →
  wpAny (model X.prog X.w) X.A (evalPart e X.env) (fun u s' => ∃ o H', Inv X pins σ H' s' ∧ IsPart u o ∧ Q o H') X.xe s
noncomputable def tNoPart : TO := fun _ H Q => Q none H
noncomputable def tPart (t : TE) : TO := fun σ H Q => t σ H fun x H1 => ∃ i, x = .int i ∧ Q (some i) H1
theorem intsAre_of {ns : List Int} : ∀ {us : List Value}, Vals (ns.map V.int) us → IntsAre us ns := by
 induction ns with
 | nil => intro us r; rw [List.map_nil] at r; cases r; exact .nil
 | cons n ns ih =>
  intro us r
  rw [List.map_cons] at r
  cases r with
  | cons r1 r2 =>
   obtain ⟨t, e⟩ := r1
   subst e
   exact .cons n t (ih r2)
section
variable {X : Cx} {e : Expr} {te : TE} {lo hi : Option Expr} {tl th : TO} {pos p2 : Pos}
theorem po_none : PO X none tNoPart := by
 intro pins s σ H Q I h
 rw [evalPart_none]
 exact wpAny_pure ⟨none, H, I, .none, h⟩
theorem po_some (h : PE X e te) : PO X (some e) (tPart te) := by
 intro pins s σ H Q I hw
 rw [evalPart_some]
 refine thn (h pins s σ H _ I hw) fun u s1 zz9 => ?_
 obtain ⟨x, H1, I1, r1, q1⟩ := zz9
 obtain ⟨i, rfl, q⟩ := q1
 obtain ⟨t, rfl⟩ := r1
 exact ⟨some i, H1, I1, .int i t, q⟩
noncomputable def SlR (X : Cx) (r : V → Option Int → Option Int → Hp → VK → Prop) : Prop :=
 ∀ (pins : List (Addr × Obj)) (s : Shared) (σ : St) (H : Hp) (x : V) (v vl vu : Value) (lo hi : Option Int) (sl : Addr) (Q : VK), Inv X pins σ H s → RelV x v → s.heap.IsSliceOf sl vl vu .none → IsPart vl lo → IsPart vu hi → r x lo hi H Q →
  ∃ T id, typeLookup (.type T) "__getitem__" = pure (some (.builtin id)) ∧ s.TypeIs v T ∧ wpAny (model X.prog X.w) X.A (getItem v (.ref sl)) (EP X pins σ Q) X.xe s
noncomputable def tSl (r : V → Option Int → Option Int → Hp → VK → Prop) (te : TE) (tl th : TO) : TE := fun σ H Q => te σ H fun x H1 => tl σ H1 fun l H2 => th σ H2 fun u H3 => r x l u H3 Q
theorem pe_slice {r : V → Option Int → Option Int → Hp → VK → Prop} (hr : SlR X r) (he : PE X e te) (hl : PO X lo tl) (hu : PO X hi th) : PE X (.Subscript e (.Slice lo hi none p2) pos) (tSl r te tl th) := by
 intro pins s σ H Q I h
 refine Subscript_ (thn (he pins s σ H _ I h) fun v s1 zz9 => ?_)
 obtain ⟨x, H1, I1, r1, q1⟩ := zz9
 refine wpAny_Slice (thn (hl pins s1 σ H1 _ I1 q1) fun vl s2 zz19 => ?_)
 obtain ⟨l, H2, I2, pl, q2⟩ := zz19
 refine thn (hu pins s2 σ H2 _ I2 q2) fun vu s3 zz9 => ?_
 obtain ⟨u, H3, I3, pu, q3⟩ := zz9
 rw [evalPart_none]
 refine wpAny_pure ?_
 have I4 : Inv X pins σ H3 { s3 with heap := s3.heap.push { cls := .type "slice", data := .fields #[vl, vu, .none] } } := I3.kept (t' := s3.toks) fun b ob q => Heap.get?_push_of_some _ q
 obtain ⟨T, id, hT, ht, hg⟩ := hr pins { s3 with heap := s3.heap.push { cls := .type "slice", data := .fields #[vl, vu, .none] } } σ H3 x v vl vu l u s3.heap.objs.size Q I4 r1 (Heap.IsSliceOf.new ..) pl pu q3
 show wpAny (model X.prog X.w) X.A (subscriptTail e (.Slice lo hi none p2) v (.ref s3.heap.objs.size)) (EP X pins σ Q) X.xe { s3 with heap := s3.heap.push { cls := .type "slice", data := .fields #[vl, vu, .none] } }
 exact tail_any (ops := [.ref s3.heap.objs.size, v]) ht hT hg (by with_unfolding_all rfl)
noncomputable def cutV (xs : List V) (lo hi : Option Int) : List V := (xs.drop (HT.sIx xs.length 0 lo)).take (HT.sIx xs.length xs.length hi - HT.sIx xs.length 0 lo)
theorem cutV_length (xs : List V) (lo hi : Option Int) : (cutV xs lo hi).length ≤ xs.length := by
 unfold cutV
 rw [List.length_take, List.length_drop]
 omega
end
end L2
namespace L2
open PySem PySem.Spec PyProof.Rows
noncomputable def ixN (n : Nat) (i : Int) : Option Nat := if 0 ≤ i then (if i < n then some i.toNat else none) else if -(n : Int) ≤ i then some (i + n).toNat else none
noncomputable def atI {α : Type} (xs : List α) (i : Int) : Option α := (ixN xs.length i).bind fun j => xs[j]?
theorem ixN_seq {n : Nat} {i : Int} {j : Nat} (h : ixN n i = some j) : seqIndex? i n = some j ∧ j < n ∧ -(n : Int) ≤ i ∧ i < n := by
 unfold ixN at h
 by_cases h0 : 0 ≤ i
 ·rw [if_pos h0] at h
  by_cases h1 : i < n
  ·rw [if_pos h1] at h
   have e : i.toNat = j := Option.some.inj h
   exact ⟨by rw [seqIndex_of h0 h1, e], by omega, by omega, h1⟩
  ·rw [if_neg h1] at h; cases h
 ·rw [if_neg h0] at h
  by_cases h1 : -(n : Int) ≤ i
  ·rw [if_pos h1] at h
   have e : (i + n).toNat = j := Option.some.inj h
   exact ⟨by rw [seqIndex_neg (by omega) h1, e], by omega, h1, by omega⟩
  ·rw [if_neg h1] at h; cases h
theorem atI_get {α : Type} {xs : List α} {i : Int} {v : α} (h : atI xs i = some v) : ∃ j, seqIndex? i xs.length = some j ∧ xs[j]? = some v ∧ j < xs.length ∧ -(xs.length : Int) ≤ i ∧ i < xs.length := by
 unfold atI at h
 cases e : ixN xs.length i with
 | none => rw [e] at h; cases h
 | some j =>
  rw [e] at h
  obtain ⟨h1, h2, h3, h4⟩ := ixN_seq e
  exact ⟨j, h1, h, h2, h3, h4⟩
theorem atI_nat {α : Type} {xs : List α} {j : Nat} {v : α} (h : xs[j]? = some v) : atI xs (j : Int) = some v := by
 have hj : j < xs.length := (List.getElem?_eq_some_iff.mp h).1
 have e : ixN xs.length (j : Int) = some j := by
  unfold ixN
  rw [if_pos (by omega), if_pos (by omega)]; simp
 unfold atI; rw [e]; exact h
noncomputable def PlainIx (b : Expr) : Prop := ∀ o i, subscripted b false o i = operate [o, i] (getItem o i)
noncomputable def IxR (X : Cx) (r : R2) : Prop :=
 ∀ (value slice : Expr) (pins : List (Addr × Obj)) (s : Shared) (σ : St) (H : Hp) (x y : V) (v u : Value) (Q : VK), Inv X pins σ H s → RelV x v → RelV y u → r x y H Q →
  subscripted slice false v u = operate [v, u] (getItem v u) → wpAny (model X.prog X.w) X.A (subscriptTail value slice v u) (EP X pins σ Q) X.xe s
noncomputable def MtR (X : Cx) (id : String) (r : V → List V → Hp → VK → Prop) : Prop :=
 ∀ (pins : List (Addr × Obj)) (s : Shared) (σ : St) (H : Hp) (x : V) (xs : List V) (v : Value) (us : List Value) (Q : VK), Inv X pins σ H s → RelV x v → Vals xs us → r x xs H Q →
  wpAny (model X.prog X.w) X.A (call (.builtin id) (v :: us)) (EP X pins σ Q) X.xe s
section
variable {X : Cx} {a b : Expr} {ta tb : TE} {pos : Pos}
theorem pe_ix {r : R2} (hr : IxR X r) (ha : PE X a ta) (hb : PE X b tb) (hs : PlainIx b) : PE X (.Subscript a b pos) (tOp r ta tb) := by
 intro pins s σ H Q I h
 exact Subscript_ (binT ha hb I h fun v u s2 x y H2 I2 rx ry q => hr a b pins s2 σ H2 x y v u Q I2 rx ry q (hs _ _))
noncomputable def rIxL (K : PySem.W.Frag) : R2 := fun x y H Q => ∃ p xs i v, x = .ref p ∧ y = .int i ∧ SqL K H p xs ∧ atI xs i = some v ∧ Q v H
noncomputable def rIxT (K : PySem.W.Frag) : R2 := fun x y H Q => ∃ p xs i v, x = .ref p ∧ y = .int i ∧ SqT K H p xs ∧ atI xs i = some v ∧ Q v H
noncomputable def rIxS : R2 := fun x y H Q => ∃ z i c, x = .str z ∧ y = .int i ∧ z.length ≤ sizeLine ∧ atI z.cps.toList i = some c ∧ Q (.str ⟨#[c]⟩) H
theorem ix_list : IxR X (rIxL X.K) := by
 intro value slice pins s σ H x y v u Q I rx ry h hs
 obtain ⟨p, xs, i, z, rfl, rfl, hq, he, q⟩ := h
 cases rx
 obtain ⟨t, rfl⟩ := ry
 obtain ⟨its, r, pl, hz⟩ := I.list hq
 obtain ⟨j, h1, h2, h3, h4, h5⟩ := atI_get he
 obtain ⟨w, ew, rw'⟩ := r.get h2
 have hl := r.length
 have hn := line63
 have fin : EP X pins σ Q w s := ⟨z, H, I, rw', q⟩
 by_cases h0 : 0 ≤ i
 ·have hj : i.toNat = j := by
   rw [seqIndex_of h0 h5] at h1
   exact Option.some.inj h1
  exact item_listR pl.isList h0 (by omega) (by rw [hj]; simpa using ew) fin hs
 ·have hj : (i + (its.toArray.size : Int)).toNat = j := by
   rw [seqIndex_neg (by omega) h4] at h1
   rw [List.size_toArray, ← hl]
   exact Option.some.inj h1
  exact subscriptTail_builtinR (x := w) pl.isList.typeIs slot_list_getitem.lookup
   (wpAny_getItem_list_neg (Q := fun r s' => r = w ∧ EP X pins σ Q r s') pl.isList (by omega) (by rw [List.size_toArray] <;> omega) (by omega) (by rw [hj]; simpa using ew) ⟨rfl, fin⟩) hs
theorem ix_tup : IxR X (rIxT X.K) := by
 intro value slice pins s σ H x y v u Q I rx ry h hs
 obtain ⟨p, xs, i, z, rfl, rfl, hq, he, q⟩ := h
 cases rx
 obtain ⟨t, rfl⟩ := ry
 obtain ⟨its, r, pl, hz⟩ := I.tuple hq
 obtain ⟨j, h1, h2, h3, h4, h5⟩ := atI_get he
 obtain ⟨w, ew, rw'⟩ := r.get h2
 have hl := r.length
 have hn := line63
 have fin : EP X pins σ Q w s := ⟨z, H, I, rw', q⟩
 exact subscriptTail_builtinR (x := w) pl.typeIs slot_tuple_getitem.lookup
  (getItem_tuple (j := j) (Q := fun r s' => r = w ∧ EP X pins σ Q r s') pl (by omega) (by omega) (by rw [List.size_toArray, ← hl]; exact h1) (by simpa using ew) ⟨rfl, fin⟩) hs
theorem ix_str : IxR X rIxS := by
 intro value slice pins s σ H x y v u Q I rx ry h hs
 obtain ⟨z, i, c, rfl, rfl, hz, he, q⟩ := h
 obtain ⟨t, rfl⟩ := rx
 obtain ⟨t', rfl⟩ := ry
 obtain ⟨j, h1, h2, h3, h4, h5⟩ := atI_get he
 have hl : z.cps.toList.length = z.length := by simp [Str.length]
 rw [hl] at h1 h4 h5
 have hn := line63
 exact tail_any (typeIs_str s z t) slot_str_getitem.lookup (getItem_str (c := c) (by
  have e1 : decide (i < -(2 ^ 63 : Int)) = false := decide_eq_false (by omega)
  have e2 : decide (i ≥ 2 ^ 63) = false := decide_eq_false (by omega)
  rw [e1, e2, Bool.or_false]) (by rw [h1]; simpa using h2) ⟨.str ⟨#[c]⟩, H, I.tok _, ⟨_, rfl⟩, q⟩) hs
theorem mapSeq_set (its : List Value) (n j : Nat) (u : Value) : Obj.mapSeq (·.setIfInBounds j u) { cls := .type "list", data := .seq its.toArray n } = { cls := .type "list", data := .seq (its.set j u).toArray n } := by
 simp [Obj.mapSeq]
theorem Inv.lst {pins : List (Addr × Obj)} {σ : St} {H : Hp} {s : Shared} {p : Addr} {xs : List V} (I : Inv X pins σ H s) (h : H p = some (.lst xs)) :
  ∃ (its : List Value) (n : Nat), Vals xs its ∧ s.heap.get? p = some { cls := .type "list", data := .seq its.toArray n } ∧ xs.length ≤ sizeLine := by
 obtain ⟨z, its, n, r, e⟩ := I.hok p _ h
 exact ⟨its, n, r, e, z⟩
theorem Inv.lstUpd {pins : List (Addr × Obj)} {σ : St} {H : Hp} {s : Shared} {p : Addr} {xs ys : List V} {its its' : List Value} {n n' : Nat} {f : Obj → Obj} (I : Inv X pins σ H s) (h : H p = some (.lst xs))
  (ho : s.heap.get? p = some { cls := .type "list", data := .seq its.toArray n }) (hf : f { cls := .type "list", data := .seq its.toArray n } = { cls := .type "list", data := .seq its'.toArray n' }) (r : Vals ys its') (hz : ys.length ≤ sizeLine) (t : Nat) :
  Inv X pins σ (upd H p (.lst ys)) { s with heap := s.heap.update p f, toks := t } := by
 have e : (s.heap.update p f).get? p = some { cls := .type "list", data := .seq its'.toArray n' } := by
  rw [Heap.get?_update_self f ho (by rw [hf] <;> rfl), hf]
 refine I.write (x := p) (e := p) (by rw [h]; trivial) (.inl rfl) (fun b u hb q => (Heap.get?_update_other _ _ (Ne.symm hb)).trans q) ⟨_, e⟩ ?_
 exact ⟨hz, its', n', r, e⟩
noncomputable def rSetL : V → V → V → Hp → (Hp → Prop) → Prop := fun o i v H Q => ∃ p xs k j, o = .ref p ∧ i = .int k ∧ H p = some (.lst xs) ∧ ixN xs.length k = some j ∧ Q (upd H p (.lst (xs.set j v)))
theorem set_list : PSet X rSetL := by
 intro pins s σ H o i v ov iv u Q I ro ri rv h
 obtain ⟨p, xs, k, j, rfl, rfl, hp, hj, q⟩ := h
 cases ro
 obtain ⟨t, rfl⟩ := ri
 obtain ⟨its, n, r, ho, hz⟩ := I.lst hp
 obtain ⟨h1, h2, h3, h4⟩ := ixN_seq hj
 have hl := r.length
 have hn := line63
 have I' : Inv X pins σ (upd H p (.lst (xs.set j v))) { s with heap := s.heap.update p (Obj.mapSeq (·.setIfInBounds j u)) } :=
  I.lstUpd hp ho (mapSeq_set its n j u) (r.set rv j) (by rw [List.length_set]; exact hz) s.toks
 by_cases h0 : 0 ≤ k
 ·have hk : k.toNat = j := by
   rw [seqIndex_of h0 h4] at h1
   exact Option.some.inj h1
  exact PySem.W.ki_setAt ho h0 (by omega) (by rw [List.size_toArray, ← hl]; exact h4) (by rw [hk]; exact ⟨_, I', q⟩)
 ·have hk : (k + (its.toArray.size : Int)).toNat = j := by
   rw [seqIndex_neg (by omega) h3] at h1
   rw [List.size_toArray, ← hl]
   exact Option.some.inj h1
  exact PySem.W.ki_setBack ho (by omega) (by rw [List.size_toArray, ← hl]; exact h3) (by omega) (by rw [hk]; exact ⟨_, I', q⟩)
theorem slice_bounds (lo hi : Option Int) (n : Nat) : (sliceBounds lo hi none n).1 = ((HT.sIx n 0 lo : Nat) : Int) ∧ (sliceBounds lo hi none n).2.1 = ((HT.sIx n n hi : Nat) : Int) ∧ (sliceBounds lo hi none n).2.2 = 1 := by
 refine ⟨?_, ?_, rfl⟩
 ·cases lo with
  | none => simp [sliceBounds, HT.sIx]
  | some i =>
   simp only [sliceBounds, HT.sIx, Option.getD_none, show (1 : Int) > 0 by decide, if_true]
   by_cases h : i < 0
   ·simp only [h, if_true] <;> omega
   ·simp only [h, if_false] <;> omega
 ·cases hi with
  | none => simp [sliceBounds, HT.sIx]
  | some i =>
   simp only [sliceBounds, HT.sIx, Option.getD_none, show (1 : Int) > 0 by decide, if_true]
   by_cases h : i < 0
   ·simp only [h, if_true] <;> omega
   ·simp only [h, if_false] <;> omega
theorem slicePick_cut (its : List Value) (lo hi : Option Int) : slicePick its.toArray lo hi none = ((its.drop (HT.sIx its.length 0 lo)).take (HT.sIx its.length its.length hi - HT.sIx its.length 0 lo)).toArray := by
 obtain ⟨h1, h2, h3⟩ := slice_bounds lo hi its.toArray.size
 unfold slicePick
 rw [h1, h2, h3]
 simp only [sliceRange_one, pick_run, List.size_toArray] <;> rfl
noncomputable def rSlL (K : PySem.W.Frag) : V → Option Int → Option Int → Hp → VK → Prop := fun x lo hi H Q => ∃ a xs, x = .ref a ∧ SqL K H a xs ∧ ∀ p, H p = none → Q (.ref p) (upd H p (.lst (cutV xs lo hi)))
theorem sl_list : SlR X (rSlL X.K) := by
 intro pins s σ H x v vl vu lo hi sl Q I rx hs pl pu h
 obtain ⟨a, xs, rfl, hx, q⟩ := h
 cases rx
 obtain ⟨its, r, ht, hz⟩ := I.list hx
 have hlen := r.length
 refine ⟨"list", _, slot_list_getitem.lookup, ht.isList.typeIs, ?_⟩
 refine wpAny_getItem_list_slice ht.isList hs pl pu .none (by simp) ?_ (by rw [List.size_toArray] <;> omega)
 rw [slicePick_cut, ← hlen]
 refine ⟨.ref s.heap.objs.size, _, I.laid (t' := s.toks) (o := .lst (cutV xs lo hi)) (fun b ob q => Heap.get?_push_of_some _ q) (Nat.le_refl _) ?_, rfl, q _ (I.hok.fresh (Nat.le_refl _))⟩
 exact ⟨Nat.le_trans (cutV_length xs lo hi) hz, _, 0, (r.drop (HT.sIx xs.length 0 lo)).take (HT.sIx xs.length xs.length hi - HT.sIx xs.length 0 lo), Heap.get?_push_size _ rfl⟩
noncomputable def flatV : V → Bool
 | .non => true
 | .bl _ => true
 | .int _ => true
 | .str _ => true
 | _ => false
noncomputable def eqV : V → V → Bool
 | .non, .non => true
 | .bl a, .bl b => a == b
 | .bl a, .int b => (if a then 1 else 0) == b
 | .int a, .bl b => a == (if b then 1 else 0)
 | .int a, .int b => a == b
 | .str a, .str b => a == b
 | _, _ => false
theorem eqAt_V {A : Around} {s : Shared} {y x : V} {u v : Value} (ry : RelV y u) (rx : RelV x v) (fy : flatV y = true) (fx : flatV x = true) : SeqAt.EqAt A s u v (eqV y x) := by
 cases y with
 | non =>
  cases ry
  cases x with
  | non => cases rx; exact SeqAt.EqAt.same _
  | bl b => cases rx; exact SeqAt.EqAt.none_bool b
  | int b => obtain ⟨t, rfl⟩ := rx; exact SeqAt.EqAt.none_int b t
  | str b => obtain ⟨t, rfl⟩ := rx; exact SeqAt.EqAt.none_str b t
  | _ => exact absurd (show false = true from fx) Bool.false_ne_true
 | bl a =>
  cases ry
  cases x with
  | non => cases rx; exact SeqAt.EqAt.bool_none a
  | bl b => cases rx; exact SeqAt.EqAt.bool_bool a b
  | int b => obtain ⟨t, rfl⟩ := rx; exact SeqAt.EqAt.bool_int a b t
  | str b => obtain ⟨t, rfl⟩ := rx; exact SeqAt.EqAt.bool_str a b t
  | _ => exact absurd (show false = true from fx) Bool.false_ne_true
 | int a =>
  obtain ⟨t', rfl⟩ := ry
  cases x with
  | non => cases rx; exact SeqAt.EqAt.int_none a t'
  | bl b => cases rx; exact SeqAt.EqAt.int_bool a t' b
  | int b => obtain ⟨t, rfl⟩ := rx; exact SeqAt.EqAt.int_int a t' b t
  | str b => obtain ⟨t, rfl⟩ := rx; exact SeqAt.EqAt.int_str a t' b t
  | _ => exact absurd (show false = true from fx) Bool.false_ne_true
 | str a =>
  obtain ⟨t', rfl⟩ := ry
  cases x with
  | non => cases rx; exact SeqAt.EqAt.str_none a t'
  | bl b => cases rx; exact SeqAt.EqAt.str_bool a t' b
  | int b => obtain ⟨t, rfl⟩ := rx; exact SeqAt.EqAt.str_int a t' b t
  | str b => obtain ⟨t, rfl⟩ := rx; exact SeqAt.EqAt.str_str a t' b t
  | _ => exact absurd (show false = true from fx) Bool.false_ne_true
 | _ => exact absurd (show false = true from fy) Bool.false_ne_true
noncomputable def eqU (x : V) (u : Value) : Bool := match u with
 | .none => eqV .non x
 | .bool b => eqV (.bl b) x
 | .int i _ => eqV (.int i) x
 | .str z _ => eqV (.str z) x
 | _ => false
theorem eqU_of {x y : V} {u : Value} (r : RelV y u) (f : flatV y = true) : eqU x u = eqV y x := by
 cases y with
 | non => cases r; rfl
 | bl b => cases r; rfl
 | int i => obtain ⟨t, rfl⟩ := r; rfl
 | str z => obtain ⟨t, rfl⟩ := r; rfl
 | _ => exact absurd (show false = true from f) Bool.false_ne_true
theorem any_eqU {x : V} : ∀ {xs : List V} {us : List Value}, Vals xs us → xs.all flatV = true → us.any (eqU x) = xs.any fun y => eqV y x
 | _, _, .nil, _ => rfl
 | y :: xs, u :: us, .cons r t, f => by
  rw [List.all_cons, Bool.and_eq_true] at f
  rw [List.any_cons, List.any_cons, eqU_of r f.1, any_eqU t f.2]
theorem mem_eqAt {A : Around} {s : Shared} {x : V} {v : Value} (rx : RelV x v) (fx : flatV x = true) : ∀ {xs : List V} {us : List Value}, Vals xs us → xs.all flatV = true → ∀ u ∈ us, SeqAt.EqAt A s u v (eqU x u)
 | _, _, .nil, _ => fun u hu => by cases hu
 | y :: xs, u :: us, .cons r t, f => fun u' hu => by
  rw [List.all_cons, Bool.and_eq_true] at f
  rcases List.mem_cons.mp hu with rfl | hu
  ·rw [eqU_of r f.1]; exact eqAt_V r rx f.1 fx
  ·exact mem_eqAt rx fx t f.2 u' hu
noncomputable def inV (x : V) (xs : List V) : Bool := xs.any fun y => eqV y x
noncomputable def rIn (K : PySem.W.Frag) (neg : Bool) : R2 := fun x y H Q => ∃ p xs, y = .ref p ∧ (SqL K H p xs ∨ SqT K H p xs) ∧ flatV x = true ∧ xs.all flatV = true ∧ Q (.bl (if neg then !inV x xs else inV x xs)) H
theorem op_in_seq : OpR X (compareOp .In) (rIn X.K false) := by
 intro pins s σ H x y v u Q I rx ry h
 obtain ⟨p, xs, rfl, hq, fx, fs, q⟩ := h
 cases ry
 rcases hq with hq | hq
 ·obtain ⟨its, r, pl, hz⟩ := I.list hq
  refine SeqAt.in_listAt (eqU x) pl.isList (fun w hw => mem_eqAt rx fx r fs w (by simpa using hw)) ⟨.bl _, H, I, rfl, ?_⟩
  rw [show its.toArray.any (eqU x) = its.any (eqU x) by simp, any_eqU r fs]
  exact q
 ·obtain ⟨its, r, pl, hz⟩ := I.tuple hq
  refine SeqAt.in_tupleAt (eqU x) pl (fun w hw => mem_eqAt rx fx r fs w (by simpa using hw)) ⟨.bl _, H, I, rfl, ?_⟩
  rw [show its.toArray.any (eqU x) = its.any (eqU x) by simp, any_eqU r fs]
  exact q
theorem op_notIn_seq : OpR X (compareOp .NotIn) (rIn X.K true) := by
 intro pins s σ H x y v u Q I rx ry h
 obtain ⟨p, xs, rfl, hq, fx, fs, q⟩ := h
 cases ry
 rcases hq with hq | hq
 ·obtain ⟨its, r, pl, hz⟩ := I.list hq
  refine SeqAt.notIn_listAt (eqU x) pl.isList (fun w hw => mem_eqAt rx fx r fs w (by simpa using hw)) ⟨.bl _, H, I, rfl, ?_⟩
  rw [show its.toArray.any (eqU x) = its.any (eqU x) by simp, any_eqU r fs]
  exact q
 ·obtain ⟨its, r, pl, hz⟩ := I.tuple hq
  refine SeqAt.notIn_tupleAt (eqU x) pl (fun w hw => mem_eqAt rx fx r fs w (by simpa using hw)) ⟨.bl _, H, I, rfl, ?_⟩
  rw [show its.toArray.any (eqU x) = its.any (eqU x) by simp, any_eqU r fs]
  exact q
theorem call_len_seq : CallR X (.builtin "len") (fun xs H Q => ∃ p ys, xs = [.ref p] ∧ (SqL X.K H p ys ∨ SqT X.K H p ys) ∧ Q (.int ys.length) H) := by
 intro pins s σ H xs us Q I r h
 obtain ⟨p, ys, rfl, hq, q⟩ := h
 obtain ⟨u, rfl, rx⟩ := vals1 r
 cases rx
 have hn := line63
 rcases hq with hq | hq
 ·obtain ⟨its, r', pl, hz⟩ := I.list hq
  have hlen := r'.length
  exact Calls.call_len_list pl.isList (by simp only [List.size_toArray] <;> omega) ⟨.int ys.length, H, I.tok _, ⟨s.toks + 1, by rw [List.size_toArray, hlen]⟩, q⟩
 ·obtain ⟨its, r', pl, hz⟩ := I.tuple hq
  have hlen := r'.length
  exact len_tuple pl (by simp only [List.size_toArray] <;> omega) ⟨.int ys.length, H, I.tok _, ⟨s.toks + 1, by rw [List.size_toArray, hlen]⟩, q⟩
theorem call_len_str : CallR X (.builtin "len") (fun xs H Q => ∃ z, xs = [.str z] ∧ z.length ≤ sizeLine ∧ Q (.int z.length) H) := by
 intro pins s σ H xs us Q I r h
 obtain ⟨z, rfl, hz, q⟩ := h
 obtain ⟨u, rfl, t, rfl⟩ := vals1 r
 have hn := line63
 exact len_str (by omega) ⟨.int z.length, H, I.tok _, ⟨_, rfl⟩, q⟩
theorem call_list_of : CallR X (.type "list") (fun xs H Q => ∃ p ys, xs = [.ref p] ∧ (SqL X.K H p ys ∨ SqT X.K H p ys) ∧ ∀ l, H l = none → Q (.ref l) (upd H l (.lst ys))) := by
 intro pins s σ H xs us Q I r h
 obtain ⟨p, ys, rfl, hq, q⟩ := h
 obtain ⟨u, rfl, rx⟩ := vals1 r
 cases rx
 have fin : ∀ (its : List Value), Vals ys its → ys.length ≤ sizeLine → ∀ (h' : Heap) (c' : Nat), (∀ b o', s.heap.get? b = some o' → h'.get? b = some o') →
   h'.get? s.heap.objs.size = some { cls := .type "list", dict := none, data := .seq its.toArray c', slots := #[] } → EP X pins σ Q (.ref s.heap.objs.size) { s with heap := h' } := fun its r' hz h' c' kp e =>
  ⟨.ref s.heap.objs.size, _, I.laid (t' := s.toks) kp (Nat.le_refl _) (show ObjOk X.prog X.w _ h' _ (.lst ys) from ⟨hz, its, c', r', e⟩), rfl, q _ (I.hok.fresh (Nat.le_refl _))⟩
 rcases hq with hq | hq
 ·obtain ⟨its, r', pl, hz⟩ := I.list hq
  have hlen := r'.length
  obtain ⟨o, ho, hc, n, hd⟩ := pl.isList
  exact call_list_seq p (.inl rfl) ho hc hd (fun h' c' kp e => fin its r' hz h' c' kp e) (by simp only [List.size_toArray] <;> omega)
 ·obtain ⟨its, r', pl, hz⟩ := I.tuple hq
  have hlen := r'.length
  obtain ⟨o, ho, hc, n, hd⟩ := pl
  exact call_list_seq p (.inr rfl) ho hc hd (fun h' c' kp e => fin its r' hz h' c' kp e) (by simp only [List.size_toArray] <;> omega)
theorem call_tuple_of : CallR X (.type "tuple") (fun xs H Q => ∃ p ys, xs = [.ref p] ∧ ((SqL X.K H p ys ∧ ∀ l, H l = none → Q (.ref l) (upd H l (.tup ys))) ∨ (SqT X.K H p ys ∧ Q (.ref p) H))) := by
 intro pins s σ H xs us Q I r h
 obtain ⟨p, ys, rfl, h⟩ := h
 obtain ⟨u, rfl, rx⟩ := vals1 r
 cases rx
 rcases h with ⟨hq, q⟩ | ⟨hq, q⟩
 ·obtain ⟨its, r', pl, hz⟩ := I.list hq
  have hlen := r'.length
  refine call_tuple_list pl.isList (fun h' kp => ?_) (by simp only [List.size_toArray] <;> omega)
  have I1 : Inv X pins σ H { s with heap := h' } := I.kept (t' := s.toks) kp
  have I2 : Inv X pins σ (upd H h'.objs.size (.tup ys)) { s with heap := h'.push { cls := .type "tuple", data := .seq its.toArray } } :=
   I1.laid (t' := s.toks) (fun b o e => Heap.get?_push_of_some _ e) (Nat.le_refl _) (show ObjOk X.prog X.w _ _ _ (.tup ys) from ⟨hz, its, r', IsTup.new _ _⟩)
  exact ⟨.ref h'.objs.size, _, I2, rfl, q _ (I1.hok.fresh (Nat.le_refl _))⟩
 ·obtain ⟨its, r', pl, hz⟩ := I.tuple hq
  exact call_tuple_same pl ⟨.ref p, H, I, rfl, q⟩
noncomputable def tyV (K : PySem.W.Frag) (T : String) (x : V) (H : Hp) : Prop := match x with
 | .str _ => T = "str"
 | .int _ => T = "int"
 | .ref p => (T = "list" ∧ ∃ xs, SqL K H p xs) ∨ (T = "tuple" ∧ ∃ o, K.lookup p = some o ∧ o.cls = .type "tuple" ∧ o.dict = none) ∨
   (T = "dict" ∧ ((∃ kvs, H p = some (.dK kvs)) ∨ ∃ kvs, H p = some (.dT kvs))) ∨ (T = "set" ∧ ∃ S n, H p = some (.set S n))
 | _ => False
theorem tyV_is {pins : List (Addr × Obj)} {σ : St} {H : Hp} {s : Shared} {T : String} {x : V} {v : Value} (I : Inv X pins σ H s) (r : RelV x v) (ty : tyV X.K T x H) :
  s.TypeIs v T ∧ ∀ a, v = .ref a → ∃ ob, s.heap.get? a = some ob ∧ ob.dict = none := by
 cases x with
 | str z =>
  obtain ⟨t, rfl⟩ := r
  cases (show T = "str" from ty)
  exact ⟨typeIs_str s z t, fun _ e => nomatch e⟩
 | int i =>
  obtain ⟨t, rfl⟩ := r
  cases (show T = "int" from ty)
  exact ⟨typeIs_int s i t, fun _ e => nomatch e⟩
 | ref p =>
  cases r
  rcases ty with ⟨rfl, xs, hq⟩ | ⟨rfl, o, hk, hc, hd⟩ | ⟨rfl, hk⟩ | ⟨rfl, S, n, hk⟩
  ·obtain ⟨its, _, pl, _⟩ := I.list hq
   refine ⟨pl.isList.typeIs, fun a e => ?_⟩
   cases e
   obtain ⟨o, n, e, c, hd, _⟩ := pl
   exact ⟨o, e, hd⟩
  ·refine ⟨⟨o, I.kIn p o hk, hc⟩, fun a e => ?_⟩
   cases e
   exact ⟨o, I.kIn _ o hk, hd⟩
  ·have z : ∃ o, s.heap.get? p = some o ∧ o.ExactDict := by
    rcases hk with ⟨kvs, hk⟩ | ⟨kvs, hk⟩
    ·obtain ⟨_, _, _, _, o, _, _, e, ex, _⟩ := I.hok p _ hk
     exact ⟨o, e, ex⟩
    ·obtain ⟨_, _, _, _, o, _, _, e, ex, _⟩ := I.hok p _ hk
     exact ⟨o, e, ex⟩
   obtain ⟨o, e, ex⟩ := z
   refine ⟨⟨o, e, ex.1⟩, fun a e2 => ?_⟩
   cases e2
   exact ⟨o, e, ex.2.1⟩
  ·obtain ⟨o, _, _, _, e, ex, _⟩ := I.hok p _ hk
   refine ⟨⟨o, e, ex.1⟩, fun a e2 => ?_⟩
   cases e2
   exact ⟨o, e, ex.2.1⟩
 | _ => exact False.elim ty
noncomputable def tBM (K : PySem.W.Frag) (T : String) (r : V → List V → Hp → VK → Prop) (to : TE) (t : TA) : TE := fun σ H Q => to σ H fun x H1 => tyV K T x H1 ∧ t σ H1 fun xs H2 => r x xs H2 Q
variable {o e : Expr} {es : List Expr} {to : TE} {t : TA} {name : Str} {apos cpos : Pos} {T id : String} {r : V → List V → Hp → VK → Prop}
theorem pe_bm (pa : PlainAttrs T) (slot : Slot T name id) (hty : typeOf (.builtin id) = pure (.type "method_descriptor")) (hm : MtR X id r) (ho : PE X o to) (ha : PA X (e :: es) t)
  (hbase : attributeBase o name X.env (eval o X.env) = eval o X.env := by rfl)
  (hfew : ((backTo cpos (starEach (e :: es) X.env)).all (fun x => !x.1) && (backToKw cpos (keywordEach [] X.env)).all (fun x => x.1.isSome)
   && decide ((e :: es).length + ([] : List Keyword).length + (if ([] : List Keyword).isEmpty then 0 else 1) < 30)) = true := by rfl)
  (hline : (apos.endLine == cpos.line) = true := by rfl) (hs : starEach (e :: es) X.env = (false, eval e X.env) :: starEach es X.env := by rfl) (hplain : (backTo cpos (starEach es X.env)).any (·.1) = false := by rfl) :
  PE X (.Call (.Attribute o name apos) (e :: es) [] cpos) (tBM X.K T r to t) := by
 intro pins s σ H Q I h
 refine wpAny_Call_method_late hbase hfew hline rfl (thn (ho pins s σ H _ I h) fun v s1 zz9 => ?_)
 obtain ⟨x, H1, I1, r1, ty, q1⟩ := zz9
 obtain ⟨h1, h2⟩ := tyV_is I1 r1 ty
 refine ⟨T, id, pa, slot, hty, h1, h2, ?_⟩
 have hA := ha cpos pins s1 σ H1 _ I1 q1
 rw [hs] at hA ⊢
 refine Calls.callWith_builtin (by show (false || (backTo cpos (starEach es X.env)).any (·.1)) = false; rw [hplain] <;> rfl) (Calls.evalArgs_plain ?_)
 refine thn hA fun us s2 zz20 => ?_
 obtain ⟨vs, H2, I2, r2, q2⟩ := zz20
 exact hm pins s2 σ H2 x vs v us Q I2 r1 r2 q2
end
end L2
namespace L2
open PySem PySem.Spec PyProof.Rows
noncomputable def MtM (X : Cx) (id : String) (r : V → List V → Hp → VK → Prop) : Prop :=
 ∀ (pins : List (Addr × Obj)) (s : Shared) (σ : St) (H : Hp) (x : V) (xs : List V) (v : Value) (us : List Value) (Q : VK), Inv X pins σ H s → RelV x v → Vals xs us → r x xs H Q →
  wpAny (model X.prog X.w) X.A (call (.builtin id) (v :: us)) (EP X pins σ Q) X.xe s
theorem Vals.one {x : V} {us : List Value} (h : Vals [x] us) : ∃ u, us = [u] ∧ RelV x u := by
  cases h with
  | cons r t => cases t; exact ⟨_, rfl, r⟩
theorem Vals.two {x y : V} {us : List Value} (h : Vals [x, y] us) : ∃ u v, us = [u, v] ∧ RelV x u ∧ RelV y v := by
  cases h with
  | cons r t =>
    obtain ⟨v, rfl, q⟩ := Vals.one t
    exact ⟨_, v, rfl, r, q⟩
theorem Vals.eraseIdx : ∀ {xs : List V} {us : List Value} (i : Nat), Vals xs us → Vals (xs.eraseIdx i) (us.eraseIdx i)
 | _, _, _, .nil => .nil
 | _, _, 0, .cons _ t => t
 | _, _, i + 1, .cons r t => .cons r (Vals.eraseIdx i t)
theorem Vals.rep {xs : List V} {us : List Value} (h : Vals xs us) : ∀ k : Nat, Vals (List.replicate k xs).flatten (List.replicate k us).flatten
 | 0 => .nil
 | k + 1 => by
  rw [List.replicate_succ, List.replicate_succ, List.flatten_cons, List.flatten_cons]
  exact Vals.append h (Vals.rep h k)
theorem len_erase {α : Type} : ∀ (l : List α) (i : Nat), (l.eraseIdx i).length ≤ l.length
 | [], _ => Nat.le_refl _
 | _ :: _, 0 => Nat.le_succ _
 | _ :: r, i + 1 => Nat.succ_le_succ (len_erase r i)
theorem foldl_rep (its : List Value) : ∀ (k : Nat) (acc : List Value),
  List.foldl (fun x1 x2 => x1 ++ x2) acc.toArray (List.replicate k its.toArray) = (acc ++ (List.replicate k its).flatten).toArray
 | 0, acc => by simp
 | k + 1, acc => by
  have e : acc.toArray ++ its.toArray = (acc ++ its).toArray := by simp
  have e2 : (acc ++ its) ++ (List.replicate k its).flatten = acc ++ (List.replicate (k + 1) its).flatten := by
   rw [List.replicate_succ, List.flatten_cons, List.append_assoc]
  rw [← e2, ← foldl_rep its k (acc ++ its), ← e, List.replicate_succ, List.foldl_cons]
section
variable {X : Cx} {pins : List (Addr × Obj)} {σ : St} {H : Hp} {s : Shared} {l b : Addr} {xs ys zs : List V}
theorem Inv.lset {its its' : List Value} {n : Nat} {f : Array Value → Array Value} {t' : Nat} (I : Inv X pins σ H s) (hH : H l = some (.lst xs))
  (e : s.heap.get? l = some { cls := .type "list", data := .seq its.toArray n }) (hf : f its.toArray = its'.toArray) (hv : Vals ys its') (hz : ys.length ≤ sizeLine) :
  Inv X pins σ (upd H l (.lst ys)) { s with heap := s.heap.update l (Obj.mapSeq f), toks := t' } := by
 have q := PySem.IsL.update e f
 rw [hf] at q
 refine I.write (x := l) (e := l) (by rw [hH]; exact trivial) (.inl rfl) (fun b' u hb hu => (Heap.get?_update_other s.heap (Obj.mapSeq f) (Ne.symm hb)).trans hu) ⟨_, q⟩ ?_
 exact ⟨hz, its', _, hv, q⟩
theorem Inv.lnew {its : List Value} {t' : Nat} (I : Inv X pins σ H s) (hv : Vals ys its) (hz : ys.length ≤ sizeLine) :
  Inv X pins σ (upd H s.heap.objs.size (.lst ys)) { s with heap := s.heap.push { cls := .type "list", data := .seq its.toArray }, toks := t' } :=
 I.laid (fun _ _ q => Heap.get?_push_of_some _ q) (Nat.le_refl _) ⟨hz, its, 0, hv, Heap.get?_push_size _ rfl⟩
theorem Inv.fresh (I : Inv X pins σ H s) : H s.heap.objs.size = none := I.hok.fresh (Nat.le_refl _)
theorem Inv.lstM (I : Inv X pins σ H s) (hH : H l = some (.lst xs)) : xs.length ≤ sizeLine ∧ ∃ (its : List Value) (n : Nat), Vals xs its ∧ xs.length = its.length ∧ s.heap.get? l = some { cls := .type "list", data := .seq its.toArray n } := by
 obtain ⟨z, its, n, r, e⟩ := I.hok l _ hH
 exact ⟨z, its, n, r, r.length, e⟩
theorem notLongL {n : Nat} (h : n ≤ sizeLine) : Builtin.List.listTooLong n = false := by
 unfold Builtin.List.listTooLong
 exact decide_eq_false (by omega)
end
section
variable {X : Cx}
noncomputable def rAppend : V → List V → Hp → VK → Prop := fun x vs H Q => ∃ l xs y, x = .ref l ∧ vs = [y] ∧ H l = some (.lst xs) ∧ xs.length < sizeLine ∧ Q .non (upd H l (.lst (xs ++ [y])))
theorem mt_append : MtM X "list.append" rAppend := by
 intro pins s σ H x vs v us Q I rx rv h
 obtain ⟨l, xs, y, rfl, rfl, hH, hz, q⟩ := h
 cases rx
 obtain ⟨u, rfl, ru⟩ := rv.one
 obtain ⟨z, its, n, r, hl, e⟩ := I.lstM hH
 refine call_meets F.slot_list_append ⟨_, e, rfl⟩ F.entry_list_append (F.args_list_append_2 _ _) (PySem.list_append l its.toArray n u (by rw [List.size_toArray]; omega)) ⟨e, ?_⟩
 refine ⟨.non, _, I.lset (its' := its ++ [u]) hH e (by simp) (r.append (.cons ru .nil)) ?_, rfl, q⟩
 rw [List.length_append, List.length_singleton]
 omega
noncomputable def rPopAt : V → List V → Hp → VK → Prop := fun x vs H Q => ∃ l xs i k y, x = .ref l ∧ vs = [.int i] ∧ H l = some (.lst xs) ∧ -(2 ^ 63) ≤ i ∧ i < 2 ^ 63 ∧ seqIndex? i xs.length = some k ∧ xs[k]? = some y ∧ Q y (upd H l (.lst (xs.eraseIdx k)))
theorem mt_popAt : MtM X "list.pop" rPopAt := by
 intro pins s σ H x vs v us Q I rx rv h
 obtain ⟨l, xs, i, k, y, rfl, rfl, hH, h1, h2, hk, hy, q⟩ := h
 cases rx
 obtain ⟨u, rfl, ru⟩ := rv.one
 obtain ⟨t, rfl⟩ := ru
 obtain ⟨z, its, n, r, hl, e⟩ := I.lstM hH
 obtain ⟨w, hw, rw'⟩ := r.get hy
 refine call_meets F.slot_list_pop ⟨_, e, rfl⟩ F.entry_list_pop (F.args_list_pop_2 _ _)
  (MeetsSeq.list_pop_at l its.toArray n i t k w (fitsIndex_both h1 h2) (by rw [List.size_toArray, ← hl]; exact hk) (by rw [← Array.getElem?_toList]; exact hw) (by rw [List.size_toArray]; omega)) ⟨e, ?_⟩
 refine ⟨y, _, I.lset (its' := its.eraseIdx k) hH e ?_ (r.eraseIdx k) ?_, rw', q⟩
 ·show its.toArray.eraseIdxIfInBounds k = (its.eraseIdx k).toArray
  rw [List.eraseIdxIfInBounds_toArray]
 ·have := len_erase xs k
  omega
noncomputable def rCat : R2 := fun x y H Q => ∃ l b xs zs, x = .ref l ∧ y = .ref b ∧ H l = some (.lst xs) ∧ H b = some (.lst zs) ∧ xs.length + zs.length ≤ sizeLine ∧ ∀ p, H p = none → Q (.ref p) (upd H p (.lst (xs ++ zs)))
theorem op_cat : OpR X (binaryOp .Add) rCat := by
 intro pins s σ H x y v u Q I rx ry h
 obtain ⟨l, b, xs, zs, rfl, rfl, hH, hB, hz, q⟩ := h
 cases rx
 cases ry
 obtain ⟨z, its, n, r, hl, e⟩ := I.lstM hH
 obtain ⟨z2, its2, n2, r2, hl2, e2⟩ := I.lstM hB
 refine PySem.P.add_list e e2 ?_ (by rw [List.size_toArray, List.size_toArray]; omega)
 have ea : its.toArray ++ its2.toArray = (its ++ its2).toArray := by simp
 rw [ea]
 exact ⟨.ref _, _, I.lnew (t' := s.toks) (r.append r2) (by rw [List.length_append]; omega), rfl, q _ I.fresh⟩
noncomputable def rRep : R2 := fun x y H Q => ∃ l k xs, x = .ref l ∧ y = .int k ∧ H l = some (.lst xs) ∧ -(2 ^ 63) ≤ k ∧ k < 2 ^ 63 ∧ xs.length * k.toNat ≤ sizeLine ∧
 ∀ p, H p = none → Q (.ref p) (upd H p (.lst (List.replicate k.toNat xs).flatten))
theorem len_rep {α : Type} (xs : List α) (k : Nat) : (List.replicate k xs).flatten.length = k * xs.length := by
 induction k with
 | zero => simp
 | succ k ih => rw [List.replicate_succ, List.flatten_cons, List.length_append, ih, Nat.succ_mul, Nat.add_comm]
theorem op_rep : OpR X (binaryOp .Mult) rRep := by
 intro pins s σ H x y v u Q I rx ry h
 obtain ⟨l, k, xs, rfl, rfl, hH, h1, h2, hz, q⟩ := h
 cases rx
 obtain ⟨t, rfl⟩ := ry
 obtain ⟨z, its, n, r, hl, e⟩ := I.lstM hH
 have hlen : its.toArray.size * k.toNat ≤ sizeLine := by rw [List.size_toArray, ← hl]; exact hz
 have hcap : ¬ its.toArray.size * k.toNat > (2 ^ 63 - 1) / 8 := by
  have : (sizeLine : Nat) ≤ (2 ^ 63 - 1) / 8 := by decide
  omega
 have hfit : ¬ (!Builtin.List.listFitsIndex k) = true := by
  rw [fitsIndex_both h1 h2]
  exact Bool.false_ne_true
 have hlong : ¬ Builtin.List.listTooLong (its.toArray.size * k.toNat) = true := by
  rw [notLongL hlen]
  exact Bool.false_ne_true
 have hnew : List.foldl (fun x1 x2 => x1 ++ x2) #[] (List.replicate (if its.toArray.isEmpty = true then 0 else k.toNat) its.toArray) = (List.replicate k.toNat its).flatten.toArray := by
  have f0 : ∀ m : Nat, List.foldl (fun x1 x2 => x1 ++ x2) #[] (List.replicate m its.toArray) = (List.replicate m its).flatten.toArray := fun m => by
   have := foldl_rep its m []
   rw [List.nil_append] at this
   exact this
  rw [f0]
  cases its with
  | nil => simp
  | cons a r' => rw [if_neg (by simp)]
 refine wpAny_binaryOp_repeat_ref (T := "list") (U := "int") (by decide) ⟨_, e, rfl⟩ (fun s' => typeIs_int s' k t) noFill_list_mul F.fills_int_mul F.slot_int_rmul repeat_list F.slot_int_index.lookup
  (call_meets F.slot_int_rmul (typeIs_int s k t) F.entry_int_rmul (F.args_int_rmul_2 _ _) (int___rmul___int_list k t l its.toArray n)
   ⟨e, rfl, ⟨_, e, rfl⟩, call_meets F.slot_list_mul ⟨_, e, rfl⟩ F.entry_list_mul (F.args_list_mul_2 _ _) (AutoListH.list___mul___list_int_3 l its.toArray n k t hfit hcap hlong) ⟨e, ?_⟩⟩)
 rw [hnew]
 exact ⟨.ref _, _, I.lnew (t' := s.toks) (r.rep k.toNat) (by rw [len_rep, Nat.mul_comm]; exact hz), rfl, q _ I.fresh⟩
end
end L2
namespace L2
open PySem PySem.Spec PyProof.Rows
section
variable {κ : Type} [DecidableEq κ]
noncomputable def valV (kvs : List (κ × V)) (k : κ) : Option V := (kvs.find? fun kv => decide (kv.1 = k)).map (·.2)
noncomputable def putK (kvs : List (κ × V)) (k : κ) (v : V) : List (κ × V) :=
 if (kvs.any fun kv => decide (kv.1 = k)) = true then kvs.map (fun kv => if kv.1 = k then (kv.1, v) else kv) else kvs ++ [(k, v)]
theorem valV_pos {p : κ × V} {r : List (κ × V)} {k : κ} (e : p.1 = k) : valV (p :: r) k = some p.2 := by simp [valV, List.find?_cons, e]
theorem valV_neg {p : κ × V} {r : List (κ × V)} {k : κ} (e : ¬ p.1 = k) : valV (p :: r) k = valV r k := by simp [valV, List.find?_cons, e]
theorem valV_any (k : κ) : ∀ kvs : List (κ × V), (kvs.any fun kv => decide (kv.1 = k)) = (valV kvs k).isSome
 | [] => rfl
 | p :: r => by
  rw [List.any_cons]
  by_cases e : p.1 = k
  ·simp only [valV_pos e, decide_eq_true e, Bool.true_or, Option.isSome_some]
  ·rw [valV_neg e, decide_eq_false e, Bool.false_or]; exact valV_any k r
theorem length_putK (kvs : List (κ × V)) (k : κ) (v : V) : (putK kvs k v).length ≤ kvs.length + 1 := by
 unfold putK
 split
 ·rw [List.length_map]; omega
 ·rw [List.length_append, List.length_cons, List.length_nil]; omega
theorem RelO.isSome_eq {o : Option V} {u : Option Value} (r : RelO o u) : o.isSome = u.isSome := by
 cases o with
 | none => cases u with
  | none => rfl
  | some _ => exact (show False from r).elim
 | some _ => cases u with
  | none => exact (show False from r).elim
  | some _ => rfl
theorem KV.val {kvs : List (κ × V)} {vs : List (κ × Value)} (r : KV kvs vs) (k : κ) : RelO (valV kvs k) (valueAt vs k) := by
 unfold KV at r
 induction r with
 | nil => exact True.intro
 | @cons p q ps qs h t ih =>
  obtain ⟨h1, h2⟩ := h
  by_cases e : p.1 = k
  ·have e' : q.1 = k := h1.symm.trans e
   have b : valueAt (q :: qs) k = some q.2 := by simp [valueAt, List.find?_cons, e']
   rw [valV_pos e, b]; exact h2
  ·have e' : ¬ q.1 = k := fun z => e (h1.trans z)
   have b : valueAt (q :: qs) k = valueAt qs k := by simp [valueAt, List.find?_cons, e']
   rw [valV_neg e, b]; exact ih
theorem KV.any {kvs : List (κ × V)} {vs : List (κ × Value)} (r : KV kvs vs) (k : κ) : (kvs.any fun kv => decide (kv.1 = k)) = vs.any fun kv => decide (kv.1 = k) := by
 unfold KV at r
 induction r with
 | nil => rfl
 | cons h t ih => rw [List.any_cons, List.any_cons, ih, h.1]
theorem KV.repl {kvs : List (κ × V)} {vs : List (κ × Value)} (r : KV kvs vs) (k : κ) {y : V} {u : Value} (ry : RelV y u) :
  KV (kvs.map fun kv => if kv.1 = k then (kv.1, y) else kv) (vs.map fun kv => if kv.1 = k then (kv.1, u) else kv) := by
 unfold KV at r ⊢
 induction r with
 | nil => exact .nil
 | @cons p q ps qs h t ih =>
  rw [List.map_cons, List.map_cons]
  refine .cons ?_ ih
  obtain ⟨h1, h2⟩ := h
  by_cases e : p.1 = k
  ·rw [if_pos e, if_pos (h1.symm.trans e)]; exact ⟨h1, ry⟩
  ·rw [if_neg e, if_neg (fun z => e (h1.trans z))]; exact ⟨h1, h2⟩
theorem KV.put {kvs : List (κ × V)} {vs : List (κ × Value)} (r : KV kvs vs) (k : κ) {y : V} {u : Value} (ry : RelV y u) : KV (putK kvs k y) (stored vs k u) := by
 unfold putK stored
 rw [r.any k]
 by_cases e : (vs.any fun kv => decide (kv.1 = k)) = true
 ·rw [if_pos e, if_pos e]; exact r.repl k ry
 ·rw [if_neg e, if_neg e]; exact Paired.snoc r ⟨rfl, ry⟩
theorem KV.length {kvs : List (κ × V)} {vs : List (κ × Value)} (r : KV kvs vs) : kvs.length = vs.length := Paired.length r
end
theorem kV_is {P : Program} {w : World} {k : Key} {u : Value} (r : RelV (kV k) u) : (mixKind P w).is k u = true := by
 cases k with
 | inl i => obtain ⟨t, e⟩ := (show ∃ t, u = Value.int i t from r); subst e; exact mixKind_int P w i t
 | inr x => obtain ⟨t, e⟩ := (show ∃ t, u = Value.str x t from r); subst e; exact mixKind_str P w x t
theorem items_are {P : Program} {w : World} : ∀ {ks : List Key} {us : List Value}, Vals (ks.map kV) us → ItemsAre (mixKind P w) ks us
 | [], _, r => by rw [List.map_nil] at r; cases r; exact .nil
 | k :: ks, _, r => by
  rw [List.map_cons] at r
  cases r with
  | cons h t => exact .cons (kV_is h) (items_are t)
noncomputable abbrev KT (H : Hp) : List (List Key × V) → List (List Key × Addr × Value) → Prop := Paired fun p q => p.1 = q.1 ∧ H q.2.1 = some (.tup (p.1.map kV)) ∧ RelV p.2 q.2.2
theorem KT.val {H : Hp} {kvs : List (List Key × V)} {xs : List (List Key × Addr × Value)} (r : KT H kvs xs) (k : List Key) : RelO (valV kvs k) ((atKey xs k).map (·.2)) := by
 induction r with
 | nil => exact True.intro
 | @cons p q ps qs h t ih =>
  obtain ⟨h1, _, h2⟩ := h
  by_cases e : p.1 = k
  ·have e' : q.1 = k := h1.symm.trans e
   have b : atKey (q :: qs) k = some q.2 := by simp [atKey, List.find?_cons, e']
   rw [valV_pos e, b]; exact h2
  ·have e' : ¬ q.1 = k := fun z => e (h1.trans z)
   have b : atKey (q :: qs) k = atKey qs k := by simp [atKey, List.find?_cons, e']
   rw [valV_neg e, b]; exact ih
theorem KT.repl {H : Hp} {kvs : List (List Key × V)} {xs : List (List Key × Addr × Value)} (r : KT H kvs xs) (k : List Key) {y : V} {u : Value} (ry : RelV y u) :
  KT H (kvs.map fun kv => if kv.1 = k then (kv.1, y) else kv) (xs.map (putAt k u)) := by
 induction r with
 | nil => exact .nil
 | @cons p q ps qs h t ih =>
  rw [List.map_cons, List.map_cons]
  refine .cons ?_ ih
  obtain ⟨h1, h2, h3⟩ := h
  unfold putAt
  by_cases e : p.1 = k
  ·rw [if_pos e, if_pos (h1.symm.trans e)]; exact ⟨h1, h2, ry⟩
  ·rw [if_neg e, if_neg (fun z => e (h1.trans z))]; exact ⟨h1, h2, h3⟩
theorem KT.put {H : Hp} {kvs : List (List Key × V)} {xs : List (List Key × Addr × Value)} (r : KT H kvs xs) (k : List Key) {b : Addr} {y : V} {u : Value} (hb : H b = some (.tup (k.map kV))) (ry : RelV y u) :
  KT H (putK kvs k y) (storedH xs k b u) := by
 have e : (kvs.any fun kv => decide (kv.1 = k)) = (atKey xs k).isSome := by
  rw [valV_any, (r.val k).isSome_eq, Option.isSome_map]
 unfold putK storedH
 rw [e]
 by_cases q : (atKey xs k).isSome = true
 ·rw [if_pos q, if_pos q]; exact r.repl k ry
 ·rw [if_neg q, if_neg q]; exact Paired.snoc r ⟨rfl, hb, ry⟩
theorem KT.keeps {H H' : Hp} {kvs : List (List Key × V)} {xs : List (List Key × Addr × Value)} (r : KT H kvs xs) (ht : ∀ b ys, H b = some (.tup ys) → H' b = some (.tup ys)) : KT H' kvs xs :=
 Paired.mapP r fun _ _ z => ⟨z.1, ht _ _ z.2.1, z.2.2⟩
section
variable {P : Program} {w : World} {H : Hp} {h : Heap} {a : Addr}
theorem rd_of {u : HO} (ok : HOk P w H h) (e : Rd H a u) : ObjOk P w H h a u := e.ok ok
theorem dk_rd {kvs : List (Key × V)} (ok : HOk P w H h) (e : Rd H a (.dK kvs)) : kvs.length ≤ sizeLine ∧ (a == sysModules) = false ∧ ∃ vs, KV kvs vs ∧ h.DictOf (mixKind P w) a vs :=
 show ObjOk P w H h a (.dK kvs) from rd_of ok e
theorem dk_of {kvs : List (Key × V)} (ok : HOk P w H h) (e : H a = some (.dK kvs)) : kvs.length ≤ sizeLine ∧ (a == sysModules) = false ∧ ∃ vs, KV kvs vs ∧ h.DictOf (mixKind P w) a vs := dk_rd ok (.inl e)
theorem key_of {ks : List Key} (ok : HOk P w H h) (e : H a = some (.tup (ks.map kV))) : (tupleKind (mixKind P w)).is h ks a := by
 obtain ⟨_, its, r, o, h1, h2, n, h3⟩ := (show ObjOk P w H h a (.tup (ks.map kV)) from ok a _ e)
 exact ⟨o, its.toArray, n, h1, h2, h3, by simpa using items_are r⟩
theorem dt_rd {kvs : List (List Key × V)} (ok : HOk P w H h) (e : Rd H a (.dT kvs)) : kvs.length ≤ sizeLine ∧ (a == sysModules) = false ∧
  ∃ xs, KT H kvs xs ∧ h.DictOfH (tupleKind (mixKind P w)) a xs := by
 obtain ⟨z, y, xs, r, o, es, ep, h1, h2, h3, h4, h5⟩ := (show ObjOk P w H h a (.dT kvs) from rd_of ok e)
 refine ⟨z, y, xs, r, o, es, ep, h1, h2, h3, h4, fun x hx => ?_, h5⟩
 have all : ∀ {l : List (List Key × V)} {m : List (List Key × Addr × Value)}, KT H l m → ∀ x ∈ m, (tupleKind (mixKind P w)).is h x.1 x.2.1 := by
  intro l m q
  induction q with
  | nil => intro x hx; exact nomatch hx
  | @cons p q ps qs hq t ih =>
   intro x hx
   rcases List.mem_cons.mp hx with e | hx
   ·subst e
    exact key_of ok (by rw [← hq.1]; exact hq.2.1)
   ·exact ih x hx
 exact all r x hx
theorem dt_of {kvs : List (List Key × V)} (ok : HOk P w H h) (e : H a = some (.dT kvs)) : kvs.length ≤ sizeLine ∧ (a == sysModules) = false ∧
  ∃ xs, KT H kvs xs ∧ h.DictOfH (tupleKind (mixKind P w)) a xs := dt_rd ok (.inl e)
end
noncomputable def DGet (H : Hp) (a : Addr) (y : V) (r : Option V) : Prop :=
 (∃ kvs k, Rd H a (.dK kvs) ∧ y = kV k ∧ r = valV kvs k) ∨ ∃ kvs k b, Rd H a (.dT kvs) ∧ y = .ref b ∧ H b = some (.tup (k.map kV)) ∧ r = valV kvs k
noncomputable def DPut (H : Hp) (a : Addr) (y v : V) (H' : Hp) : Prop :=
 (∃ kvs k, H a = some (.dK kvs) ∧ y = kV k ∧ kvs.length < sizeLine ∧ H' = upd H a (.dK (putK kvs k v))) ∨
 ∃ kvs k b, H a = some (.dT kvs) ∧ y = .ref b ∧ H b = some (.tup (k.map kV)) ∧ kvs.length < sizeLine ∧ H' = upd H a (.dT (putK kvs k v))
theorem DPut.k {H : Hp} {a : Addr} {kvs : List (Key × V)} {k : Key} {v : V} (e : H a = some (.dK kvs)) (hl : kvs.length < sizeLine) : DPut H a (kV k) v (upd H a (.dK (putK kvs k v))) := .inl ⟨kvs, k, e, rfl, hl, rfl⟩
section
variable {X : Cx} {pins : List (Addr × Obj)} {σ : St} {H : Hp} {s : Shared} {a : Addr} {y v : V} {u r : Value} {o : Option V} {A : Around} {E : Value → Shared → Prop}
theorem Inv.big (I : Inv X pins σ H s) : sysModules < s.heap.objs.size := by
 have h : mainGlobals < s.heap.objs.size := (I.mod.glob.keeps I.bk).lt
 exact Nat.lt_trans (by decide) h
theorem d_getItem {Q : Value → Shared → Prop} (hu : A.units + 1 < cLine) (I : Inv X pins σ H s) (g : DGet H a y (some v)) (ry : RelV y u) (h : ∀ w' s', Inv X pins σ H s' → RelV v w' → Q w' s') :
  wpAny (model X.prog X.w) A (getItem (.ref a) u) Q E s := by
 rcases g with ⟨kvs, k, e, ey, l⟩ | ⟨kvs, k, b, e, ey, eb, l⟩
 ·subst ey
  obtain ⟨z, hd, vs, rel, dd⟩ := dk_rd I.hok e
  obtain ⟨w', hw, rw'⟩ := RelO.some_of (v := v) (o := valueAt vs k) (by rw [l]; exact rel.val k)
  exact wpAny_getItem_of (kV_is ry) dd.mapOf hw (h w' _ (I.tok _) rw')
 ·subst ey
  cases (show u = Value.ref b from ry)
  obtain ⟨z, hd, xs, rel, dd⟩ := dt_rd I.hok e
  obtain ⟨w', hw, rw'⟩ := RelO.some_of (v := v) (o := (atKey xs k).map (·.2)) (by rw [l]; exact rel.val k)
  obtain ⟨p, hp, hp2⟩ := Option.map_eq_some_iff.mp hw
  refine wpAny_getItem_heap (tupleKind_room_in1 hu) (key_of I.hok eb) dd hp ?_
  rw [hp2]
  exact h w' _ (I.tok _) rw'
theorem d_in {Q : Value → Shared → Prop} (hu : A.units + 1 < cLine) (I : Inv X pins σ H s) (g : DGet H a y o) (ry : RelV y u) (h : ∀ s', Inv X pins σ H s' → Q (.bool o.isSome) s') :
  wpAny (model X.prog X.w) A (compareOp .In u (.ref a)) Q E s := by
 rcases g with ⟨kvs, k, e, ey, l⟩ | ⟨kvs, k, b, e, ey, eb, l⟩
 ·subst ey
  obtain ⟨z, hd, vs, rel, dd⟩ := dk_rd I.hok e
  refine wpAny_in_of (kV_is ry) hd dd.mapOf ?_
  rw [← (rel.val k).isSome_eq, ← l]
  exact h _ (I.tok _)
 ·subst ey
  cases (show u = Value.ref b from ry)
  obtain ⟨z, hd, xs, rel, dd⟩ := dt_rd I.hok e
  refine wpAny_in_heap (tupleKind_room_in1 hu) (key_of I.hok eb) hd dd ?_
  have q := (rel.val k).isSome_eq
  rw [Option.isSome_map] at q
  rw [← q, ← l]
  exact h _ (I.tok _)
theorem d_notIn {Q : Value → Shared → Prop} (hu : A.units + 1 < cLine) (I : Inv X pins σ H s) (g : DGet H a y o) (ry : RelV y u) (h : ∀ s', Inv X pins σ H s' → Q (.bool (!o.isSome)) s') :
  wpAny (model X.prog X.w) A (compareOp .NotIn u (.ref a)) Q E s := by
 rcases g with ⟨kvs, k, e, ey, l⟩ | ⟨kvs, k, b, e, ey, eb, l⟩
 ·subst ey
  obtain ⟨z, hd, vs, rel, dd⟩ := dk_rd I.hok e
  refine wpAny_notIn_of (kV_is ry) hd dd.mapOf ?_
  rw [← (rel.val k).isSome_eq, ← l]
  exact h _ (I.tok _)
 ·subst ey
  cases (show u = Value.ref b from ry)
  obtain ⟨z, hd, xs, rel, dd⟩ := dt_rd I.hok e
  refine wpAny_notIn_heap (tupleKind_room_in1 hu) (key_of I.hok eb) hd dd ?_
  have q := (rel.val k).isSome_eq
  rw [Option.isSome_map] at q
  rw [← q, ← l]
  exact h _ (I.tok _)
theorem d_write {h' : Heap} {t' : Nat} {ob : HO} (I : Inv X pins σ H s) (mu : Mut (H a)) (hs : Heap.SameBut a s.heap h') (he : ∃ q, h'.get? a = some q) (new : ObjOk X.prog X.w (upd H a ob) h' a ob) :
  Inv X pins σ (upd H a ob) { s with heap := h', toks := t' } :=
 I.write (x := a) (e := a) mu (.inl rfl) (fun b q hb z => (hs.2 b hb).trans z) he new
theorem dk_new {P : Program} {w : World} {H' : Hp} {h' : Heap} {kvs : List (Key × V)} {vs : List (Key × Value)} (z : kvs.length ≤ sizeLine) (hd : (a == sysModules) = false) (rel : KV kvs vs) (dd : h'.DictOf (mixKind P w) a vs) :
  ObjOk P w H' h' a (.dK kvs) := ⟨z, hd, vs, rel, dd⟩
theorem d_setItem {H' : Hp} {Q : Unit → Shared → Prop} (hu : A.units + 1 < cLine) (I : Inv X pins σ H s) (g : DPut H a y v H') (ry : RelV y u) (rv : RelV v r) (h : ∀ s', Inv X pins σ H' s' → Q () s') :
  wpAny (model X.prog X.w) A (setItem (.ref a) u r) Q E s := by
 rcases g with ⟨kvs, k, e, ey, l, eH⟩ | ⟨kvs, k, b, e, ey, eb, l, eH⟩
 ·subst ey eH
  obtain ⟨z, hd, vs, rel, dd⟩ := dk_of I.hok e
  have hz : vs.length ≤ sizeLine := by rw [← rel.length]; exact z
  have hl : (putK kvs k v).length ≤ sizeLine := by have := length_putK kvs k v; omega
  refine wpAny_setItem_pairs (hsz := hz) (kV_is ry) dd fun h' dd' hs => h _ ?_
  have he : ∃ q, h'.get? a = some q := let ⟨q, _, _, hq, _⟩ := dd'; ⟨q, hq⟩
  exact d_write I (by rw [e]; exact True.intro) hs he (dk_new hl hd (rel.put k rv) dd')
 ·subst ey eH
  cases (show u = Value.ref b from ry)
  obtain ⟨z, hd, xs, rel, dd⟩ := dt_of I.hok e
  have hz : xs.length ≤ sizeLine := by rw [← Paired.length rel]; exact z
  have hl : (putK kvs k v).length ≤ sizeLine := by have := length_putK kvs k v; omega
  refine wpAny_setItem_heap (hsz := hz) (tupleKind_room_in1 hu) (key_of I.hok eb) dd fun h' dd' hs => h _ ?_
  obtain ⟨q, es, ep, hq, h2, h3, h4, _, h5⟩ := dd'
  refine d_write I (by rw [e]; exact True.intro) hs ⟨q, hq⟩ ⟨hl, hd, _, (rel.put k eb rv).keeps fun c ys ec => ?_, q, es, ep, hq, h2, h3, h4, h5⟩
  rw [upd_ne (ne_of ec e (fun z => nomatch z))]
  exact ec
end
noncomputable def NoSl (i : Expr) : Prop := ∀ ov iv, subscripted i false ov iv = operate [ov, iv] (getItem ov iv)
theorem subD_of {prog : Program} {w : World} {A : Around} {E : Value → Shared → Prop} {s : Shared} {env : Env} {value slice : Expr} {pos : Pos} {T id : String} {Q : Value → Shared → Prop}
  (hl : typeLookup (.type T) "__getitem__" = pure (some (.builtin id))) (hs : NoSl slice)
  (h : wpAny (model prog w) A (eval value env) (fun o s₁ => wpAny (model prog w) A (eval slice env) (fun i s₂ => s₂.TypeIs o T ∧ wpAny (model prog w) A (getItem o i) Q E s₂) E s₁) E s) :
  wpAny (model prog w) A (eval (.Subscript value slice pos) env) Q E s := by
 refine Subscript_ (wpAny_mono h (fun o s₁ h₁ => wpAny_mono h₁ (fun i s₂ h₂ => ?_) fun _ _ x => x) fun _ _ x => x)
 obtain ⟨hT, h₂⟩ := h₂
 unfold subscriptTail
 refine wpAny_bind ?_
 rw [getitemInPython_of_ne hT.not_modules]
 refine wpAny_bind (wpAny_specialOf hT hl ?_)
 have fin : wpAny (model prog w) A (subscripted slice false o i) (fun r s₃ => wpAny (model prog w) A (letTemporaryGo value o r >>= fun _ => pure r) Q E s₃) E s₂ := by
  rw [hs o i]
  exact wpAny_operating (wpAny_mono h₂ (fun r s₃ h₃ => wpAny_bind (wpAny_letTemporaryGo (wpAny_pure h₃))) fun _ _ x => x)
 first
  | exact wpAny_pure (wpAny_bind fin)
  | exact wpAny_bind (wpAny_pure (wpAny_bind fin))
  | exact wpAny_bind fin
theorem dict_typeIs {X : Cx} {pins : List (Addr × Obj)} {σ : St} {H : Hp} {s : Shared} {a : Addr} {y : V} {o : Option V} (I : Inv X pins σ H s) (g : DGet H a y o) : s.TypeIs (.ref a) "dict" := by
 rcases g with ⟨kvs, k, e, _, _⟩ | ⟨kvs, k, b, e, _, _, _⟩
 ·obtain ⟨_, _, vs, _, dd⟩ := dk_rd I.hok e
  exact dd.typeIs
 ·obtain ⟨_, _, xs, _, dd⟩ := dt_rd I.hok e
  exact dd.typeIs
noncomputable def tDGet (td ty : TE) : TE := fun σ H Q => td σ H fun x H1 => ty σ H1 fun y H2 => ∃ a v, x = .ref a ∧ DGet H2 a y (some v) ∧ Q v H2
noncomputable def tDIn (ty td : TE) : TE := fun σ H Q => ty σ H fun y H1 => td σ H1 fun x H2 => ∃ a o, x = .ref a ∧ DGet H2 a y o ∧ Q (.bl o.isSome) H2
noncomputable def tDNotIn (ty td : TE) : TE := fun σ H Q => ty σ H fun y H1 => td σ H1 fun x H2 => ∃ a o, x = .ref a ∧ DGet H2 a y o ∧ Q (.bl (!o.isSome)) H2
noncomputable def sDPut (td ty tv : TE) : TS := fun D σ H => tv σ H fun v H1 => td σ H1 fun x H2 => ty σ H2 fun y H3 => ∃ a H4, x = .ref a ∧ DPut H3 a y v H4 ∧ D.nx σ H4
section
variable {X : Cx} {o i e value : Expr} {pos pos' tpos : Pos} {td ty tv : TE}
theorem pe_dget (hu : X.A.units + 1 < cLine) (ho : PE X o td) (hi : PE X i ty) (hs : NoSl i) : PE X (.Subscript o i pos) (tDGet td ty) := by
 intro pins s σ H Q I h
 refine subD_of PySem.F.slot_dict_getitem.lookup hs (thn (ho pins s σ H _ I h) fun u s1 zz21 => ?_)
 obtain ⟨x, H1, I1, rx, q1⟩ := zz21
 refine thn (hi pins s1 σ H1 _ I1 q1) fun iv s2 zz9 => ?_
 obtain ⟨y, H2, I2, ry, a, v, ex, g, q2⟩ := zz9
 subst ex
 obtain rfl : u = Value.ref a := rx
 exact ⟨dict_typeIs I2 g, d_getItem hu I2 g ry fun w' s3 I3 rw' => ⟨v, H2, I3, rw', q2⟩⟩
theorem pc_din (hu : X.A.units + 1 < cLine) (hi : PE X i ty) (ho : PE X o td) : PC X .In i o (tDIn ty td) := by
 intro pins s σ H Q I h
 refine thn (hi pins s σ H _ I h) fun iv s1 zz22 => ?_
 obtain ⟨y, H1, I1, ry, q1⟩ := zz22
 refine thn (ho pins s1 σ H1 _ I1 q1) fun u s2 zz9 => ?_
 obtain ⟨x, H2, I2, rx, a, ov, ex, g, q2⟩ := zz9
 subst ex
 obtain rfl : u = Value.ref a := rx
 exact d_in hu I2 g ry fun s3 I3 => ⟨.bl ov.isSome, H2, I3, rfl, q2⟩
theorem pc_dnotin (hu : X.A.units + 1 < cLine) (hi : PE X i ty) (ho : PE X o td) : PC X .NotIn i o (tDNotIn ty td) := by
 intro pins s σ H Q I h
 refine thn (hi pins s σ H _ I h) fun iv s1 zz23 => ?_
 obtain ⟨y, H1, I1, ry, q1⟩ := zz23
 refine thn (ho pins s1 σ H1 _ I1 q1) fun u s2 zz9 => ?_
 obtain ⟨x, H2, I2, rx, a, ov, ex, g, q2⟩ := zz9
 subst ex
 obtain rfl : u = Value.ref a := rx
 exact d_notIn hu I2 g ry fun s3 I3 => ⟨.bl (!ov.isSome), H2, I3, rfl, q2⟩
theorem ps_dput (hu : X.A.units + 1 < cLine) (ho : PE X o td) (hi : PE X i ty) (hv : PE X value tv) (hs : swapsWith value (some (.Subscript o i pos')) pos.line X.env = pure false) :
  PS X (.Assign [.Subscript o i pos'] value pos) (sDPut td ty tv) := by
 intro pins s σ H D I h
 refine wpAny_Assign_Subscript (thn (hv pins s σ H _ I h) fun r s1 zz24 => ?_) hs
 obtain ⟨v, H1, I1, rv, q1⟩ := zz24
 refine thn (ho pins s1 σ H1 _ I1 q1) fun u s2 zz25 => ?_
 obtain ⟨x, H2, I2, rx, q2⟩ := zz25
 refine thn (hi pins s2 σ H2 _ I2 q2) fun iv s3 zz26 => ?_
 obtain ⟨y, H3, I3, ry, a, H4, ex, g, q3⟩ := zz26
 subst ex
 obtain rfl : u = Value.ref a := rx
 exact d_setItem hu I3 g ry rv fun s4 I4 => ⟨σ, H4, I4, q3⟩
end
theorem dk_empty {P : Program} {w : World} {H : Hp} (h : Heap) (hb : sysModules < h.objs.size) : ObjOk P w H (h.push { cls := .type "dict", data := .dict #[] }) h.objs.size (.dK []) :=
 ⟨Nat.zero_le _, beq_eq_false_iff_ne.mpr (Ne.symm (Nat.ne_of_lt hb)), [], .nil, Heap.DictOf.new h⟩
noncomputable def tDNewK : TE := fun _ H Q => ∀ p, H p = none → Q (.ref p) (upd H p (.dK []))
section
variable {X : Cx} {pos : Pos}
theorem pe_dnewK : PE X (.Dict [] [] pos) tDNewK := fun pins s σ H Q I h =>
 wpAny_Dict_empty ⟨.ref s.heap.objs.size, _, I.laid (a := s.heap.objs.size) (o := .dK []) (t' := s.toks) (fun _ _ q => Heap.get?_push_of_some _ q) (Nat.le_refl _) (dk_empty s.heap I.big), rfl, h _ (I.hok.fresh (Nat.le_refl _))⟩
end
structure M2 (X : Cx) (o : Expr) (m : Str) (apos : Pos) (e f : Expr) (cpos : Pos) : Prop where
 base : attributeBase o m X.env (eval o X.env) = eval o X.env
 few : ((backTo cpos (starEach [e, f] X.env)).all (fun x => !x.1) && (backToKw cpos (keywordEach [] X.env)).all (fun x => x.1.isSome)
  && decide (([e, f] : List Expr).length + ([] : List Keyword).length + (if ([] : List Keyword).isEmpty then 0 else 1) < 30)) = true
 line : (apos.endLine == cpos.line) = true
 trees : backTo cpos (starEach [e, f] X.env) = [(false, eval e X.env), (false, eval f X.env)]
noncomputable def IsD (H : Hp) (a : Addr) : Prop := (∃ kvs, Rd H a (.dK kvs)) ∨ ∃ kvs, Rd H a (.dT kvs)
theorem isD_at {X : Cx} {pins : List (Addr × Obj)} {σ : St} {H : Hp} {s : Shared} {a : Addr} (I : Inv X pins σ H s) (d : IsD H a) :
  s.TypeIs (.ref a) "dict" ∧ (∀ b, Value.ref a = .ref b → ∃ ob, s.heap.get? b = some ob ∧ ob.dict = none) ∧ (a == sysModules) = false := by
 rcases d with ⟨kvs, e⟩ | ⟨kvs, e⟩
 ·obtain ⟨_, hd, vs, _, dd⟩ := dk_rd I.hok e
  refine ⟨dd.typeIs, fun b q => ?_, hd⟩
  cases q
  obtain ⟨ob, _, _, h1, h2, _⟩ := dd
  exact ⟨ob, h1, h2.2.1⟩
 ·obtain ⟨_, hd, xs, _, dd⟩ := dt_rd I.hok e
  refine ⟨dd.typeIs, fun b q => ?_, hd⟩
  cases q
  obtain ⟨ob, _, _, h1, h2, _⟩ := dd
  exact ⟨ob, h1, h2.2.1⟩
end L2
namespace Att
open PySem PySem.W PySem.Calls PyProof.Rows
theorem ints_of_wellAll {P : Params} {h : Heap} : ∀ (ns : List Int) (vs : List Value), WellAll P h vs (ns.map WData.int) → IntsAre vs ns := by
 intro ns
 induction ns with
 | nil =>
  intro vs w
  rw [List.map_nil] at w
  cases w
  exact .nil
 | cons n ns ih =>
  intro vs w
  rw [List.map_cons] at w
  cases w with
  | cons a b =>
   cases a
   exact .cons _ _ (ih _ b)
theorem script_of {l : OpenLaw} {n : Nat} (hn : l.most = some n) {P : Params} {h : Heap} {args : List WData} {vals : List Value}
  (hpre : l.row.toRowW.claim.pre args = true) (hwl : WellAll P h vals args) :
  ∃ a vs ns, vals = [Value.ref a] ∧ args = [WData.list (ns.map WData.int)] ∧ h.get? a = some { cls := .type "list", data := .seq vs.toArray } ∧ IntsAre vs ns ∧ ns.length ≤ n := by
 have hsh : WShape.hasAll [] args [.list .int] = true := (pre_splitW hpre).1
 have hc : l.pre.holds [] { args := args } = true := (pre_splitW hpre).2
 obtain ⟨d, r, rfl, h1, h2⟩ := hasAllW_cons hsh
 obtain rfl := hasAllW_nil h2
 obtain ⟨xs, rfl, h3⟩ := hasW_list h1
 obtain ⟨ns, rfl⟩ := items_int h3
 have hlen : ns.length ≤ n := by
  unfold OpenLaw.pre at hc
  have h4 : (WTm.not (.lt (.lit (.int (n : Int))) (.len (.arg 0)))).holds [] { args := [.list (ns.map .int)] } = true := by
   have h4 := (holds_andW hc).1
   rw [hn] at h4
   exact h4
  have h5 := condW_of h4 (w_not (w_lt w_lit (w_len_list (w_arg rfl))))
  rw [List.length_map] at h5
  refine Nat.le_of_not_lt fun q => ?_
  have q' : (n : Int) < ((ns.length : Nat) : Int) := by omega
  first
   | (rw [decide_eq_true q'] at h5; exact absurd h5 (by decide))
   | (simp at h5; omega)
 cases hwl with
 | cons w1 w2 =>
  cases w2
  cases w1 with
  | list ho hall => exact ⟨_, _, ns, rfl, rfl, ho, ints_of_wellAll ns _ hall, hlen⟩
theorem post_true (l : OpenLaw) (args : List WData) : l.row.toRowW.claim.post args (.bool true) args = true :=
 postW_of (r := l.row.toRowW) (X := (true == true))
  (show WShape.has [] (.bool true) .bool = true by first | rfl | decide | simp [WShape.has, WShape.arms, WShape.armsAll])
  (show (WTm.eq .res (.lit (.bool true))).value [] { args := args, res := some (.bool true), after := args } = some (.bool (true == true)) from w_eq_bool (w_res rfl) w_lit) rfl
theorem attach_call {l : OpenLaw} {n : Nat} {q : Program} {loose : List Str} {XP : (Str → Option Value) → Heap → Prop} {YP : World → Heap → Prop} {d : DefRec}
  (hn : l.most = some n) (hdf : d.params.defaults = [])
  (call : ∀ (w : World) (s₀ s₁ : Shared) (mg mb : Str → Option Value) (fa : Addr) (o : Obj) (pm cd doc : Value) (a : Addr) (vs : List Value) (ns : List Int),
   Ground q loose [] XP w s₀ mg mb s₁.heap → YP w s₁.heap →
   s₁.heap.get? fa = some o → o.data = .func (docDef d.name d.params d.body d.scope pm cd doc) → s₁.heap.CodeRec cd d.name → mg d.name = some (.ref fa) →
   s₁.heap.get? a = some { cls := .type "list", data := .seq vs.toArray } → IntsAre vs ns → ns.length ≤ n → s₁.gens = #[] →
   codeAny (model l.prog w) callerA (.call (.ref fa) ⟨[.ref a], []⟩) (fun r s' => r = .ok (.ret (.bool true)) ∧ OldK s₁.heap s'.heap ∧ s'.os = s₁.os ∧ AllBare s'.gens) s₁) :
  WalkO q loose XP YP l.row.toRowW d [] (fun f vs => PySem.call f vs) := by
 intro w s₀ s₁ mg mb G Y fa o pm cd doc dV kV ho hd hcd hD hmg hg args vals as hpre hlay hrd hwl hlo
 obtain rfl : dV = .none := Dflts.none hD hdf
 obtain rfl : kV = .none := Dflts.noKw hD
 obtain ⟨a, vs, ns, rfl, rfl, hobj, hints, hlen⟩ := script_of hn hpre hwl
 refine enter_call (codeAny_mono (call w s₀ s₁ mg mb fa o pm cd doc a vs ns G Y ho (fd_plain hd) hcd hmg hobj hints hlen hg) fun r s' hq => ?_)
 obtain ⟨rfl, h2, h3, h4⟩ := hq
 exact ⟨.inl ⟨.bool true, .bool true, [], rfl, fun _ => rfl, .bool true, post_true l _, fun _ => ⟨List.Pairwise.nil, fun _ hm => (nomatch hm)⟩⟩, h2, h3, h4⟩
end Att
namespace L2
open PySem PySem.Spec PyProof.Rows
theorem vals_ints : ∀ {vs : List Value} {ns : List Int}, IntsAre vs ns → Vals (ns.map V.int) vs
 | _, _, .nil => .nil
 | _, _, .cons n t h => .cons ⟨t, rfl⟩ (vals_ints h)
noncomputable def Only (H : Hp) : Prop := ∀ b, H b = none ∨ ∃ o xs, H b = some (.frz o (.lst xs))
theorem law_call {P : Program} {w : World} {K : PySem.W.Frag} {mg mb : Str → Option Value} {CX : CXT} {k : Nat} {fa a : Addr} {fd : FuncData} {x : Str} {sp : Sp} {s₁ : Shared} {vs : List Value} {ns : List Int}
  (KX : K.In s₁.heap) (hns : s₁.heap.Ns mainGlobals mg) (hb : s₁.heap.Ns builtinsNs mb) (hbb : ∀ x : Str, x ≠ "__name__" → mb x = bootBuiltins x) (hlim : s₁.heap.NoLimit) (hg : s₁.gens = #[])
  (ha : s₁.heap.get? a = some { cls := .type "list", data := .seq vs.toArray }) (hi : IntsAre vs ns) (hl : ns.length ≤ sizeLine) (hr : Room k callerA)
  (F : ∀ base : Heap, K.In base → base.Ns mainGlobals mg → FnOk P w K mg base CX k fa fd [x] sp) (hbind : ∀ (s : Shared) (u : Value), BindsTo s fd ⟨[u], []⟩ [(x, u)])
  (hsp : ∀ H : Hp, Only H → SqL K H a (ns.map V.int) → sp [.ref a] H (fun v _ => v = .bl true) fun _ _ _ => False)
  (hCX : ∀ H e s', CX [] H s₁ (fun _ _ _ => False) e s' → False) :
  codeAny (model P w) callerA (.call (.ref fa) ⟨[.ref a], []⟩) (fun r s' => r = .ok (.ret (.bool true)) ∧ OldK s₁.heap s'.heap ∧ s'.os = s₁.os ∧ AllBare s'.gens) s₁ := by
 have rv := vals_ints hi
 have lenV := hi.length
 have core : ∀ H : Hp, Only H → SqL K H a (ns.map V.int) → HOk P w H s₁.heap → (∀ b, H b ≠ none → b = a) → (H a ≠ none → K.lookup a = none) →
   codeAny (model P w) callerA (.call (.ref fa) ⟨[.ref a], []⟩) (fun r s' => r = .ok (.ret (.bool true)) ∧ OldK s₁.heap s'.heap ∧ s'.os = s₁.os ∧ AllBare s'.gens) s₁ := by
  intro H hO hS hok hA hK
  have base_of : ∀ {b : Addr} {o : Obj}, s₁.heap.get? b = some o → H b = none → (hidT s₁.heap H).get? b = some o := fun e n => hidT_get e n
  have noA : ∀ {b : Addr} {o : Obj} {es : Array DictEntry} {ep : Nat}, s₁.heap.get? b = some o → o.data = .dict es ep → H b = none := fun {b o es ep} e d => by
   cases q : H b with
   | none => rfl
   | some u =>
    have e' : b = a := hA b (by rw [q]; simp)
    subst e'
    rw [ha] at e; cases e
    have d' : Data.seq vs.toArray _ = Data.dict es ep := d
    cases d'
  have nsK : ∀ {b : Addr} {m : Str → Option Value}, s₁.heap.Ns b m → (hidT s₁.heap H).Ns b m := fun {b m} ⟨o, es, ep, e, d, r⟩ => ⟨o, es, ep, base_of e (noA e d), d, r⟩
  have hKb : K.In (hidT s₁.heap H) := fun b o e => base_of (KX b o e) (by
   cases q : H b with
   | none => rfl
   | some u =>
    have e' : b = a := hA b (by rw [q]; simp)
    subst e'
    rw [hK (by rw [q]; simp)] at e; cases e)
  have hM : Mod K mg (hidT s₁.heap H) := ⟨hKb, nsK hns, ⟨mb, nsK hb, hbb⟩, let ⟨mc, h1, h2⟩ := hlim; ⟨mc, nsK h1, h2⟩⟩
  have e0 : Env0 P w K mg (hidT s₁.heap H) callerA [] s₁ H := ⟨rfl, hM, fun b o e => of_hidT e, Nat.le_of_eq (hidT_size _ _), trivial, fun b hb => absurd (show b ∈ ([] : List Addr) from hb) (by simp), hok, .of_eq hg⟩
  refine codeAny_mono ((F _ hKb (nsK hns)).run callerA [] s₁ H ⟨[.ref a], []⟩ [.ref a] [.ref a] _ _ hr e0 (hbind s₁ (.ref a)) (.cons rfl .nil) (hsp H hO hS)) fun r s' h => ?_
  cases r with
  | error e => exact (hCX H e s' h).elim
  | ok fl =>
   cases fl with
   | next => exact False.elim h
   | brk => exact False.elim h
   | cont => exact False.elim h
   | ret u =>
    obtain ⟨v, H', os, bare, un, hok', r', q⟩ := h
    have q' : v = .bl true := q
    subst q'
    obtain rfl : u = Value.bool true := r'
    refine ⟨rfl, OldK.of_keep fun b o e => ?_, os, bare⟩
    cases q : H b with
    | none => exact un.keep b o e q (by intro z; exact absurd (show b ∈ ([] : List Addr) from z) (by simp)) (by simp)
    | some u =>
     rcases hO b with z | ⟨ob, xs, z⟩
     ·rw [q] at z; cases z
     ·have z2 := un.frzs b ob _ z
      obtain ⟨e1, _⟩ := hok b _ z
      obtain ⟨e2, _⟩ := hok' b _ z2
      rw [e] at e1; cases e1
      exact e2
 cases hk : K.lookup a with
 | some o =>
  have e := KX a o hk
  rw [ha] at e
  cases e
  refine core (fun _ => none) (fun _ => .inl rfl) (.inr ⟨_, vs.toArray, _, hk, rfl, rfl, rfl, by rw [List.size_toArray, lenV]; exact hl, by simpa using rv⟩) (fun b u z => by have z' : (none : Option HO) = some u := z; cases z') (fun b z => absurd rfl z) fun z => absurd rfl z
 | none =>
  refine core (fun b => if b = a then some (.frz { cls := .type "list", data := .seq vs.toArray } (.lst (ns.map V.int))) else none) (fun b => ?_) (.inl (.inr ⟨{ cls := .type "list", data := .seq vs.toArray }, if_pos rfl⟩)) (fun b u z => ?_) (fun b z => ?_) fun _ => hk
  ·by_cases hb : b = a
   ·exact .inr ⟨_, _, if_pos hb⟩
   ·exact .inl (if_neg hb)
  ·by_cases hb : b = a
   ·have z' := (if_pos hb).symm.trans z
    cases z'
    subst hb
    exact ⟨ha, by rw [List.length_map]; exact hl, vs, _, rv, ha⟩
   ·have z' := (if_neg hb).symm.trans z
    cases z'
  ·by_cases hb : b = a
   ·exact hb
   ·exact absurd (if_neg hb) z
end L2
namespace L2
open PySem PySem.Spec PyProof.Rows
noncomputable abbrev KOf {K : PySem.W.Frag} {h : Heap} (_ : K.In h) : PySem.W.Frag := K
theorem walk_of {l : PySem.W.OpenLaw} {n k : Nat} {q : Program} {loose : List Str} {XP : (Str → Option Value) → Heap → Prop} {YP : World → Heap → Prop} {d : DefRec} {K : Params → PySem.W.Frag} {CX : World → CXT} {sp : World → Sp} {x : Str}
  (hn : l.most = some n) (hn2 : n ≤ sizeLine) (hdf : d.params.defaults = []) (hr : Room k callerA)
  (hY : ∀ (w : World) (h : Heap), YP w h → (K w.params).In h)
  (F : ∀ (w : World) (mg : Str → Option Value) (fa : Addr) (h : Heap), (K w.params).In h → h.Ns mainGlobals mg → mg d.name = some (.ref fa) →
   ∃ fd : FuncData, (∀ (s : Shared) (u : Value), BindsTo s fd ⟨[u], []⟩ [(x, u)]) ∧
    ∀ base : Heap, (K w.params).In base → base.Ns mainGlobals mg → FnOk l.prog w (K w.params) mg base (CX w) k fa fd [x] (sp w))
  (hsp : ∀ (w : World) (H : Hp) (a : Addr) (ns : List Int), ns.length ≤ n → Only H → SqL (K w.params) H a (ns.map V.int) → sp w [.ref a] H (fun v _ => v = .bl true) fun _ _ _ => False)
  (hCX : ∀ (w : World) (H : Hp) (s : Shared) (e : Value) (s' : Shared), CX w [] H s (fun _ _ _ => False) e s' → False) :
  PySem.W.WalkO q loose XP YP l.row.toRowW d [] (fun f vs => PySem.call f vs) := by
 refine Att.attach_call hn hdf fun w s₀ s₁ mg mb fa o pm cd doc a vs ns G Y ho hd hcd hmg hobj hints hlen hg => ?_
 have KX := hY w _ Y
 obtain ⟨fd, hb, hF⟩ := F w mg fa _ KX G.T.g hmg
 exact law_call KX G.T.g G.T.b G.T.builtins G.T.nolimit hg hobj hints (Nat.le_trans hlen hn2) hr hF hb (fun H hO hS => hsp w H a ns hlen hO hS) fun H e s' => hCX w H s₁ e s'
end L2
namespace L2
open PySem PySem.Spec PyProof.Rows
noncomputable def inClass (s : Stmt) (j : Nat) : Stmt := match s with
 | .ClassDef _ _ _ body _ _ _ _ _ _ _ => body.getD j (.Pass ⟨0, 0, 0, 0⟩)
 | _ => .Pass ⟨0, 0, 0, 0⟩
noncomputable def defArgs (s : Stmt) : Arguments := match s with
 | .FunctionDef _ a _ _ _ _ _ _ _ _ => a
 | _ => { posonlyargs := [], args := [], vararg := none, kwonlyargs := [], kw_defaults := [], kwarg := none, defaults := [] }
noncomputable def defBody (s : Stmt) : List Stmt := match s with
 | .FunctionDef _ _ b _ _ _ _ _ _ _ => b
 | _ => []
noncomputable def defScope (s : Stmt) : Scope := match s with
 | .FunctionDef _ _ _ _ _ _ sc _ _ _ => sc
 | _ => { kind := .function, names := [], isGenerator := false, isCoroutine := false }
noncomputable abbrev E0 : XK := fun _ _ _ => False
structure Fun (K : PySem.W.Frag) (x qual : Str) (st : Stmt) (f : Addr) (fd : FuncData) : Prop where
 ex : ∃ (oc : Value) (od : Option Addr) (kV doc pm : Value) (an : Option Addr) (cdv ct : Value) (osl : Array (Option Value)),
  fd = PySem.W.fnOf x qual (defArgs st) (defBody st) (defScope st) .none kV doc pm an cdv ct ∧ K.lookup f = some ⟨oc, od, .func fd, osl⟩ ∧ PySem.W.codeIn K cdv qual = true
 kp : PySem.W.keepIn K (.ref f) = true
section
variable {P : Program} {w : World} {K : PySem.W.Frag} {mg : Str → Option Value} {base : Heap}
theorem Fun.binds {x qual : Str} {st : Stmt} {f : Addr} {fd : FuncData} {ps : List Str} (F : Fun K x qual st f fd)
  (h : ∀ (kV doc pm : Value) (an : Option Addr) (cdv ct : Value) (us : List Value), us.length = ps.length → bindArgs (PySem.W.fnOf x qual (defArgs st) (defBody st) (defScope st) .none kV doc pm an cdv ct) ⟨us, []⟩ = pure (ps.zip us)) : Binds K fd ps [] := by
 obtain ⟨oc, od, kV, doc, pm, an, cdv, ct, osl, rfl, lk, hcd⟩ := F.ex
 exact .all (h kV doc pm an cdv ct)
theorem fun_mk {x qual : Str} {st : Stmt} {f : Addr} {oc : Value} {od an : Option Addr} {osl : Array (Option Value)} {kV doc pm cdv ct : Value} (l : K.lookup f = some ⟨oc, od, .func (PySem.W.fnOf x qual (defArgs st) (defBody st) (defScope st) .none kV doc pm an cdv ct), osl⟩)
  (c : PySem.W.codeIn K cdv qual = true) (k : PySem.W.keepIn K (.ref f) = true) : Fun K x qual st f (PySem.W.fnOf x qual (defArgs st) (defBody st) (defScope st) .none kV doc pm an cdv ct) := ⟨⟨oc, od, kV, doc, pm, an, cdv, ct, osl, rfl, l, c⟩, k⟩
end
theorem hu_of {A : Around} {k : Nat} (hr : Room k A) : A.units + 1 < cLine := Nat.lt_of_le_of_lt (Nat.add_le_add_left (by decide : 1 ≤ 64) _) hr.units
theorem small1000 {n : Nat} (h : n ≤ 1000) : n < sizeLine := Nat.lt_of_le_of_lt h (by decide)
section
variable {X : Cx}
theorem pv (i : Nat) {x : Str} {pos : Pos} (hN : X.N[i]? = some x := by rfl) (hv : Vis X.env.scope x := by first | exact Or.inl rfl | exact Or.inr (Or.inl rfl) | exact Or.inr (Or.inr rfl)) (hd : (x == ("__debug__" : Str)) = false := by decide)
  (hcd : (x == ("__classdict__" : Str)) = false := by decide) : PE X (.Name x pos) (tVar i) := pe_var hN hv hd hcd
end
theorem iteF {A B : Prop} (h : B) : if false = true then A else B := by
 rw [if_neg Bool.false_ne_true]
 exact h
theorem iteT {A B : Prop} (h : A) : if true = true then A else B := by
 rw [if_pos rfl]
 exact h
theorem ite2 {c A B : Prop} [Decidable c] (h1 : c → A) (h2 : ¬ c → B) : if c then A else B := by
 by_cases h : c
 ·rw [if_pos h]
  exact h1 h
 ·rw [if_neg h]
  exact h2 h
noncomputable def Same (H H' : Hp) : Prop := ∀ b o, H b = some o → H' b = some o
theorem Same.refl (H : Hp) : Same H H := fun _ _ h => h
theorem Same.trans {H H1 H2 : Hp} (a : Same H H1) (b : Same H1 H2) : Same H H2 := fun c o h => b c o (a c o h)
theorem Same.free {H H' : Hp} (e : Same H H') {l : Addr} (h : H' l = Option.none) : H l = Option.none := by
 cases q : H l with
 | none => rfl
 | some o =>
  rw [e l o q] at h
  cases h
theorem Same.seq {K : PySem.W.Frag} {H H' : Hp} {a : Addr} {xs : List V} (e : Same H H') (h : SqL K H a xs) : SqL K H' a xs := by
 rcases h with (h | ⟨o, h⟩) | h
 ·exact .inl (.inl (e _ _ h))
 ·exact .inl (.inr ⟨o, e _ _ h⟩)
 ·exact .inr h
end L2
set_option maxHeartbeats 4000000
namespace L2
open PySem PySem.Spec PyProof.Rows
noncomputable def cloList (env : Env) : List (Str × NameKind) → List (Str × Addr) → List (Str × Addr)
 | [], acc => acc
 | (n, k) :: r, acc => if (k == NameKind.free) = true then (match env.cells.lookup n with
  | some c => cloList env r ((n, c) :: acc)
  | none => cloList env r acc) else cloList env r acc
theorem cloList_sound {env : Env} : ∀ (ns : List (Str × NameKind)) (acc : List (Str × Addr)), (∀ x c, acc.lookup x = some c → env.cells.lookup x = some c) →
  ∀ x c, (cloList env ns acc).lookup x = some c → env.cells.lookup x = some c
 | [], acc, h => h
 | (n, k) :: r, acc, h => by
  unfold cloList
  split
  ·cases e : env.cells.lookup n with
   | none => exact cloList_sound r acc h
   | some c =>
    refine cloList_sound r _ fun x d hx => ?_
    rw [List.lookup_cons] at hx
    cases hb : x == n with
    | true =>
     rw [hb] at hx
     cases hx
     rw [beq_iff_eq.mp hb]
     exact e
    | false =>
     rw [hb] at hx
     exact h x d hx
  ·exact cloList_sound r acc h
theorem cloList_keeps {env : Env} : ∀ (ns : List (Str × NameKind)) (acc : List (Str × Addr)) (x : Str), (∃ c, acc.lookup x = some c) → ∃ c, (cloList env ns acc).lookup x = some c
 | [], acc, x, h => h
 | (n, k) :: r, acc, x, h => by
  unfold cloList
  split
  ·cases e : env.cells.lookup n with
   | none => exact cloList_keeps r acc x h
   | some c =>
    refine cloList_keeps r _ x ?_
    rw [List.lookup_cons]
    cases hb : x == n with
    | true => exact ⟨c, rfl⟩
    | false => exact h
  ·exact cloList_keeps r acc x h
theorem cloList_has {env : Env} : ∀ (ns : List (Str × NameKind)) (acc : List (Str × Addr)) (x : Str), (x, NameKind.free) ∈ ns → (∃ c, env.cells.lookup x = some c) → ∃ c, (cloList env ns acc).lookup x = some c
 | [], acc, x, h, _ => by cases h
 | (n, k) :: r, acc, x, h, hc => by
  rcases List.mem_cons.mp h with e | h
  ·cases e
   obtain ⟨c, hc⟩ := hc
   unfold cloList
   rw [if_pos (show (NameKind.free == NameKind.free) = true by decide), hc]
   exact cloList_keeps r _ n ⟨c, by rw [List.lookup_cons, beq_self_eq_true]⟩
  ·unfold cloList
   split
   ·cases e : env.cells.lookup n with
    | none => exact cloList_has r acc x h hc
    | some c => exact cloList_has r _ x h hc
   ·exact cloList_has r acc x h hc
theorem cloFor_run {env : Env} (f : Str × NameKind → List (Str × Addr) → Sem (ForInStep (List (Str × Addr))))
  (hf : ∀ name kind cs, f (name, kind) cs = if (kind == NameKind.free) = true then (do let a ← cellOf env name; pure (.yield ((name, a) :: cs))) else pure (.yield cs)) :
  ∀ (ns : List (Str × NameKind)) (acc : List (Str × Addr)), (∀ y ∈ ns, y.2 = .free → ∃ c, env.cells.lookup y.1 = some c) → forIn ns acc f = pure (cloList env ns acc)
 | [], acc, _ => by rw [List.forIn_nil]; rfl
 | (n, k) :: r, acc, h => by
  rw [List.forIn_cons, hf]
  unfold cloList
  have hr : ∀ y ∈ r, y.2 = .free → ∃ c, env.cells.lookup y.1 = some c := fun y hy => h y (List.mem_cons_of_mem _ hy)
  split
  ·rename_i hk
   obtain ⟨c, hc⟩ := h (n, k) List.mem_cons_self (by simpa using hk)
   have hc' : env.cells.lookup n = some c := hc
   have e : cellOf env n = pure c := by unfold cellOf; rw [hc']
   rw [e, hc']
   exact cloFor_run f hf r ((n, c) :: acc) hr
  ·exact cloFor_run f hf r acc hr
theorem closure_run {env : Env} {scope : Scope} (h : ∀ y ∈ scope.names, y.2 = .free → ∃ c, env.cells.lookup y.1 = some c) : closureFor scope env = pure (cloList env scope.names []) := by
 unfold closureFor
 dsimp only
 rw [cloFor_run (env := env) _ (fun name kind cs => by split <;> rfl) scope.names [] h]
 rfl
theorem relabel_lookup (env : Env) : ∀ (names : List (Str × NameKind)) (x : Str),
  (names.map fun (n, k) => if (k == NameKind.free && env.scope.kind == .function && env.kindOf n == some .cell) then (n, NameKind.cell) else (n, k)).lookup x =
   (names.lookup x).map fun k => if (k == NameKind.free && env.scope.kind == .function && env.kindOf x == some .cell) = true then NameKind.cell else k
 | [], _ => rfl
 | (n, k) :: r, x => by
  have ih := relabel_lookup env r x
  have e : (if (k == NameKind.free && env.scope.kind == .function && env.kindOf n == some .cell) = true then (n, NameKind.cell) else (n, k)) = (n, if (k == NameKind.free && env.scope.kind == .function && env.kindOf n == some .cell) = true then NameKind.cell else k) := by split <;> rfl
  show List.lookup x ((if (k == NameKind.free && env.scope.kind == .function && env.kindOf n == some .cell) = true then (n, NameKind.cell) else (n, k)) :: _) = _
  rw [e, List.lookup_cons, List.lookup_cons]
  cases hx : x == n with
  | true =>
   have e2 : x = n := beq_iff_eq.mp hx
   subst e2
   rfl
  | false => exact ih
theorem relabel_free {env : Env} {names : List (Str × NameKind)} {x : Str} {k : NameKind} (hc : ∀ y ∈ names, y.2 ≠ .cell)
  (h : (names.map fun (n, k) => if (k == NameKind.free && env.scope.kind == .function && env.kindOf n == some .cell) then (n, NameKind.cell) else (n, k)).lookup x = some k) (hk : k = .cell ∨ k = .free) : names.lookup x = some .free := by
 rw [relabel_lookup] at h
 cases e : names.lookup x with
 | none => rw [e] at h; cases h
 | some k' =>
  rw [e] at h
  have hk' : k' ≠ .cell := hc _ (PySem.mem_of_lookup e)
  have h' : (if (k' == NameKind.free && env.scope.kind == .function && env.kindOf x == some .cell) = true then NameKind.cell else k') = k := Option.some.inj h
  split at h'
  ·rename_i q
   simp only [Bool.and_eq_true, beq_iff_eq] at q
   rw [q.1.1]
  ·subst h'
   rcases hk with z | z
   ·exact absurd z hk'
   ·rw [z]
theorem relabel_nolocal {env : Env} {names : List (Str × NameKind)} {x : Str} (h : names.lookup x = some .free) :
  (names.map fun (n, k) => if (k == NameKind.free && env.scope.kind == .function && env.kindOf n == some .cell) then (n, NameKind.cell) else (n, k)).lookup x ≠ some .local := by
 rw [relabel_lookup, h]
 intro z
 have z' : (if (NameKind.free == NameKind.free && env.scope.kind == .function && env.kindOf x == some .cell) = true then NameKind.cell else NameKind.free) = .local := Option.some.inj z
 split at z' <;> cases z'
noncomputable def blkCx (X : Cx) (N' : List Str) (scope : Scope) (C : Addr) (s₀ : Shared) (H₀ : Hp) (ex : List Addr) : Cx :=
 { X with N := N', s₀ := s₀, H₀ := H₀, env := compEnvC scope (cloList X.env scope.names []) C X.env, outer := X.stack, ex := ex, fn := fun _ => false, pn := [], xe := fun _ _ => False }
noncomputable def FvOk (X : Cx) (scope : Scope) : List (Str × Nat) → Prop
 | [] => True
 | (x, j) :: r => (X.N[j]? = some x ∧ scope.names.lookup x = some .free ∧ (X.env.kindOf x = some .cell ∨ X.env.kindOf x = some .free)) ∧ FvOk X scope r
theorem FvOk.mem {X : Cx} {scope : Scope} : ∀ {l : List (Str × Nat)}, FvOk X scope l → ∀ y ∈ l, X.N[y.2]? = some y.1 ∧ scope.names.lookup y.1 = some .free ∧ (X.env.kindOf y.1 = some .cell ∨ X.env.kindOf y.1 = some .free)
 | [], _, _, h => by cases h
 | (x, j) :: r, h, y, hy => by
  rcases List.mem_cons.mp hy with e | hy
  ·cases e; exact h.1
  ·exact FvOk.mem h.2 y hy
noncomputable def blkN (ts : List Str) (fv : List (Str × Nat)) : List Str := ts ++ fv.map (·.1)
noncomputable def blkS (ts : List Str) (fv : List (Str × Nat)) (σ : St) : St := ts.map (fun _ => none) ++ fv.map fun y => (σ[y.2]?).join
structure BlkOk (X : Cx) (scope : Scope) (fv : List (Str × Nat)) : Prop where
 kind : scope.kind = .function
 nocell : ∀ y ∈ scope.names, y.2 ≠ .cell
 names : ∀ y ∈ scope.names, y.2 = .local → scope.names.lookup y.1 = some .local
 free : ∀ y ∈ scope.names, y.2 = .free → X.env.kindOf y.1 = some .cell ∨ X.env.kindOf y.1 = some .free
 fvs : FvOk X scope fv
section
variable {X : Cx} {pins : List (Addr × Obj)} {σ : St} {H : Hp} {s : Shared} {scope : Scope} {ts : List Str} {fv : List (Str × Nat)}
theorem blk_start {h' : Heap} {fp : List Addr} {tk : Nat} (B : BlkOk X scope fv) (I : Inv X pins σ H s) (hf : ∀ b ∈ fp, FpOk X pins H b) (ho : ∀ b ∈ fp, ∃ o, s.heap.get? b = some o)
  (hn : h'.Ns s.heap.objs.size (fun _ => none)) (hk : ∀ b o, s.heap.get? b = some o → h'.get? b = some o) :
  Inv (blkCx X (blkN ts fv) scope s.heap.objs.size s H fp) [] (blkS ts fv σ) H { s with heap := h', toks := tk } := by
 have has : ∀ y ∈ scope.names, y.2 = .free → ∃ c, X.env.cells.lookup y.1 = some c := fun y hy e => I.ok.has y.1 (B.free y hy e)
 have snd : ∀ x c, (cloList X.env scope.names []).lookup x = some c → X.env.cells.lookup x = some c := cloList_sound _ _ (fun x c h => by simp at h)
 have fr : ∀ x, (scope.names.lookup x = some .free) → ∃ c, (cloList X.env scope.names []).lookup x = some c := fun x hx =>
  cloList_has _ _ x (PySem.mem_of_lookup hx) (has _ (PySem.mem_of_lookup hx) rfl)
 have nfs : ∀ b ∈ fp, b ∉ frs X.stack := fun b hb z => by
  obtain ⟨_, h1, h2, _⟩ := hf b hb
  rcases List.mem_cons.mp (I.stkSub b z) with e | e
  ·exact h1 e
  ·exact h2 e
 have lt : ∀ b ∈ fp, b < s.heap.objs.size := fun b hb => let ⟨o, e⟩ := ho b hb; Heap.lt_size e
 refine ⟨⟨I.ok.mod, ?_, I.ok.glob, I.ok.blt, Nat.le_refl _, fun x y c h1 h2 => I.ok.inj x y c (snd x c h1) (snd y c h2), fun x hx => ?_, fun _ _ h => absurd (show false = true from h) Bool.false_ne_true, I.ok.hd, I.ok.frames, .inl rfl, fun b hb => ⟨Nat.ne_of_lt (lt b hb), fun x c e => (hf b hb).2.2.2.2.1 x c (snd x c e)⟩, I.bs, Nat.le_trans I.ok.bsz I.sz, fun b o e hb => ?_, nfs, I.stack, I.stkFree⟩,
  rfl, I.bare, Un.kept hk, ⟨_, hn, fun i x v h1 h2 h3 => ?_⟩, fun x c e => ?_, I.fresh, fun x c e => I.freeC x c (snd x c e), fun p hp => ?_, I.hok.kept hk, ?_⟩
 ·exact B.kind
 ·refine fr x ?_
  have hx' : (relabel scope X.env).names.lookup x = some .cell ∨ (relabel scope X.env).names.lookup x = some .free := hx
  rcases hx' with e | e
  ·exact relabel_free B.nocell e (.inl rfl)
  ·exact relabel_free B.nocell e (.inr rfl)
 ·rcases (hf b hb).2.2.2.1 with z | z
  ·exact I.ok.noex b o e z
  ·exact absurd (Nat.lt_of_lt_of_le (Heap.lt_size e) (Nat.le_trans I.ok.bsz z)) (Nat.lt_irrefl _)
 ·have h1 : (ts ++ fv.map (·.1))[i]? = some x := h1
  have h2 : (ts.map (fun _ => (none : Option V)) ++ fv.map fun y => (σ[y.2]?).join)[i]? = some (some v) := h2
  by_cases hi : i < ts.length
  ·rw [List.getElem?_append_left (by simpa using hi), List.getElem?_map] at h2
   cases e : ts[i]? with
   | none => rw [e] at h2; cases h2
   | some z => rw [e] at h2; cases h2
  ·rw [List.getElem?_append_right (by simpa using hi), List.length_map, List.getElem?_map] at h2
   rw [List.getElem?_append_right (by simpa using hi), List.getElem?_map] at h1
   cases e : fv[i - ts.length]? with
   | none => rw [e] at h2; cases h2
   | some y =>
    rw [e] at h1 h2
    have e1 : y.1 = x := by simpa using h1
    have e2 : (σ[y.2]?).join = some v := by simpa using h2
    obtain ⟨f1, f2, f3⟩ := B.fvs.mem y (List.mem_of_getElem? e)
    have e3 : σ[y.2]? = some (some v) := by
     cases q : σ[y.2]? with
     | none => rw [q] at e2; cases e2
     | some z => rw [q] at e2; exact congrArg some e2
    obtain ⟨m, hm, hl⟩ := I.loc
    obtain ⟨u, r, l⟩ := hl y.2 y.1 v f1 e3 (by rcases f3 with z | z; exact .inr (.inl z); exact .inr (.inr z))
    rw [e1] at f2 f3 l
    refine ⟨u, r, ?_⟩
    obtain ⟨c, hc⟩ := fr x f2
    have hc' := snd x c hc
    rcases l with ⟨l1, _⟩ | ⟨_, c2, l2, l3⟩
    ·rcases f3 with z | z
     ·rw [l1] at z; cases z
     ·rw [l1] at z; cases z
    ·rw [hc'] at l2
     cases l2
     have hv : Vis (relabel scope X.env) x := h3
     rcases hv with z | z | z
     ·exfalso
      exact relabel_nolocal f2 z
     ·exact .inr ⟨.inl z, c, hc, l3.keeps hk⟩
     ·exact .inr ⟨.inr z, c, hc, l3.keeps hk⟩
 ·obtain ⟨v, z⟩ := I.cell x c (snd x c e)
  exact ⟨v, z.keeps hk⟩
 ·exact absurd (show p ∈ ([] : List (Addr × Obj)) from hp) (by simp)
 ·show (ts.map (fun _ => (none : Option V)) ++ fv.map fun y => (σ[y.2]?).join).length = (ts ++ fv.map (·.1)).length
  simp
theorem Inv.apart {C : Addr} {h' : Heap} (I : Inv X pins σ H s) (hs : Heap.SameBut C s.heap h') (hC : H C = none) (h0 : X.s₀.heap.objs.size ≤ C) (hL : C ≠ X.env.locals) (hc : ∀ x c, X.env.cells.lookup x = some c → c ≠ C) (hp : ∀ p ∈ X.pn ++ pins, p.1 ≠ C) :
  Inv X pins σ H { s with heap := h' } :=
 I.turned (t' := s.toks) (it := C) (fun b o hb e => (hs.2 b hb).trans e) hC hL (.inr h0) hc hp
theorem blk_end {s' : Shared} {H' : Hp} {σ' : St} {C : Addr} {N' : List Str} {fp : List Addr} (I : Inv X pins σ H s) (hf : ∀ b ∈ fp, FpOk X pins H b) (hC : s.heap.objs.size ≤ C)
  (J : Inv (blkCx X N' scope C s H fp) [] σ' H' s') : Inv X pins σ H' s' ∧ H' C = none ∧ X.s₀.heap.objs.size ≤ C ∧ C ≠ X.env.locals ∧ (∀ x c, X.env.cells.lookup x = some c → c ≠ C) ∧ (∀ p ∈ X.pn ++ pins, p.1 ≠ C) := by
 refine ⟨I.call' J.os J.base J.hok J.bare fun b hb => ?_, J.free, Nat.le_trans I.sz hC, Nat.ne_of_gt (Nat.lt_of_lt_of_le I.lt hC), fun x c e z => ?_, fun p hp z => ?_⟩
 ·obtain ⟨_, h1, _, h3, h4, h5⟩ := hf b hb
  exact ⟨h3, h1, h4, h5⟩
 ·obtain ⟨v, q⟩ := I.cell x c e
  exact absurd (Nat.lt_of_lt_of_le q.lt (by rw [z]; exact hC)) (Nat.lt_irrefl _)
 ·exact absurd (Nat.lt_of_lt_of_le (Heap.lt_size (I.pin p hp).1) (by rw [z]; exact hC)) (Nat.lt_irrefl _)
end
end L2
set_option maxHeartbeats 4000000
namespace L2
open PySem PySem.Spec PyProof.Rows
noncomputable abbrev TB := St → Hp → (St → Hp → Prop) → Prop
noncomputable def PTs (X : Cx) (ifs : List Expr) (t : TT) : Prop :=
 ∀ (pins : List (Addr × Obj)) (s : Shared) (σ : St) (H : Hp) (Q : Bool → Hp → Prop), Inv X pins σ H s → t σ H Q →
  wpAny (model X.prog X.w) X.A (forIn ifs true fun c r => if r = true then do let ok ← isTrue c X.env (eval c X.env); pure (ForInStep.yield ok) else pure (ForInStep.yield r)) (TP X pins σ Q) X.xe s
noncomputable def tYes : TT := fun _ H Q => Q true H
theorem pts_nil {X : Cx} : PTs X [] tYes := fun pins s σ H Q I h => wpAny_tests_nil ⟨H, I, h⟩
theorem pts_one {X : Cx} {c : Expr} {t : TT} (h : PT X c t) : PTs X [c] t := fun pins s σ H Q I hq => wpAny_tests_one (h pins s σ H Q I hq)
noncomputable def PB (X : Cx) (kont : Sem Fin) (c : Code) (t : TB) : Prop :=
 ∀ (pins : List (Addr × Obj)) (s : Shared) (σ : St) (H : Hp) (N : St → Hp → Prop), Inv X pins σ H s → t σ H N →
  wpAny (model X.prog X.w) X.A kont (fun fin s' => fin = .again c ∧ ∃ σ' H', Inv X pins σ' H' s' ∧ N σ' H') X.xe s
noncomputable def LoopR (J : It) (g : TG) (tt : TT) (tb : TB) (R : St → Hp → Prop) (σ : St) (H : Hp) : Prop :=
 ∃ W : Nat → Nat → St → Hp → Prop, (∃ m, W 0 m σ H) ∧ ∀ i m σ H, W i m σ H →
  (J.stop i H ∧ R σ H) ∨ (J.go i H ∧ ∃ N : St → Hp → Prop, (∀ σ' H', N σ' H' → ∃ m', m' < m ∧ W (i + 1) m' σ' H') ∧
   ∀ x H', J.yld i H x H' → g x σ H' fun σ2 H2 => tt σ2 H2 fun b H3 => if b = true then tb σ2 H3 N else N σ2 H3)
section
variable {X : Cx}
theorem comp_loop {e tg : Expr} {d : Nat} {acc : Value} {ifs : List Expr} {kont : Sem Fin} {J : It} {fp : List Addr} {it : Addr} {tn : Nat → Heap → Prop} {g : TG} {tt : TT} {tb : TB} {p : Pos} {pins : List (Addr × Obj)} {s : Shared} {σ : St} {H : Hp} {R : St → Hp → Prop}
  {RR : Result → Shared → Prop} (hxe : X.xe = fun _ _ => False)
  (hcq : Code.quiet (.compLoop e d (.ref it) acc X.env) = true) (hden : (model X.prog X.w).den (.compLoop e d (.ref it) acc X.env) = (compTurn e d (.ref it) acc X.env).onRaise (fun x => do noteFrame x X.env; theTreesLotGoes x))
  (hund : X.A.under (.compLoop e d (.ref it) acc X.env) = X.A)
  (heq : compTurn e d (.ref it) acc X.env = (standAt p >>= fun _ => pyNext (.ref it) >>= fun r => match r with
   | none => pure (.done .next)
   | some v => letOwnedTupleGo tg (.ref it) v >>= fun _ => assign tg X.env v >>= fun _ =>
    (forIn ifs true fun c r => if r = true then do let ok ← isTrue c X.env (eval c X.env); pure (ForInStep.yield ok) else pure (ForInStep.yield r)) >>= fun ok =>
     if ok = true then kont else again (.compLoop e d (.ref it) acc X.env)))
  (T : Turn X.prog X.w X.K tg J fp it tn) (hc : X.calm = true) (hg : PG X tg g) (ht : PTs X ifs tt) (hb : PB X kont (.compLoop e d (.ref it) acc X.env) tb)
  (hf : ∀ b ∈ fp, FpOk X pins H b) (I : Inv X pins σ H s) (st : tn 0 s.heap) (h : LoopR J g tt tb R σ H)
  (hR : ∀ s' σ' H', Inv X pins σ' H' s' → R σ' H' → RR (.ok .next) s') :
  codeAny (model X.prog X.w) X.A (.compLoop e d (.ref it) acc X.env) RR s := by
 obtain ⟨W, ⟨m0, w0⟩, turn⟩ := h
 have stat : ∀ {H' : Hp}, (∀ b ∈ fp, H' b = none) → ∀ b ∈ fp, FpOk X pins H' b := fun hn b hb => ⟨hn b hb, (hf b hb).2⟩
 refine codeAny_loop hcq (fun n s' => ∃ i σ' H', Inv X pins σ' H' s' ∧ tn i s'.heap ∧ (∀ b ∈ fp, H' b = none) ∧ W i n σ' H') ?_ m0 ⟨0, σ, H, I, st, fun b hb => (hf b hb).1, w0⟩
 rintro n s3 ⟨i, σ3, H3, I3, st3, fr3, w3⟩
 rw [hden, hund]
 refine wpAny_noted (wpAny_mono (E := fun _ _ => False) ?_ (fun _ _ q => q) fun _ _ z => z.elim)
 rw [heq]
 have hxe' : ∀ {α : Type} {t : Sem α} {Q : α → Shared → Prop} {s : Shared}, wpAny (model X.prog X.w) X.A t Q X.xe s → wpAny (model X.prog X.w) X.A t Q (fun _ _ => False) s := fun h => by rw [hxe] at h; exact h
 refine wpAny_bind (wpAny_standAt (wpAny_bind ?_))
 rcases turn i n σ3 H3 w3 with ⟨stop, qn⟩ | ⟨go, N, hN, step⟩
 ·refine thn (T.done X rfl rfl rfl hc i pins s3 σ3 H3 _ I3 (stat fr3) st3 stop) fun r s4 ⟨hr, I4⟩ => ?_
  subst hr
  exact wpAny_pure (hR s4 σ3 H3 I4 qn)
 ·refine thn (T.item X rfl rfl rfl hc i pins s3 σ3 H3 _ I3 (stat fr3) st3 go) fun r s4 ⟨u, hr, h4⟩ => ?_
  subst hr
  refine wpAny_bind (thn h4 fun _ s5 zz9 => ?_)
  obtain ⟨x, H5, I5, r5, y5, st5, fr5⟩ := zz9
  have I5' := I5.pinned (stat fr5) (T.obj _ _ st5)
  refine wpAny_bind (hxe' (thn (hg _ s5 σ3 H5 x u _ I5' r5 (step x H5 y5)) fun _ s6 zz9 => ?_))
  obtain ⟨σ6, H6, I6, q6⟩ := zz9
  refine wpAny_bind (hxe ▸ thn (ht _ s6 σ6 H6 _ I6 q6) fun ok s7 zz9 => ?_)
  obtain ⟨H7, I7, q7⟩ := zz9
  have back : ∀ {σ7 : St} {H7 : Hp} {s7 : Shared}, Inv X (pins ++ pinsAt fp s5.heap) σ7 H7 s7 → N σ7 H7 → ∃ m, m < n ∧ ∃ i σ' H', Inv X pins σ' H' s7 ∧ tn i s7.heap ∧ (∀ b ∈ fp, H' b = none) ∧ W i m σ' H' := fun {σ7 H7 s7} I7 n7 => by
   obtain ⟨m', hm, w7⟩ := hN σ7 H7 n7
   refine ⟨m', hm, i + 1, σ7, H7, I7.unpinned, T.keep _ _ _ st5 fun b hb o e => (I7.pin (b, o) (List.mem_append_right _ (List.mem_append_right _ (mem_pinsAt hb e)))).1, fun b hb => ?_, w7⟩
   obtain ⟨o, e, d⟩ := T.obj _ _ st5 b hb
   exact (I7.pin (b, o) (List.mem_append_right _ (List.mem_append_right _ (mem_pinsAt hb e)))).2.1
  cases ok with
  | false => exact hxe ▸ wpAny_pure ⟨rfl, back I7 q7⟩
  | true =>
   refine thn (hb _ s7 σ6 H7 N I7 q7) fun fin s8 zz9 => ?_
   obtain ⟨hfin, σ8, H8, I8, q8⟩ := zz9
   subst hfin
   exact ⟨rfl, back I8 q8⟩
end
end L2
set_option maxHeartbeats 4000000
namespace L2
open PySem PySem.Spec PyProof.Rows
noncomputable def tEmit (te : TE) (D : Addr) : TB := fun σ H N => te σ H fun v H1 => ∃ xs, H1 D = some (.lst xs) ∧ xs.length < sizeLine ∧ N σ (upd H1 D (.lst (xs ++ [v])))
section
variable {X : Cx}
theorem pb_emit {elt : Expr} {te : TE} {D : Addr} {c : Code} (he : PE X elt te) :
  PB X ((eval elt X.env >>= fun x => call (.builtin "list.append") [.ref D, x] >>= fun _ => pure ()) >>= fun _ => again c) c (tEmit te D) := by
 intro pins s σ H N I h
 refine wpAny_bind (wpAny_bind (thn (he pins s σ H _ I h) fun u s1 zz9 => ?_))
 obtain ⟨v, H1, I1, r1, q1⟩ := zz9
 obtain ⟨xs, hD, hl, q⟩ := q1
 refine wpAny_bind (thn (mt_append pins s1 σ H1 (.ref D) [v] (.ref D) [u] (fun _ H2 => N σ H2) I1 rfl (.cons r1 .nil) ⟨D, xs, v, rfl, rfl, hD, hl, q⟩) fun _ s2 zz9 => ?_)
 obtain ⟨_, H2, I2, _, q2⟩ := zz9
 exact wpAny_pure (wpAny_pure ⟨rfl, σ, H2, I2, q2⟩)
noncomputable def tGen (wi : TI) (g : TG) (tt : TT) (tb : TB) : TB := fun σ H N => wi σ H fun J H1 => LoopR J g tt tb N σ H1
theorem compStart1 {prog : Program} {w : World} {A : Around} {R : Result → Shared → Prop} {s : Shared} {elt : Expr} {t0 i0 : Expr} {f0 : List Expr} {t1 i1 : Expr} {f1 : List Expr} {scope : Scope} {pos : Pos} {it acc : Value} {env : Env}
  (h0 : codeAny (model prog w) A (.compLoop (.ListComp elt [⟨t0, i0, f0, 0⟩, ⟨t1, i1, f1, 0⟩] scope pos) 1 it acc env) R s)
  (h : wpAny (model prog w) A (pyIter it) (fun it' s' => codeAny (model prog w) A (.compLoop (.ListComp elt [⟨t0, i0, f0, 0⟩, ⟨t1, i1, f1, 0⟩] scope pos) 1 it' acc env) R s')
   (notedBy (model prog w) A env fun x s' => R (.error x) s') s) :
  codeAny (model prog w) A (.compStart (.ListComp elt [⟨t0, i0, f0, 0⟩, ⟨t1, i1, f1, 0⟩] scope pos) 1 it acc env) R s := by
 refine codeAny_of_tree ?_
 show wpAny _ _ ((compStart (.ListComp elt [⟨t0, i0, f0, 0⟩, ⟨t1, i1, f1, 0⟩] scope pos) 1 it acc env).onRaise (fun x => do noteFrame x env; standAt theWindowsPlace)) _ _ s
 refine wpAny_notedAt ?_
 unfold compStart
 show wpAny _ _ (ask >>= _) _ _ s
 refine wpAny_bind (wpAny_askSetting (wpAny_ite ?_))
 split
 ·first
   | exact wpAny_bind (wpAny_pure (wpAny_pure (And.intro rfl h0)))
   | exact wpAny_pure (And.intro rfl h0)
 ·first
   | exact wpAny_bind (wpAny_rule (wpAny_bind (wpAny_standAt (wpAny_bind (wpAny_mono h (fun it' s' h' => wpAny_pure (And.intro rfl h')) fun _ _ x => x)))))
   | (refine wpAny_bind (wpAny_rule ?_); show wpAny _ _ (standAt i1.pos >>= _) _ _ s; exact wpAny_bind (wpAny_standAt (wpAny_bind (wpAny_mono h (fun it' s' h' => wpAny_pure (And.intro rfl h')) fun _ _ x => x))))
theorem pb_gen {elt t0 i0 t1 i1 : Expr} {f0 f1 : List Expr} {scope : Scope} {pos : Pos} {D : Addr} {c : Code} {wi : TI} {g : TG} {tt : TT} {te : TE} (hxe : X.xe = fun _ _ => False) (hc : X.calm = true)
  (hi : PI X t1 i1 wi) (hg : PG X t1 g) (ht : PTs X f1 tt) (he : PE X elt te) (hs : ∀ x, foldedSetIterable i1 X.env x = pure x := by intro _; rfl) :
  PB X (eval i1 X.env >>= fun x => standAt i1.pos >>= fun _ => foldedSetIterable i1 X.env x >>= fun x => holding [x] (pyIter x) >>= fun it =>
   runOwn (.compStart (.ListComp elt [⟨t0, i0, f0, 0⟩, ⟨t1, i1, f1, 0⟩] scope pos) 1 it (.ref D) X.env) X.env >>= fun _ => again c) c (tGen wi g tt (tEmit te D)) := by
 intro pins s σ H N I h
 refine wpAny_bind (thn (hi pins s σ H _ I h) fun v s1 h1 => wpAny_bind (wpAny_standAt ?_))
 rw [hs]
 refine wpAny_bind (wpAny_pure (wpAny_bind (wpAny_holding (thn h1 fun itv s2 h2 => ?_))))
 obtain ⟨it, fp, tn, J, H2, e, I2, T, st2, f2, L⟩ := h2
 subst e
 have loop : ∀ (A : Around), A = X.A → codeAny (model X.prog X.w) A (.compLoop (.ListComp elt [⟨t0, i0, f0, 0⟩, ⟨t1, i1, f1, 0⟩] scope pos) 1 (.ref it) (.ref D) X.env)
   (fun r s' => match r with | .ok f => wpAny (model X.prog X.w) X.A (again c) (fun fin s' => fin = .again c ∧ ∃ σ' H', Inv X pins σ' H' s' ∧ N σ' H') X.xe s' | .error e => cameBackBy (model X.prog X.w) X.A X.env X.xe e s') s2 := by
  rintro A rfl
  exact comp_loop (tg := t1) (ifs := f1) (R := N) hxe rfl rfl rfl rfl T hc hg ht (pb_emit (c := .compLoop (.ListComp elt [⟨t0, i0, f0, 0⟩, ⟨t1, i1, f1, 0⟩] scope pos) 1 (.ref it) (.ref D) X.env) he) f2 I2 st2 L fun s' σ' H' I' q => wpAny_pure ⟨rfl, σ', H', I', q⟩
 refine wpAny_bind (wpAny_runOwn (h := none) ?_)
 exact compStart1 (loop _ rfl) (T.self _ _ _ _ _ st2 (loop _ rfl))
end
end L2
set_option maxHeartbeats 4000000
namespace L2
open PySem PySem.Spec PyProof.Rows
noncomputable def tComp (ts : List Str) (fv : List (Str × Nat)) (wi : TI) (g : TG) (tt : TT) (tb : Addr → TB) : TE := fun σ H Q => wi σ H fun J H1 => ∀ D, H1 D = none →
 LoopR J g tt (tb D) (fun _ H' => Q (.ref D) H') (blkS ts fv σ) (upd H1 D (.lst []))
section
variable {X : Cx} {ts : List Str} {fv : List (Str × Nat)} {scope : Scope} {elt t0 i0 : Expr} {f0 : List Expr} {rest : List Comprehension} {pos : Pos} {wi : TI} {g : TG} {tt : TT} {tb : Addr → TB} {kont : Env → Addr → Addr → Sem Fin}
theorem comp_core (B : BlkOk X scope fv) (hc : X.calm = true) (hi : PI X t0 i0 wi)
  (hg : ∀ C s₀ H₀ ex, PG (blkCx X (blkN ts fv) scope C s₀ H₀ ex) t0 g) (ht : ∀ C s₀ H₀ ex, PTs (blkCx X (blkN ts fv) scope C s₀ H₀ ex) f0 tt)
  (heq : ∀ (env : Env) (it D : Addr), compTurn (.ListComp elt (⟨t0, i0, f0, 0⟩ :: rest) scope pos) 0 (.ref it) (.ref D) env = (standAt i0.pos >>= fun _ => pyNext (.ref it) >>= fun r => match r with
   | none => pure (.done .next)
   | some v => letOwnedTupleGo t0 (.ref it) v >>= fun _ => assign t0 env v >>= fun _ =>
    (forIn f0 true fun c r => if r = true then do let ok ← isTrue c env (eval c env); pure (ForInStep.yield ok) else pure (ForInStep.yield r)) >>= fun ok =>
     if ok = true then kont env it D else again (.compLoop (.ListComp elt (⟨t0, i0, f0, 0⟩ :: rest) scope pos) 0 (.ref it) (.ref D) env)))
  (hb : ∀ C s₀ H₀ ex it D, PB (blkCx X (blkN ts fv) scope C s₀ H₀ ex) (kont (blkCx X (blkN ts fv) scope C s₀ H₀ ex).env it D) (.compLoop (.ListComp elt (⟨t0, i0, f0, 0⟩ :: rest) scope pos) 0 (.ref it) (.ref D) (blkCx X (blkN ts fv) scope C s₀ H₀ ex).env) (tb D))
  {pins : List (Addr × Obj)} {s : Shared} {σ : St} {H : Hp} {Q : VK} {RR : Value → Addr → Result → Shared → Prop} (I : Inv X pins σ H s) (h : tComp ts fv wi g tt tb σ H Q)
  (hRR : ∀ D C s' H', Inv X pins σ H' s' → H' C = none → X.s₀.heap.objs.size ≤ C → C ≠ X.env.locals → (∀ x c, X.env.cells.lookup x = some c → c ≠ C) → (∀ p ∈ X.pn ++ pins, p.1 ≠ C) → (∃ m, s'.heap.Ns C m) → Q (.ref D) H' → RR (.ref D) C (.ok .next) s') :
  wpAny (model X.prog X.w) X.A (eval i0 X.env) (fun x s₁ => wpAny (model X.prog X.w) X.A (pyIter x) (fun it s₂ => wpAny (model X.prog X.w) X.A (newList []) (fun acc s₃ =>
   wpAny (model X.prog X.w) X.A (newFunctionEnv scope X.env.globals (cloList X.env scope.names []) [] X.env.qual none .none (some X.env)) (fun cenv s₄ =>
    codeAny (model X.prog X.w) X.A (.compStart (.ListComp elt (⟨t0, i0, f0, 0⟩ :: rest) scope pos) 0 it acc { cenv with scope := relabel scope X.env }) (RR acc cenv.locals) s₄) X.xe s₃) X.xe s₂) X.xe s₁) X.xe s := by
 refine thn (hi pins s σ H _ I h) fun v s1 h1 => thn h1 fun itv s2 h2 => ?_
 obtain ⟨it, fp, tn, J, H2, e, I2, T, st2, f2, L⟩ := h2
 subst e
 have L := L s2.heap.objs.size I2.fresh
 refine wpAny_newObj_type ?_
 have I3 : Inv X pins σ (upd H2 s2.heap.objs.size (.lst [])) { s2 with heap := s2.heap.push { cls := .type "list", data := .seq ([] : List Value).toArray }, toks := s2.toks } := I2.lnew (its := []) (t' := s2.toks) .nil (Nat.zero_le _)
 have ho2 : ∀ b ∈ fp, ∃ o, s2.heap.get? b = some o ∧ ∀ v, o.data ≠ .cell v := T.obj _ _ st2
 have f3 : ∀ b ∈ fp, FpOk X pins (upd H2 s2.heap.objs.size (.lst [])) b := fun b hb => by
  obtain ⟨o, ho, _⟩ := ho2 b hb
  refine ⟨?_, (f2 b hb).2⟩
  rw [upd_ne (Nat.ne_of_lt (Heap.lt_size ho))]
  exact (f2 b hb).1
 have st3 : tn 0 (s2.heap.push { cls := .type "list", data := .seq ([] : List Value).toArray }) := T.keep _ _ _ st2 fun b _ o e => Heap.get?_push_of_some _ e
 have ho3 : ∀ b ∈ fp, ∃ o, (s2.heap.push { cls := .type "list", data := .seq ([] : List Value).toArray }).get? b = some o := fun b hb => let ⟨o, e, _⟩ := ho2 b hb; ⟨o, Heap.get?_push_of_some _ e⟩
 generalize hs3 : ({ s2 with heap := s2.heap.push { cls := .type "list", data := .seq ([] : List Value).toArray }, toks := s2.toks } : Shared) = s3 at I3
 have eh : s2.heap.push { cls := .type "list", data := .seq ([] : List Value).toArray } = s3.heap := by rw [← hs3]
 rw [eh] at st3 ho3
 refine wpAny_newFunctionEnv B.nocell (by intro y hy; simp at hy) (fun h₁ hns hsb => ?_) B.kind
 have hk : ∀ b o, s3.heap.get? b = some o → h₁.get? b = some o := fun b o e => hsb.extBut b o (Nat.ne_of_lt (Heap.lt_size e)) (Heap.get?_push_of_some _ e)
 have I4 := blk_start (ts := ts) (tk := s3.toks + ([] : List (Str × Value)).length) B I3 f3 ho3 hns hk
 have f4 : ∀ b ∈ fp, FpOk (blkCx X (blkN ts fv) scope s3.heap.objs.size s3 (upd H2 s2.heap.objs.size (.lst [])) fp) [] (upd H2 s2.heap.objs.size (.lst [])) b := fun b hb => by
  obtain ⟨f0, f1, f2', f3', f4', f5'⟩ := f3 b hb
  obtain ⟨o, eo⟩ := ho3 b hb
  exact ⟨f0, Nat.ne_of_lt (Heap.lt_size eo), I4.ok.exfs b hb, .inl hb, (I4.ok.exf b hb).2, fun p hp => absurd (show p ∈ ([] : List (Addr × Obj)) from hp) (by simp)⟩
 have st4 : tn 0 h₁ := T.keep _ _ _ st3 fun b _ o e => hk b o e
 have loop : codeAny (model X.prog X.w) X.A (.compLoop (.ListComp elt (⟨t0, i0, f0, 0⟩ :: rest) scope pos) 0 (.ref it) (.ref s2.heap.objs.size) (blkCx X (blkN ts fv) scope s3.heap.objs.size s3 (upd H2 s2.heap.objs.size (.lst [])) fp).env)
   (RR (.ref s2.heap.objs.size) s3.heap.objs.size) { s3 with heap := h₁, toks := s3.toks + ([] : List (Str × Value)).length } := by
  refine comp_loop (X := blkCx X (blkN ts fv) scope s3.heap.objs.size s3 (upd H2 s2.heap.objs.size (.lst [])) fp) (tg := t0) (ifs := f0) (R := fun _ H' => Q (.ref s2.heap.objs.size) H') rfl rfl rfl rfl (heq _ it s2.heap.objs.size) T hc (hg _ _ _ _) (ht _ _ _ _) (hb _ _ _ _ it s2.heap.objs.size) f4 I4 st4 L fun s' σ' H' J' q => ?_
  obtain ⟨e1, e2, e3, e4, e5, e6⟩ := blk_end I3 f3 (Nat.le_refl _) J'
  obtain ⟨m, hm, _⟩ := J'.loc
  exact hRR _ _ s' H' e1 e2 e3 e4 e5 e6 ⟨m, hm⟩ q
 exact codeAny_compStart_list loop (T.self _ _ _ _ _ st4 loop)
theorem pe_compG (B : BlkOk X scope fv) (hc : X.calm = true) (hi : PI X t0 i0 wi)
  (hg : ∀ C s₀ H₀ ex, PG (blkCx X (blkN ts fv) scope C s₀ H₀ ex) t0 g) (ht : ∀ C s₀ H₀ ex, PTs (blkCx X (blkN ts fv) scope C s₀ H₀ ex) f0 tt)
  (heq : ∀ (env : Env) (it D : Addr), compTurn (.ListComp elt (⟨t0, i0, f0, 0⟩ :: rest) scope pos) 0 (.ref it) (.ref D) env = (standAt i0.pos >>= fun _ => pyNext (.ref it) >>= fun r => match r with
   | none => pure (.done .next)
   | some v => letOwnedTupleGo t0 (.ref it) v >>= fun _ => assign t0 env v >>= fun _ =>
    (forIn f0 true fun c r => if r = true then do let ok ← isTrue c env (eval c env); pure (ForInStep.yield ok) else pure (ForInStep.yield r)) >>= fun ok =>
     if ok = true then kont env it D else again (.compLoop (.ListComp elt (⟨t0, i0, f0, 0⟩ :: rest) scope pos) 0 (.ref it) (.ref D) env)))
  (hb : ∀ C s₀ H₀ ex it D, PB (blkCx X (blkN ts fv) scope C s₀ H₀ ex) (kont (blkCx X (blkN ts fv) scope C s₀ H₀ ex).env it D) (.compLoop (.ListComp elt (⟨t0, i0, f0, 0⟩ :: rest) scope pos) 0 (.ref it) (.ref D) (blkCx X (blkN ts fv) scope C s₀ H₀ ex).env) (tb D))
  (hs : ∀ x, foldedSetIterable i0 X.env x = pure x := by intro _; rfl) :
  PE X (.ListComp elt (⟨t0, i0, f0, 0⟩ :: rest) scope pos) (tComp ts fv wi g tt tb) := by
 intro pins s σ H Q I h
 rw [eval_ListComp]
 refine wpAny_comprehension_free (use := none) rfl hs (closure_run fun y hy e => I.ok.has y.1 (B.free y hy e)) B.kind B.names ?_
 refine comp_core (RR := fun acc C => compPost (model X.prog X.w) X.A X.xe none (EP X pins σ Q) acc C) B hc hi hg ht heq hb I h fun D C s' H' I' e2 e3 e4 e5 e6 hm q => ?_
 obtain ⟨m, hm⟩ := hm
 exact ⟨m, hm, fun h' hs' => ⟨.ref D, H', I'.apart hs' e2 e3 e4 e5 e6, rfl, q⟩⟩
theorem ps_setCompG {i : Nat} {y : Str} {py spos : Pos} (B : BlkOk X scope fv) (hc : X.calm = true) (hN : X.N.Nodup) (hiy : X.N[i]? = some y) (hyl : X.env.scope.names.lookup y = some .local)
  (hsw : swapsWith (.ListComp elt (⟨t0, i0, f0, 0⟩ :: rest) scope pos) (some (.Name y py)) spos.line X.env = pure true) (hi : PI X t0 i0 wi)
  (hg : ∀ C s₀ H₀ ex, PG (blkCx X (blkN ts fv) scope C s₀ H₀ ex) t0 g) (ht : ∀ C s₀ H₀ ex, PTs (blkCx X (blkN ts fv) scope C s₀ H₀ ex) f0 tt)
  (heq : ∀ (env : Env) (it D : Addr), compTurn (.ListComp elt (⟨t0, i0, f0, 0⟩ :: rest) scope pos) 0 (.ref it) (.ref D) env = (standAt i0.pos >>= fun _ => pyNext (.ref it) >>= fun r => match r with
   | none => pure (.done .next)
   | some v => letOwnedTupleGo t0 (.ref it) v >>= fun _ => assign t0 env v >>= fun _ =>
    (forIn f0 true fun c r => if r = true then do let ok ← isTrue c env (eval c env); pure (ForInStep.yield ok) else pure (ForInStep.yield r)) >>= fun ok =>
     if ok = true then kont env it D else again (.compLoop (.ListComp elt (⟨t0, i0, f0, 0⟩ :: rest) scope pos) 0 (.ref it) (.ref D) env)))
  (hb : ∀ C s₀ H₀ ex it D, PB (blkCx X (blkN ts fv) scope C s₀ H₀ ex) (kont (blkCx X (blkN ts fv) scope C s₀ H₀ ex).env it D) (.compLoop (.ListComp elt (⟨t0, i0, f0, 0⟩ :: rest) scope pos) 0 (.ref it) (.ref D) (blkCx X (blkN ts fv) scope C s₀ H₀ ex).env) (tb D))
  (hs : ∀ x, foldedSetIterable i0 X.env x = pure x := by intro _; rfl) :
  PS X (.Assign [.Name y py] (.ListComp elt (⟨t0, i0, f0, 0⟩ :: rest) scope pos) spos) (tAsg (tComp ts fv wi g tt tb) (gName i)) := by
 intro pins s σ H D0 I h
 rw [exec_Assign_Name_used _ _ _ _ hsw]
 refine wpAny_bind (wpAny_standAt (wpAny_bind ?_))
 show wpAny _ X.A (do let _ ← comprehension (.ListComp elt (⟨t0, i0, f0, 0⟩ :: rest) scope pos) scope X.env _ (newList []) false (eval i0 X.env) (some (assign (.Name y py) X.env))) _ _ s
 refine wpAny_bind (wpAny_mono (wpAny_comprehension_free (use := some (assign (.Name y py) X.env)) (Q := fun _ s' => SP X pins D0 .next s') rfl hs (closure_run fun y hy e => I.ok.has y.1 (B.free y hy e)) B.kind B.names ?_) (fun _ s' hq => wpAny_pure (wpAny_pure hq)) fun _ _ e => e)
 refine comp_core (Q := fun x H1 => gName i x σ H1 D0.nx) (RR := fun acc C => compPost (model X.prog X.w) X.A X.xe (some (assign (.Name y py) X.env)) (fun _ s' => SP X pins D0 .next s') acc C) B hc hi hg ht heq hb I h fun D C s' H' I' e2 e3 e4 e5 e6 hm q => ?_
 obtain ⟨m, hm⟩ := hm
 show wpAny _ X.A (assign (.Name y py) X.env (.ref D)) _ _ _
 refine wpAny_assign_Name (store_ok2 I' hN hiy (.inl hyl) (show RelV (.ref D) (.ref D) from rfl) (fun s'' I'' hch => ?_) (.inr hyl))
 obtain ⟨a, hsb, ha⟩ := hch
 have haC : C ≠ a := by
  rcases ha with e | e
  ·rw [e]; exact e4
  ·exact fun z => e5 y a e z.symm
 exact ⟨m, hm.sameBut hsb haC, fun h' hs' => ⟨_, H', I''.apart hs' e2 e3 e4 e5 e6, q⟩⟩
end
end L2
set_option maxHeartbeats 4000000
namespace L2
open PySem PySem.Spec PyProof.Rows
noncomputable def FlyT (e T : Addr) (cls a0 : Value) (h : Heap) : Prop :=
 ∃ oe vs oT ts, h.get? e = some oe ∧ (oe.cls = cls ∧ vs[0]? = some a0) ∧ oe.data = .fields vs ∧ vs[1]? = some (.ref T) ∧ T ≠ e ∧ h.get? T = some oT ∧ oT.data = .fields ts ∧ ts[3]? = some .none
noncomputable def CXr (P : Program) (w : World) : CXT := fun outer H s E ev s' =>
 ∃ (e T : Addr) (cls a0 : Value) (H' : Hp), ev = .ref e ∧ s'.os = s.os ∧ AllBare s'.gens ∧ Un (frs outer) [] H H' s.heap s'.heap ∧ HOk P w H' s'.heap ∧
  s.heap.get? e = none ∧ s.heap.get? T = none ∧ H' e = none ∧ H' T = none ∧ FlyT e T cls a0 s'.heap ∧ E cls none H'
theorem passR {X : Cx} : Passes (CXr X.prog X.w) X E0 := fun _ _ _ _ _ _ _ h => by
 obtain ⟨_, _, _, _, _, _, _, _, _, _, _, _, _, _, _, z⟩ := h
 exact z.elim
theorem cxr_top {P : Program} {w : World} {H : Hp} {s : Shared} {e : Value} {s' : Shared} (h : CXr P w [] H s (fun _ _ _ => False) e s') : False := by
 obtain ⟨_, _, _, _, _, _, _, _, _, _, _, _, _, _, _, z⟩ := h
 exact z
section
variable {P : Program} {w : World} {K : PySem.W.Frag} {mg : Str → Option Value} {base : Heap}
theorem Fun.okR {x qual : Str} {st : Stmt} {f : Addr} {fd : FuncData} {N ps : List Str} {k : Nat} {sp : Sp} (F : Fun K x qual st f fd) (S : FnScope N ps (defScope st)) (len : ∀ vs H Q E, sp vs H Q E → vs.length = ps.length)
  (hbody : ∀ (cdv : Value) (A : Around) (outer : List Env) (s : Shared) (H : Hp) (vs : List V) (Q : VK) (E : XK), Room k (A.deeper (envOfC qual (defScope st) s.heap.objs.size f cdv)) → sp vs H Q E →
   ∃ t, PSs (cxOf (CXr P w) P w K mg base N qual (defScope st) f cdv A outer s H E).nox (defBody st) t ∧ t { nx := fun _ H' => Q .non H', rt := Q } (start N vs) H) : FnOk P w K mg base (CXr P w) (k + 1) f fd ps sp := by
 obtain ⟨oc, od, kV, doc, pm, an, cdv, ct, osl, rfl, lk, hcd⟩ := F.ex
 refine fn_of lk hcd S len fun A outer s H vs Q E hr hsp => ?_
 obtain ⟨t, h, q⟩ := hbody cdv A outer s H vs Q E hr hsp
 exact ⟨t, h.nox, q⟩
end
section
variable {X : Cx}
theorem call_isinst : CallR X (.builtin "isinstance") (fun xs H Q => ∃ x T t b, xs = [x, .ty T] ∧ TyOf X.K H x t ∧ PySem.W.kitOne X.K t (.type T) = some b ∧ Q (.bl b) H) := by
 intro pins s σ H xs us Q I r h
 obtain ⟨x, T, t, b, rfl, hty, hk, q⟩ := h
 obtain ⟨u, v, rfl, ru, rv⟩ := r.two
 obtain rfl : v = Value.type T := rv
 exact isinst_ok I ru hty hk fun tk => ⟨.bl b, H, I.tok _, rfl, q⟩
theorem kit_same {K : PySem.W.Frag} {T : String} : PySem.W.kitOne K (.type T) (.type T) = some true := by
 unfold PySem.W.kitOne
 rw [if_pos (by simp)]
theorem blkFree {X : Cx} {scope : Scope} (h : scope.names.all (fun y => y.2 != .free || X.env.kindOf y.1 == some .cell || X.env.kindOf y.1 == some .free) = true) :
  ∀ y ∈ scope.names, y.2 = .free → X.env.kindOf y.1 = some .cell ∨ X.env.kindOf y.1 = some .free := fun y hy e => by
 have := List.all_eq_true.mp h y hy
 simp [e] at this
 exact this
end
theorem walk_r {l : PySem.W.OpenLaw} {k : Nat} {q : Program} {loose : List Str} {XP : (Str → Option Value) → Heap → Prop} {YP : World → Heap → Prop} {d : DefRec} {K : Params → PySem.W.Frag} {spl : PySem.W.Frag → Sp}
  (hn : l.most = some 63) (hdf : d.params.defaults = []) (hr : Room k callerA) (hY : ∀ (w : World) (h : Heap), YP w h → (K w.params).In h)
  (hsp : ∀ (K : PySem.W.Frag) (H : Hp) (a : Addr) (ns : List Int), ns.length ≤ 63 → SqL K H a (ns.map V.int) → spl K [.ref a] H (fun v _ => v = .bl true) fun _ _ _ => False)
  (F : ∀ (w : World) (mg : Str → Option Value) (fa : Addr) (h : Heap), (K w.params).In h → h.Ns mainGlobals mg → mg d.name = some (.ref fa) →
   ∃ fd : FuncData, (∀ (s : Shared) (u : Value), BindsTo s fd ⟨[u], []⟩ [("_law_script", u)]) ∧
    ∀ base : Heap, (K w.params).In base → base.Ns mainGlobals mg → FnOk l.prog w (K w.params) mg base (CXr l.prog w) k fa fd ["_law_script"] (spl (K w.params))) :
  PySem.W.WalkO q loose XP YP l.row.toRowW d [] (fun f vs => PySem.call f vs) :=
 walk_of (n := 63) (k := k) (x := "_law_script") (CX := fun w => CXr l.prog w) (sp := fun w => spl (K w.params)) hn (by decide) hdf hr hY F (fun w H a ns hl _ hS => hsp _ H a ns hl hS) (fun w H s e s' h => cxr_top h)
end L2
set_option maxHeartbeats 4000000
namespace L2
open PySem PySem.Spec PyProof.Rows
noncomputable def ExT (e : Addr) (T : Option Addr) (cls a0 : Value) (h : Heap) : Prop := match T with
 | some T => FlyT e T cls a0 h
 | none => ∃ oe vs, h.get? e = some oe ∧ (oe.cls = cls ∧ vs[0]? = some a0) ∧ oe.data = .fields vs ∧ vs[1]? = some .none
structure FxOk (X : Cx) (pins : List (Addr × Obj)) (H : Hp) (b : Addr) : Prop where
 nt : H b = none
 nl : b ≠ X.env.locals
 nf : b ∉ X.fs
 n0 : X.s₀.heap.get? b = none
 nc : ∀ x c, X.env.cells.lookup x = some c → c ≠ b
 np : ∀ p ∈ X.pn ++ pins, p.1 ≠ b
noncomputable def XS (fr : Bool) (X : Cx) (pins : List (Addr × Obj)) (R : Value → St → Hp → Prop) (ev : Value) (s' : Shared) : Prop :=
 ∃ (e : Addr) (T : Option Addr) (cls a0 : Value) (σ' : St) (H' : Hp), ev = .ref e ∧ Inv X pins σ' H' s' ∧ ExT e T cls a0 s'.heap ∧ FxOk X pins H' e ∧ (∀ t, T = some t → FxOk X pins H' t) ∧ (T = none → fr = true) ∧ R cls σ' H'
noncomputable abbrev TSX := Ends → (Value → St → Hp → Prop) → St → Hp → Prop
noncomputable abbrev TEX := St → Hp → VK → XK → Prop
noncomputable def PSX (fr : Bool) (X : Cx) (st : Stmt) (t : TSX) : Prop :=
 ∀ (pins : List (Addr × Obj)) (s : Shared) (σ : St) (H : Hp) (D : Ends) (R : Value → St → Hp → Prop), Inv X pins σ H s → t D R σ H → wpAny (model X.prog X.w) X.A (exec st X.env) (SP X pins D) (XS fr X pins R) s
noncomputable def PSsX (fr : Bool) (X : Cx) (st : List Stmt) (t : TSX) : Prop :=
 ∀ (pins : List (Addr × Obj)) (s : Shared) (σ : St) (H : Hp) (D : Ends) (R : Value → St → Hp → Prop), Inv X pins σ H s → t D R σ H → wpAny (model X.prog X.w) X.A (execs st X.env) (SP X pins D) (XS fr X pins R) s
noncomputable def PEX (fr : Bool) (X : Cx) (e : Expr) (t : TEX) : Prop :=
 ∀ (pins : List (Addr × Obj)) (s : Shared) (σ : St) (H : Hp) (Q : VK) (E : XK), Inv X pins σ H s → t σ H Q E → wpAny (model X.prog X.w) X.A (eval e X.env) (EP X pins σ Q) (XS fr X pins fun cls σ' H' => σ' = σ ∧ E cls none H') s
section
variable {X : Cx} {fr : Bool}
theorem psx_of {st : Stmt} {t : TS} (h : PS X st t) (hx : X.xe = (fun _ _ => False) := by rfl) : PSX fr X st (fun D _ σ H => t D σ H) := fun pins s σ H D R I q => by
 have := h pins s σ H D I q
 rw [hx] at this
 exact wpAny_mono this (fun _ _ z => z) fun _ _ z => z.elim
theorem pssx_of {st : List Stmt} {t : TS} (h : PSs X st t) (hx : X.xe = (fun _ _ => False) := by rfl) : PSsX fr X st (fun D _ σ H => t D σ H) := fun pins s σ H D R I q => by
 have := h pins s σ H D I q
 rw [hx] at this
 exact wpAny_mono this (fun _ _ z => z) fun _ _ z => z.elim
noncomputable def tSeqX (t u : TSX) : TSX := fun D R σ H => t { D with nx := u D R } R σ H
theorem pssx_cons {st : Stmt} {rest : List Stmt} {t u : TSX} (h1 : PSX fr X st t) (h2 : PSsX fr X rest u) : PSsX fr X (st :: rest) (tSeqX t u) := by
 intro pins s σ H D R I h
 refine wpAny_execs_cons (thn (h1 pins s σ H { D with nx := u D R } R I h) fun f s1 q => ?_)
 cases f with
 | next =>
  obtain ⟨σ', H', I', q⟩ := q
  exact h2 pins s1 σ' H' D R I' q
 | ret v => exact q
 | brk => exact q
 | cont => exact q
theorem pssx_one {st : Stmt} {t : TSX} (h1 : PSX fr X st t) : PSsX fr X [st] t := by
 intro pins s σ H D R I h
 refine wpAny_execs_cons (thn (h1 pins s σ H D R I h) fun f s1 q => ?_)
 cases f with
 | next => exact wpAny_execs_nil q
 | ret v => exact q
 | brk => exact q
 | cont => exact q
theorem pssx_nil : PSsX fr X [] (fun D _ σ H => D.nx σ H) := fun _ _ σ H _ _ I h => wpAny_execs_nil ⟨σ, H, I, h⟩
noncomputable def tIfX (c : TT) (t u : TSX) : TSX := fun D R σ H => c σ H fun b H1 => if b = true then t D R σ H1 else u D R σ H1
theorem psx_if {c : Expr} {a b : List Stmt} {tc : TT} {t u : TSX} {pos : Pos} (hc : PT X c tc) (ha : PSsX fr X a t) (hb : PSsX fr X b u) (hx : X.xe = (fun _ _ => False) := by rfl) : PSX fr X (.If c a b pos) (tIfX tc t u) := by
 intro pins s σ H D R I h
 have h0 := hc pins s σ H _ I h
 rw [hx] at h0
 refine wpAny_If (wpAny_mono h0 (fun d s1 zz27 => ?_) fun _ _ z => z.elim)
 obtain ⟨H1, I1, q1⟩ := zz27
 cases d with
 | true => exact ha pins s1 σ H1 D R I1 q1
 | false => exact hb pins s1 σ H1 D R I1 q1
noncomputable def tDropX (te : TEX) : TSX := fun D R σ H => te σ H (fun _ H1 => D.nx σ H1) fun cls _ H1 => R cls σ H1
theorem psx_expr {e : Expr} {te : TEX} {pos : Pos} (he : PEX fr X e te) (hs : swapsWith e none pos.line X.env = pure false := by rfl) : PSX fr X (.Expr e pos) (tDropX te) := by
 intro pins s σ H D R I h
 refine wpAny_Expr_any (wpAny_mono (he pins s σ H _ _ I h) (fun v s1 ⟨x, H1, I1, r1, q1⟩ => ⟨σ, H1, I1, q1⟩) ?_) I.quiet hs
 rintro ev s1 ⟨e, T, cls, a0, σ', H', h1, h2, h3, h4, h5, h7, rfl, h6⟩
 exact ⟨e, T, cls, a0, σ', H', h1, h2, h3, h4, h5, h7, h6⟩
noncomputable def tSetX (i : Nat) (te : TEX) : TSX := fun D R σ H => te σ H (fun x H1 => D.nx (σ.set i (some x)) H1) fun cls _ H1 => R cls σ H1
theorem psx_set {i : Nat} {x : Str} {e : Expr} {te : TEX} {pos pos' : Pos} (hN : X.N.Nodup) (hi : X.N[i]? = some x) (hx : Loc X.env.scope x) (he : PEX fr X e te) (hs : swapsWith e (some (.Name x pos')) pos.line X.env = pure false := by rfl)
  (hf : X.fn x = true ∨ X.env.scope.names.lookup x = some .local := by first | exact .inl rfl | exact .inr rfl | assumption) : PSX fr X (.Assign [.Name x pos'] e pos) (tSetX i te) := by
 intro pins s σ H D R I h
 refine wpAny_Assign_Name (wpAny_mono (he pins s σ H _ _ I h) (fun v s1 ⟨y, H1, I1, r1, q1⟩ => ?_) ?_) hs
 ·exact store_ok I1 hN hi hx r1 (fun s2 I2 => ⟨_, H1, I2, q1⟩) hf
 ·rintro ev s1 ⟨e, T, cls, a0, σ', H', h1, h2, h3, h4, h5, h7, rfl, h6⟩
  exact ⟨e, T, cls, a0, σ', H', h1, h2, h3, h4, h5, h7, h6⟩
theorem Inv.cxr {pins : List (Addr × Obj)} {σ : St} {H : Hp} {s s' : Shared} {E : XK} {ev : Value} (I : Inv X pins σ H s) (hex : X.ex = []) (h : CXr X.prog X.w X.stack H s E ev s') : XS fr X pins (fun cls σ' H' => σ' = σ ∧ E cls none H') ev s' := by
 obtain ⟨e, T, cls, a0, H', rfl, os, bare, un, hok, ne, nT, he, hT, fl, q⟩ := h
 have I' : Inv X pins σ H' s' := I.call' os un hok bare fun b hb => absurd hb (by simp)
 have fx : ∀ b, s.heap.get? b = none → H' b = none → FxOk X pins H' b := fun b hb hn => by
  refine ⟨hn, fun z => ?_, fun z => ?_, ?_, fun x c e z => ?_, fun p hp z => ?_⟩
  ·obtain ⟨m, ⟨o, _, _, ho, _⟩, _⟩ := I.loc
   rw [z, ho] at hb; cases hb
  ·obtain ⟨_, o, ho, _⟩ := I.funs.mem z
   rw [ho] at hb; cases hb
  ·cases q : X.s₀.heap.get? b with
   | none => rfl
   | some o =>
    obtain ⟨o', e'⟩ := I.base.there b o q (by rw [hex]; simp)
    rw [hb] at e'; cases e'
  ·obtain ⟨v, o, ho, _⟩ := I.cell x c e
   rw [z, hb] at ho; cases ho
  ·have := (I.pin p hp).1
   rw [z, hb] at this; cases this
 exact ⟨e, some T, cls, a0, σ, H', rfl, I', fl, fx e ne he, fun t ht => by cases ht; exact fx T nT hT, (fun z => nomatch z), rfl, q⟩
variable {k : Nat} {f C : Addr} {fd : FuncData} {ps : List Str} {sp : Sp} {dvs : List V} {ds : List Value} {x m : Str} {p pos apos : Pos} {e o : Expr} {es : List Expr} {ta : TE} {t : TA}
theorem run_fnX {pins : List (Addr × Obj)} {σ : St} {H : Hp} {s : Shared} {Q : VK} {E : XK} {us : List Value} {vs : List V} (F : FnOk X.prog X.w X.K X.mg X.base (CXr X.prog X.w) k f fd ps sp) (hr : Room k X.A) (hb : Binds X.K fd ps ds) (hd : Vals dvs ds) (hex : X.ex = [])
  (I : Inv X pins σ H s) (r : Vals vs us) (h : sp (vs ++ dvs) H Q E) : wpAny (model X.prog X.w) X.A (call (.ref f) us) (EP X pins σ Q) (XS fr X pins fun cls σ' H' => σ' = σ ∧ E cls none H') s := by
 have r2 : Vals (vs ++ dvs) (us ++ ds) := r.append hd
 have hl : (us ++ ds).length = ps.length := by rw [← r2.length]; exact F.len _ _ _ _ h
 refine wpAny_call (codeAny_mono (F.run X.A X.stack s H ⟨us, []⟩ (us ++ ds) (vs ++ dvs) Q E hr I.env0 (hb s us I.kIn hl) r2 h) fun r s' hq => ?_)
 cases r with
 | error e => exact I.cxr hex hq
 | ok fl =>
  cases fl with
  | ret u => exact I.after hq
  | next => exact False.elim hq
  | brk => exact False.elim hq
  | cont => exact False.elim hq
noncomputable def tCallX (sp : Sp) (dvs : List V) (t : TA) : TEX := fun σ H Q E => t σ H fun vs H1 => sp (vs ++ dvs) H1 Q E
theorem pex_call (F : FnOk X.prog X.w X.K X.mg X.base (CXr X.prog X.w) k f fd ps sp) (hr : Room k X.A) (hg : Gl X x) (hm : X.mg x = some (.ref f)) (hk : PySem.W.keepIn X.K (.ref f) = true) (hb : Binds X.K fd ps ds) (hd : Vals dvs ds)
  (ha : PA X (e :: es) t) (hex : X.ex = [] := by rfl) (hx : X.xe = (fun _ _ => False) := by rfl) (hdb : (x == ("__debug__" : Str)) = false := by decide) (he : starEach (e :: es) X.env = (false, eval e X.env) :: starEach es X.env := by rfl) (hpl : (backTo pos (starEach es X.env)).any (·.1) = false := by rfl) :
  PEX fr X (.Call (.Name x p) (e :: es) [] pos) (tCallX sp dvs t) := by
 intro pins s σ H Q E I h
 have h0 := ha pos pins s σ H _ I h
 rw [hx] at h0
 refine wpAny_Call_Name_kw (ld_glob I hg hm ?_ hdb)
 refine PySem.W.callWith_K (h₀ := X.base) I.ok.mod.kin hk (wpAny_mono h0 (fun us s1 zz28 => ?_) fun _ _ z => z.elim) he hpl
 obtain ⟨vs, H1, I1, r, q⟩ := zz28
 refine ⟨I1.kIn, ?_⟩
 exact run_fnX F hr hb hd hex I1 r q
noncomputable def tMethX (C : Addr) (m : Str) (sp : Sp) (dvs : List V) (ta : TE) (t : TA) : TEX := fun σ H Q E => ta σ H fun x H1 => ∃ a dx fs, x = .ref a ∧ H1 a = some (.ins C dx fs) ∧ fs.lookup m = none ∧
 t σ H1 fun vs H2 => sp (x :: (vs ++ dvs)) H2 Q E
theorem pex_meth {pl : Sem Bool} (he : PE X o ta) (c : Cls X.K C) (hm : Meth X.K C m f) (F : FnOk X.prog X.w X.K X.mg X.base (CXr X.prog X.w) k f fd ps sp) (hr : Room k X.A) (hb : Binds X.K fd ps ds) (hd : Vals dvs ds) (ha : PA X (e :: es) t)
  (hex : X.ex = [] := by rfl) (hx : X.xe = (fun _ _ => False) := by rfl) (hst : starEach (e :: es) X.env = (false, eval e X.env) :: starEach es X.env := by rfl) (hpl : (backTo pos (starEach es X.env)).any (·.1) = false := by rfl)
  (ht : eval (.Call (.Attribute o m apos) (e :: es) [] pos) X.env = (do
   let ov ← eval o X.env
   standAt apos.atName
   let (f, first) ← holding [ov] (getMethod ov m pl)
   callWith pos f first (backTo pos (starEach (e :: es) X.env)) (backToKw pos (keywordEach [] X.env))) := by rfl) :
  PEX fr X (.Call (.Attribute o m apos) (e :: es) [] pos) (tMethX C m sp dvs ta t) := by
 intro pins s σ H Q E I h
 have h0 := he pins s σ H _ I h
 rw [hx] at h0
 refine PySem.W.methodCall_KW (pl := pl) (wpAny_mono h0 (fun u s1 zz29 => ?_) fun _ _ z => z.elim) ht
 obtain ⟨x, H1, I1, rx, a, dx, fs, ex, ea, l, q⟩ := zz29
 subst ex
 obtain rfl : u = Value.ref a := rx
 refine getmeth_ok I1 ea c hm l ?_
 have h1 := ha pos pins s1 σ H1 _ I1 q
 rw [hx] at h1
 refine PySem.W.callWith_K (first := [.ref a]) (h₀ := X.base) I.ok.mod.kin hm.kp (wpAny_mono h1 (fun us s2 zz30 => ?_) fun _ _ z => z.elim) hst hpl
 obtain ⟨vs, H2, I2, r, q2⟩ := zz30
 refine ⟨I2.kIn, ?_⟩
 exact run_fnX (us := .ref a :: us) (vs := .ref a :: vs) F hr hb hd hex I2 (.cons rfl r) q2
end
end L2
set_option maxHeartbeats 4000000
namespace L2
open PySem PySem.Spec PyProof.Rows
theorem ObjOk.there {P : Program} {w : World} {H : Hp} {h : Heap} {a : Addr} : ∀ {o : HO}, ObjOk P w H h a o → ∃ ob, h.get? a = some ob
 | .lst _, x => by obtain ⟨_, _, _, _, e⟩ := x; exact ⟨_, e⟩
 | .tup _, x => by obtain ⟨_, _, _, ob, e, _⟩ := x; exact ⟨_, e⟩
 | .dK _, x => by obtain ⟨_, _, _, _, o, _, _, e, _⟩ := x; exact ⟨_, e⟩
 | .dT _, x => by obtain ⟨_, _, _, _, o, _, _, e, _⟩ := x; exact ⟨_, e⟩
 | .set _ _, x => by obtain ⟨o, _, _, _, e, _⟩ := x; exact ⟨_, e⟩
 | .ins _ _ _, x => by obtain ⟨_, _, _, e, _⟩ := x; exact ⟨_, e⟩
 | .own _, x => by obtain ⟨_, e⟩ := x; exact ⟨_, e⟩
 | .xd _, x => by obtain ⟨_, ⟨_, _, _, e, _⟩, _⟩ := x; exact ⟨_, e⟩
 | .rng _ _, x => by obtain ⟨_, _, _, e⟩ := x; exact ⟨_, e⟩
 | .frz _ _, x => by obtain ⟨e, _⟩ := x; exact ⟨_, e⟩
 | .tbl _, x => ⟨_, (show h.get? a = some _ from x)⟩
 | .met _ _, x => ⟨_, (show h.get? a = some _ from x)⟩
 | .ext _, x => by obtain ⟨_, ⟨_, e⟩, _⟩ := x; exact ⟨_, e⟩
section
variable {X : Cx} {pins : List (Addr × Obj)} {σ : St} {H : Hp} {s : Shared}
theorem Inv.untr (I : Inv X pins σ H s) {b : Addr} (hb : s.heap.get? b = none) : H b = none := by
 cases q : H b with
 | none => rfl
 | some o =>
  obtain ⟨ob, e⟩ := (I.hok b o q).there
  rw [hb] at e; cases e
theorem Inv.fxOk (I : Inv X pins σ H s) (hex : X.ex = []) {b : Addr} (hb : s.heap.get? b = none) : FxOk X pins H b := by
 refine ⟨I.untr hb, fun z => ?_, fun z => ?_, ?_, fun x c e z => ?_, fun p hp z => ?_⟩
 ·obtain ⟨m, ⟨o, _, _, ho, _⟩, _⟩ := I.loc
  rw [z, ho] at hb; cases hb
 ·obtain ⟨_, o, ho, _⟩ := I.funs.mem z
  rw [ho] at hb; cases hb
 ·cases q : X.s₀.heap.get? b with
  | none => rfl
  | some o =>
   obtain ⟨o', e'⟩ := I.base.there b o q (by rw [hex]; simp)
   rw [hb] at e'; cases e'
 ·obtain ⟨v, o, ho, _⟩ := I.cell x c e
  rw [z, hb] at ho; cases ho
 ·have := (I.pin p hp).1
  rw [z, hb] at this; cases this
end
structure ExcK (K : PySem.W.Frag) (C : Addr) (bmB : List Value) (newId : String) : Prop where
 q : PySem.W.excIn K C bmB newId = true
theorem exc_obj {K : PySem.W.Frag} {h : Heap} {C : Addr} {bmB : List Value} {newId : String} (X : K.In h) (q : PySem.W.excIn K C bmB newId = true) :
  ∃ bm N nm q bs hdct sn sub ab col dd k0 k1 k2 k3 k5 mN, h.get? C = some (excClassObj nm q C N bs bm hdct sn sub ab col dd k0 k1 k2 k3 k5 newId) ∧ h.Ns N mN ∧ mN "__init__" = none ∧ OwnTail h bmB bm := by
 unfold PySem.W.excIn at q
 split at q
 ·rename_i dd cd sl ho
  split at q
  ·rename_i C' bm k0 k1 k2 k3 n k5 hm hs
   simp only [Bool.and_eq_true, beq_iff_eq, Bool.not_eq_true'] at q
   obtain ⟨⟨⟨⟨⟨rfl, rfl⟩, hdel⟩, ht⟩, hok⟩, hni⟩ := q
   obtain ⟨nm, bs, mro, ns, qn, hd, sn, sub, ab, col, del⟩ := cd
   dsimp only at hm hdel hok hni
   subst hm hdel
   have hsl : sl = #[k0, k1, k2, k3, some (.builtin n), k5] := by
    obtain ⟨l⟩ := sl
    simp only at hs
    rw [hs]
   subst hsl
   exact ⟨bm, ns, nm, qn, bs, hd, sn, sub, ab, col, dd, k0, k1, k2, k3, k5, _, X _ _ ho, .of_isNs (PySem.W.isNs_of_in X hok), PySem.W.nsMap_none_of_in X hok hni, PySem.W.tail_of_in X ht⟩
  ·cases q
 ·cases q
section
variable {X : Cx}
noncomputable def tRaise (C : Addr) (t : TA) : TSX := fun _ R σ H => t σ H fun vs H1 => vs.length ≤ 1000 ∧ R (.ref C) σ H1
theorem psx_raise {C : Addr} {bmB : List Value} {B newId initId : String} {x : Str} {np cpos pos : Pos} {e : Expr} {es : List Expr} {t : TA} (K : ExcK X.K C bmB newId) (FB : ExcBaseFacts B newId initId bmB) (hg : Gl X x) (hm : X.mg x = some (.ref C)) (hc : X.calm = true) (ha : PA X (e :: es) t)
  (hex : X.ex = [] := by rfl) (hx : X.xe = (fun _ _ => False) := by rfl) (hdb : (x == ("__debug__" : Str)) = false := by decide) (he : starEach (e :: es) X.env = (false, eval e X.env) :: starEach es X.env := by rfl) (hpl : (backTo cpos (starEach es X.env)).any (·.1) = false := by rfl) :
  PSX true X (.Raise (some (.Call (.Name x np) (e :: es) [] cpos)) none pos) (tRaise C t) := by
 intro pins s σ H D R I h
 obtain ⟨tl, N, nm, q, bs, hdct, sn, sub, ab, col, dd, k0, k1, k2, k3, k5, mN, hC, hN, hni, T⟩ := exc_obj I.ok.mod.kin K.q
 refine wpAny_Raise_call_subT (C := C) (nm := nm) (q := q) (N := N) (bs := bs) (bm := tl) (hdct := hdct) (sn := sn) (sub := sub) (ab := ab) (col := col) (dd := dd) (k0 := k0) (k1 := k1) (k2 := k2) (k3 := k3) (k5 := k5)
  FB (mN := mN) (T.hasType FB.hasBase) (I.ok.hd hc) (by rw [he]; show (false || (backTo cpos (starEach es X.env)).any (·.1)) = false; rw [hpl]; rfl) hni (ld_glob I hg hm ⟨rfl, ?_⟩ hdb)
 have h0 := ha cpos pins s σ H _ I h
 rw [hx] at h0
 rw [he] at h0 ⊢
 refine Calls.evalArgs_plain (wpAny_mono h0 (fun us s₂ zz31 => ?_) fun _ _ z => z.elim)
 obtain ⟨vs, H1, I1, r1, hl, q1⟩ := zz31
 have kb := I1.bk
 refine ⟨rfl, ?_, kb _ _ hC, hN.keeps kb, T.keeps kb, fun h' ea hm' => ?_⟩
 ·rw [← r1.length]
  exact Nat.le_of_lt (small1000 hl)
 obtain ⟨tt, h1, h2, h3⟩ := hm'.there
 have I2 : Inv X pins σ H1 { s₂ with heap := h' } := I1.kept (t' := s₂.toks) hm'.keeps
 have fx := I1.fxOk hex hm'.new
 exact ⟨ea, none, .ref C, .ref tt, σ, H1, rfl, I2, ⟨_, _, h1, ⟨rfl, rfl⟩, rfl, rfl⟩, ⟨fx.nt, fx.nl, fx.nf, fx.n0, fx.nc, fx.np⟩, (fun t z => nomatch z), (fun _ => rfl), q1⟩
theorem Un.leave {fs : List Addr} {H₀ H : Hp} {h₀ h h' : Heap} (u : Un fs [] H₀ H h₀ h) (hk : ∀ b o, h₀.get? b = some o → b ∉ fs → h.get? b = some o → h'.get? b = some o)
  (hs : ∀ b o, b ∈ fs → h.get? b = some o → ∃ sl, h'.get? b = some { o with slots := sl }) (ht : ∀ b o, h₀.get? b = some o → ∀ o', h.get? b = some o' → ∃ o'', h'.get? b = some o'') : Un fs [] H₀ H h₀ h' where
 keep := fun b o e n hb hx => hk b o e hb (u.keep b o e n hb hx)
 slot := fun b o e n hb hx => by
  obtain ⟨sl, e1⟩ := u.slot b o e n hb hx
  obtain ⟨sl', e2⟩ := hs b _ hb e1
  exact ⟨sl', e2⟩
 free := u.free
 there := fun b o e hx => by
  obtain ⟨o', e1⟩ := u.there b o e hx
  exact ht b o e o' e1
 tups := u.tups
 frzs := u.frzs
 tbls := u.tbls
theorem funFrames_hide {X : Cx} {pins : List (Addr × Obj)} {σ : St} {H : Hp} {s : Shared} (I : Inv X pins σ H s) (as : List Addr) (hs : ∀ b ∈ frs X.stack, b ∈ as) : s.heap.FunFrames (PySem.W.hideAll s.heap as) X.stack := by
 have all : ∀ (l : List Env), (∀ b ∈ frs l, b ∈ as) → s.heap.FunFrames X.base l → s.heap.FunFrames (PySem.W.hideAll s.heap as) l := by
  intro l
  induction l with
  | nil => intro _ _; trivial
  | cons env r ih =>
   intro hs hl
   obtain ⟨hk, ⟨L, o, hf, hn, ho, hd⟩, hr⟩ := hl
   have hL : L ∈ as := hs L (by unfold frs; rw [List.filterMap_cons, hf]; exact List.mem_cons_self)
   exact ⟨hk, ⟨L, o, hf, PySem.W.hideAll_none as hL, ho, hd⟩, ih (fun b hb => hs b (by unfold frs; rw [List.filterMap_cons, hf]; exact List.mem_cons_of_mem _ hb)) hr⟩
 exact all X.stack hs I.stack
theorem Inv.fnd {X : Cx} {pins : List (Addr × Obj)} {σ : St} {H : Hp} {s : Shared} (I : Inv X pins σ H s) {b : Addr} (hb : b ∈ frs X.stack) {o : Obj} (e : s.heap.get? b = some o) : ∀ vs, o.data ≠ .fields vs := by
 obtain ⟨_, o', e', d⟩ := I.stack.mem hb
 rw [e] at e'; cases e'
 exact d
end
end L2
set_option maxHeartbeats 4000000
namespace L2
open PySem PySem.Spec PyProof.Rows
theorem FxOk.none {X : Cx} {pins : List (Addr × Obj)} {H : Hp} {b : Addr} (h : FxOk X pins H b) : FxOk X [] H b := ⟨h.nt, h.nl, h.nf, h.n0, h.nc, fun p hp => h.np p (by rw [List.append_nil] at hp; exact List.mem_append_left _ hp)⟩
section
variable {P : Program} {w : World} {K : PySem.W.Frag} {mg : Str → Option Value} {base : Heap}
theorem leave_ok {N : List Str} {qual : Str} {scope : Scope} {f : Addr} {cd : Value} {A : Around} {outer : List Env} {s s' : Shared} {H : Hp} {E : XK} {ev : Value}
  {fr : Bool} (h : XS fr (cxOf (CXr P w) P w K mg base N qual scope f cd A outer s H E).nox [] (fun cls _ H' => E cls none H') ev s') : (cxOf (CXr P w) P w K mg base N qual scope f cd A outer s H E).xe ev s' := by
 obtain ⟨e, T, cls, a0, σ', H', rfl, I, hx, fe, fT, _, q⟩ := h
 show wpAny (model P w) (A.deeper (envOfC qual scope s.heap.objs.size f cd)) (leaving (envOfC qual scope s.heap.objs.size f cd) (.ref e)) (fun _ s'' => CXr P w outer H s E (.ref e) s'') (fun e' s'' => CXr P w outer H s E e' s'') s'
 have hst : (cxOf (CXr P w) P w K mg base N qual scope f cd A outer s H E).nox.stack = envOfC qual scope s.heap.objs.size f cd :: outer := rfl
 have hfr : (A.deeper (envOfC qual scope s.heap.objs.size f cd)).frames = some (envOfC qual scope s.heap.objs.size f cd :: outer) := I.ok.frames
 have n0 : ∀ b, b ∈ e :: T.toList → s.heap.get? b = none := fun b hb => by
  rcases List.mem_cons.mp hb with z | z
  ·rw [z]; exact fe.n0
  ·cases T with
   | none => simp at z
   | some t =>
    have : b = t := by simpa using z
    rw [this]; exact (fT t rfl).n0
 have nt : ∀ b, b ∈ e :: T.toList → H' b = none := fun b hb => by
  rcases List.mem_cons.mp hb with z | z
  ·rw [z]; exact fe.nt
  ·cases T with
   | none => simp at z
   | some t =>
    have : b = t := by simpa using z
    rw [this]; exact (fT t rfl).nt
 have hB : ∀ b o, b ∉ e :: T.toList → b ∉ frs (envOfC qual scope s.heap.objs.size f cd :: outer) → s'.heap.get? b = some o → (PySem.W.hideAll s'.heap ((e :: T.toList) ++ frs (envOfC qual scope s.heap.objs.size f cd :: outer))).get? b = some o := fun b o h1 h2 e1 =>
  PySem.W.hideAll_get _ e1 fun z => (List.mem_append.mp z).elim h1 h2
 have hl : s'.heap.FunFrames (PySem.W.hideAll s'.heap ((e :: T.toList) ++ frs (envOfC qual scope s.heap.objs.size f cd :: outer))) (envOfC qual scope s.heap.objs.size f cd :: outer) := funFrames_hide I _ fun b hb => List.mem_append_right _ hb
 have hkb : (PySem.W.hideAll s'.heap ((e :: T.toList) ++ frs (envOfC qual scope s.heap.objs.size f cd :: outer))).StaysIn s'.heap := fun b o e1 => PySem.W.of_hideAll _ e1
 have hen : (PySem.W.hideAll s'.heap ((e :: T.toList) ++ frs (envOfC qual scope s.heap.objs.size f cd :: outer))).get? e = none := PySem.W.hideAll_none _ (List.mem_append_left _ List.mem_cons_self)
 have fin : ∀ h', Heap.LeftW (PySem.W.hideAll s'.heap ((e :: T.toList) ++ frs (envOfC qual scope s.heap.objs.size f cd :: outer))) (envOfC qual scope s.heap.objs.size f cd :: outer) e cls a0 s'.heap h' → CXr P w outer H s E (.ref e) { s' with heap := h' } := fun h' ⟨k1, k2, k3, k4⟩ => by
  obtain ⟨oe, vs, T', oT, ts, x1, x2, x3, x4, x5, x6, x7, x8, x9⟩ := k3
  have notfr : ∀ b o, b ∈ frs (envOfC qual scope s.heap.objs.size f cd :: outer) → s'.heap.get? b = some o → ∃ sl, h'.get? b = some { o with slots := sl } := fun b o hb e1 => k4 b o e1 (I.fnd hb e1)
  have kept : ∀ b o, b ∉ e :: T.toList → b ∉ frs (envOfC qual scope s.heap.objs.size f cd :: outer) → s'.heap.get? b = some o → h'.get? b = some o := fun b o h1 h2 e1 => k1 b o (hB b o h1 h2 e1)
  have nL : ∀ b o, s.heap.get? b = some o → b ∉ frs outer → b ∉ frs (envOfC qual scope s.heap.objs.size f cd :: outer) := fun b o e1 h2 z => by
   have z' : b ∈ s.heap.objs.size :: frs outer := z
   rcases List.mem_cons.mp z' with z1 | z1
   ·rw [z1] at e1; exact absurd (Heap.lt_size e1) (Nat.lt_irrefl _)
   ·exact h2 z1
  have nE : ∀ b o, s.heap.get? b = some o → b ∉ e :: T.toList := fun b o e1 z => by rw [n0 b z] at e1; cases e1
  have trk : ∀ b u, H' b = some u → ∀ o, s'.heap.get? b = some o → h'.get? b = some o := fun b u hu o e1 => by
   refine kept b o (fun z => by rw [nt b z] at hu; cases hu) (fun z => ?_) e1
   rw [I.stkFree b z] at hu; cases hu
  have hT' : s.heap.get? T' = none ∧ H' T' = none := by
   by_cases hz : s'.heap.get? T' = none
   ·refine ⟨?_, I.untr hz⟩
    cases q' : s.heap.get? T' with
    | none => rfl
    | some o =>
     obtain ⟨o', e'⟩ := I.base.there T' o q' (by simp [cxOf])
     rw [hz] at e'; cases e'
   ·obtain ⟨o, ho⟩ := Option.ne_none_iff_exists'.mp hz
    by_cases h1 : T' ∈ e :: T.toList
    ·exact ⟨n0 T' h1, nt T' h1⟩
    ·by_cases h2 : T' ∈ frs (envOfC qual scope s.heap.objs.size f cd :: outer)
     ·exfalso
      obtain ⟨sl, e'⟩ := notfr T' o h2 ho
      rw [x7] at e'
      cases e'
      exact I.fnd h2 ho ts x8
     ·rw [hB T' o h1 h2 ho] at x5; cases x5
  refine ⟨e, T', cls, a0, H', rfl, I.os, I.bare, ?_, fun b u hu => ?_, fe.n0, hT'.1, fe.nt, hT'.2, ⟨oe, vs, oT, ts, x1, x2, x3, x4, x6, x7, x8, x9⟩, q⟩
  ·refine Un.leave I.base (fun b o e1 h1 e2 => kept b o (nE b o e1) (nL b o e1 h1) e2) (fun b o hb e1 => notfr b o (List.mem_cons_of_mem _ hb) e1) fun b o e1 o' e2 => ?_
   by_cases h2 : b ∈ frs outer
   ·obtain ⟨sl, e'⟩ := notfr b o' (List.mem_cons_of_mem _ h2) e2
    exact ⟨_, e'⟩
   ·exact ⟨o', kept b o' (nE b o e1) (nL b o e1 h2) e2⟩
  ·refine (I.hok b u hu).stay (fun c v hc e1 => ?_) (fun _ z => z) fun _ _ z => z
   rcases hc with z | z
   ·exact trk c u (by rw [z]; exact hu) v e1
   ·exact trk c _ z v e1
 cases T with
 | none =>
  obtain ⟨oe, vs, x1, x2, x3, x4⟩ := hx
  obtain ⟨x21, x22⟩ := x2
  subst x21
  exact wpAny_leaving_firstW hfr hl rfl x1 hkb hen x3 x4 x22 fin
 | some t =>
  obtain ⟨oe, vs, oT, ts, x1, x2, x3, x4, x5, x6, x7, x8⟩ := hx
  exact wpAny_leaving_nextW hfr hl rfl ⟨oe, vs, t, oT, ts, x1, x2, x3, x4, PySem.W.hideAll_none _ (List.mem_append_left _ (by simp)), x5, x6, x7, x8⟩ hkb hen fin
theorem Fun.okX {x qual : Str} {st : Stmt} {f : Addr} {fd : FuncData} {N ps : List Str} {k : Nat} {sp : Sp} (F : Fun K x qual st f fd) (S : FnScope N ps (defScope st)) (len : ∀ vs H Q E, sp vs H Q E → vs.length = ps.length)
  (hbody : ∀ (cdv : Value) (A : Around) (outer : List Env) (s : Shared) (H : Hp) (vs : List V) (Q : VK) (E : XK), Room k (A.deeper (envOfC qual (defScope st) s.heap.objs.size f cdv)) → sp vs H Q E →
   ∃ t, PSsX true (cxOf (CXr P w) P w K mg base N qual (defScope st) f cdv A outer s H E).nox (defBody st) t ∧ t { nx := fun _ H' => Q .non H', rt := Q } (fun cls _ H' => E cls none H') (start N vs) H) : FnOk P w K mg base (CXr P w) (k + 1) f fd ps sp := by
 obtain ⟨oc, od, kV, doc, pm, an, cdv, ct, osl, rfl, lk, hcd⟩ := F.ex
 refine fn_of lk hcd S len fun A outer s H vs Q E hr hsp => ?_
 obtain ⟨t, h, q⟩ := hbody cdv A outer s H vs Q E hr hsp
 refine ⟨fun D σ H' => t D (fun cls _ H'' => E cls none H'') σ H', fun pins s' σ' H' D I hD => ?_, q⟩
 refine wpAny_mono (h pins s' σ' H' D _ (I.wish _) hD) (fun _ _ z => z.unwish) fun ev s'' z => leave_ok (fr := true) ?_
 obtain ⟨e, T, cls, a0, σ2, H2, h1, h2, h3, h4, h5, h7, h6⟩ := z
 exact ⟨e, T, cls, a0, σ2, H2, h1, h2.pins_of (fun p hp => absurd hp (by simp)), h3, h4.none, fun t ht => (h5 t ht).none, h7, h6⟩
end
end L2
set_option maxHeartbeats 4000000
namespace L2
open PySem PySem.Spec PyProof.Rows
section
variable {X : Cx}
theorem Inv.exc {pins : List (Addr × Obj)} {σ : St} {H : Hp} {s : Shared} {e T : Addr} {h' : Heap} (I : Inv X pins σ H s) (hex : X.ex = []) (fe : FxOk X pins H e) (fT : FxOk X pins H T)
  (keep : ∀ b o, b ≠ e → b ≠ T → b ∉ frs X.stack → s.heap.get? b = some o → h'.get? b = some o) (slot : ∀ b o, b ∈ frs X.stack → s.heap.get? b = some o → ∃ sl, h'.get? b = some { o with slots := sl }) : Inv X pins σ H { s with heap := h' } := by
 have fss : ∀ b ∈ X.fs, b ∈ frs X.stack := fun b hb => by
  rcases I.ok.stk with z | ⟨z, hf⟩
  ·rw [z]; exact hb
  ·rw [z]; unfold frs; rw [List.filterMap_cons, hf]; exact List.mem_cons_of_mem _ hb
 have data : ∀ b o, b ≠ e → b ≠ T → s.heap.get? b = some o → ∃ sl, h'.get? b = some { o with slots := sl } := fun b o h1 h2 e1 => by
  by_cases hb : b ∈ frs X.stack
  ·exact slot b o hb e1
  ·exact ⟨o.slots, keep b o h1 h2 hb e1⟩
 have ne0 : ∀ b o, X.s₀.heap.get? b = some o → b ≠ e ∧ b ≠ T := fun b o e1 => ⟨fun z => (by rw [z, fe.n0] at e1; cases e1), fun z => (by rw [z, fT.n0] at e1; cases e1)⟩
 have cellK : ∀ x c, X.env.cells.lookup x = some c → ∀ v, s.heap.IsCell c v → h'.IsCell c v := fun x c ec v ⟨o, ho, hd⟩ => by
  obtain ⟨sl, e1⟩ := data c o (fe.nc x c ec) (fT.nc x c ec) ho
  exact ⟨_, e1, hd⟩
 refine ⟨I.ok, I.os, I.bare, ⟨fun b o e0 n hb hx => ?_, fun b o e0 n hb hx => ?_, I.base.free, fun b o e0 hx => ?_, I.base.tups, I.base.frzs, I.base.tbls⟩, ?_, fun x c ec => ?_, I.free, I.freeC, fun p hp => ?_, fun b u hu => ?_, I.len⟩
 ·obtain ⟨n1, n2⟩ := ne0 b o e0
  refine keep b o n1 n2 (fun z => ?_) (I.base.keep b o e0 n hb hx)
  rcases List.mem_cons.mp (I.stkSub b z) with z1 | z1
  ·rw [z1] at e0; exact absurd (Nat.lt_of_lt_of_le (Heap.lt_size e0) I.ok.above) (Nat.lt_irrefl _)
  ·exact hb z1
 ·obtain ⟨sl, e1⟩ := I.base.slot b o e0 n hb hx
  obtain ⟨sl', e2⟩ := slot b _ (fss b hb) e1
  exact ⟨sl', e2⟩
 ·obtain ⟨n1, n2⟩ := ne0 b o e0
  obtain ⟨o', e1⟩ := I.base.there b o e0 hx
  obtain ⟨sl, e2⟩ := data b o' n1 n2 e1
  exact ⟨_, e2⟩
 ·obtain ⟨m, hn, hl⟩ := I.loc
  refine ⟨m, ?_, fun i x v e1 e2 e3 => ?_⟩
  ·obtain ⟨o, es, ep, ho, hd, r⟩ := hn
   obtain ⟨sl, e1⟩ := data _ o (Ne.symm fe.nl) (Ne.symm fT.nl) ho
   exact ⟨_, es, ep, e1, hd, r⟩
  ·obtain ⟨u, r, l⟩ := hl i x v e1 e2 e3
   refine ⟨u, r, ?_⟩
   rcases l with l | ⟨k, c, ec, z⟩
   ·exact .inl l
   ·exact .inr ⟨k, c, ec, cellK x c ec _ z⟩
 ·obtain ⟨v, z⟩ := I.cell x c ec
  exact ⟨v, cellK x c ec v z⟩
 ·obtain ⟨e1, n, ne, nf, d⟩ := I.pin p hp
  refine ⟨keep p.1 p.2 (fe.np p hp) (fT.np p hp) (fun z => ?_) e1, n, ne, nf, d⟩
  rcases List.mem_cons.mp (I.stkSub p.1 z) with z1 | z1
  ·exact ne z1
  ·exact nf z1
 ·have trk : ∀ b u, H b = some u → ∀ o, s.heap.get? b = some o → h'.get? b = some o := fun b u hu o e1 => by
   refine keep b o (fun z => by rw [z, fe.nt] at hu; cases hu) (fun z => by rw [z, fT.nt] at hu; cases hu) (fun z => ?_) e1
   rw [I.stkFree b z] at hu; cases hu
  refine (I.hok b u hu).stay (fun c v hc e1 => ?_) (fun _ z => z) fun _ _ z => z
  rcases hc with z | z
  ·exact trk c u (by rw [z]; exact hu) v e1
  ·exact trk c _ z v e1
noncomputable def hndCx (X : Cx) (e : Addr) : Cx := { X with A := X.A.mark (some (.ref e)), calm := false }
theorem Inv.hnd {pins : List (Addr × Obj)} {σ : St} {H : Hp} {s : Shared} (I : Inv X pins σ H s) (e : Addr) : Inv (hndCx X e) pins σ H s :=
 ⟨⟨I.ok.mod, I.ok.kind, I.ok.glob, I.ok.blt, I.ok.above, I.ok.inj, I.ok.has, I.ok.cab, fun h => absurd (show false = true from h) Bool.false_ne_true, I.ok.frames, I.ok.stk, I.ok.exf, I.ok.bs, I.ok.bsz, I.ok.noex, I.ok.exfs, I.ok.funs, I.ok.frf⟩,
  I.os, I.bare, I.base, I.loc, I.cell, I.free, I.freeC, I.pin, I.hok, I.len⟩
theorem Inv.unhnd {pins : List (Addr × Obj)} {σ : St} {H : Hp} {s : Shared} {e : Addr} (I : Inv (hndCx X e) pins σ H s) (ok : X.Ok) : Inv X pins σ H s :=
 ⟨ok, I.os, I.bare, I.base, I.loc, I.cell, I.free, I.freeC, I.pin, I.hok, I.len⟩
theorem SP.unhnd {pins : List (Addr × Obj)} {D : Ends} {f : Flow} {s' : Shared} {e : Addr} (h : SP (hndCx X e) pins D f s') (ok : X.Ok) : SP X pins D f s' := by
 cases f with
 | next => obtain ⟨σ', H', I, q⟩ := h; exact ⟨σ', H', I.unhnd ok, q⟩
 | brk => obtain ⟨σ', H', I, q⟩ := h; exact ⟨σ', H', I.unhnd ok, q⟩
 | cont => obtain ⟨σ', H', I, q⟩ := h; exact ⟨σ', H', I.unhnd ok, q⟩
 | ret u => obtain ⟨v, σ', H', I, r, q⟩ := h; exact ⟨v, σ', H', I.unhnd ok, r, q⟩
theorem fly_of {pins : List (Addr × Obj)} {σ : St} {H : Hp} {s : Shared} {e T : Addr} {cls a0 : Value} (I : Inv X pins σ H s) (hx : FlyT e T cls a0 s.heap) :
  Heap.FlyingW (PySem.W.hideAll s.heap (e :: T :: frs X.stack)) X.stack e cls a0 s.heap := by
 obtain ⟨oe, vs, oT, ts, x1, x2, x3, x4, x5, x6, x7, x8⟩ := hx
 exact ⟨fun b o e1 => PySem.W.of_hideAll _ e1, PySem.W.hideAll_none _ (by simp), funFrames_hide I _ fun b hb => by simp [hb], oe, vs, T, oT, ts, x1, x2, x3, x4, PySem.W.hideAll_none _ (by simp), x5, x6, x7, x8⟩
theorem Inv.flown {pins : List (Addr × Obj)} {σ : St} {H : Hp} {s : Shared} {e T : Addr} {h' : Heap} (I : Inv X pins σ H s) (hex : X.ex = []) (fe : FxOk X pins H e) (fT : FxOk X pins H T)
  (hst : (PySem.W.hideAll s.heap (e :: T :: frs X.stack)).StaysIn h') (hup : s.heap.UpToSlots h') : Inv X pins σ H { s with heap := h' } := by
 refine I.exc hex fe fT (fun b o h1 h2 h3 e1 => hst b o (PySem.W.hideAll_get _ e1 fun z => ?_)) fun b o hb e1 => hup b o e1 (I.fnd hb e1)
 rcases List.mem_cons.mp z with z | z
 ·exact h1 z
 ·rcases List.mem_cons.mp z with z | z
  ·exact h2 z
  ·exact h3 z
end
end L2
set_option maxHeartbeats 4000000
namespace L2
open PySem PySem.Spec PyProof.Rows
section
variable {X : Cx} {pins : List (Addr × Obj)} {σ : St} {H : Hp} {s : Shared} {A : Around} {E : Value → Shared → Prop} {a : Addr}
theorem d_setd {kvs : List (Key × V)} {k : Key} {d : V} {u r : Value} {Q : Value → Shared → Prop} (I : Inv X pins σ H s) (e : H a = some (.dK kvs)) (hl : kvs.length < sizeLine) (ry : RelV (kV k) u) (rd : RelV d r)
  (h1 : ∀ v w' s', valV kvs k = some v → Inv X pins σ H s' → RelV v w' → Q w' s') (h2 : valV kvs k = none → ∀ s', Inv X pins σ (upd H a (.dK (putK kvs k d))) s' → Q r s') :
  wpAny (model X.prog X.w) A (call (.builtin "dict.setdefault") [.ref a, u, r]) Q E s := by
 obtain ⟨z, hd, vs, rel, dd⟩ := dk_of I.hok e
 have hz : vs.length ≤ sizeLine := by rw [← rel.length]; exact z
 refine call_meetsIn PySem.F.slot_dict_setdefault dd.typeIs PySem.F.entry_dict_setdefault (PySem.F.args_dict_setdefault_3 _ _ _) (kt_meets_setdefault (mixKind X.prog X.w) a (kV_is ry) hd r) ⟨vs, dd, hz, fun v hv => ?_, fun hv h' dd' hs => ?_⟩
 ·have rel' := rel.val k
  rw [hv] at rel'
  cases q : valV kvs k with
  | none => rw [q] at rel'; exact rel'.elim
  | some y => rw [q] at rel'; exact h1 y v _ q (I.tok _) rel'
 ·have rel' := rel.val k
  rw [hv] at rel'
  cases q : valV kvs k with
  | some y => rw [q] at rel'; exact rel'.elim
  | none =>
   have he : ∃ q, h'.get? a = some q := let ⟨q, _, _, hq, _⟩ := dd'; ⟨q, hq⟩
   have hl2 : (putK kvs k d).length ≤ sizeLine := by have := length_putK kvs k d; omega
   exact h2 q _ (d_write I (by rw [e]; exact True.intro) hs he (dk_new hl2 hd (rel.put k rd) dd'))
end
noncomputable def tDSetd (td ty tx : TE) : TE := fun σ H Q => td σ H fun x H1 => ∃ a, x = .ref a ∧ IsD H1 a ∧ ty σ H1 fun y H2 => tx σ H2 fun z H3 => ∃ kvs k, H3 a = some (.dK kvs) ∧ kvs.length < sizeLine ∧ y = kV k ∧
 (∀ v, valV kvs k = some v → Q v H3) ∧ (valV kvs k = none → Q z (upd H3 a (.dK (putK kvs k z))))
section
variable {X : Cx} {o e f : Expr} {apos cpos : Pos} {td ty tx : TE}
theorem pe_dsetd (ho : PE X o td) (he : PE X e ty) (hf : PE X f tx) (m : M2 X o "setdefault" apos e f cpos) : PE X (.Call (.Attribute o "setdefault" apos) [e, f] [] cpos) (tDSetd td ty tx) := by
 intro pins s σ H Q I h
 refine wpAny_Call_method m.base m.few m.line PySem.F.plainAttrs_dict PySem.F.slot_dict_setdefault PySem.F.type_dict_setdefault (thn (ho pins s σ H _ I h) fun u s1 zz9 => ?_)
 obtain ⟨x, H1, I1, rx, a, ex, d, q1⟩ := zz9
 subst ex
 obtain rfl : u = Value.ref a := rx
 obtain ⟨t1, t2, _⟩ := isD_at I1 d
 refine ⟨t1, t2, ?_⟩
 rw [m.trees]
 refine Calls.callWith_builtin rfl (Calls.evalArgs_plain (Calls.spliced_cons (thn (he pins s1 σ H1 _ I1 q1) fun iv s2 ⟨y, H2, I2, ry, q2⟩ =>
  Calls.spliced_cons (thn (hf pins s2 σ H2 _ I2 q2) fun fv s3 ⟨z, H3, I3, rz, kvs, k, hk, hl, ey, q3, q4⟩ => Calls.spliced_nil ?_))))
 subst ey
 exact d_setd I3 hk hl ry rz (fun v w' s' hv I' rw' => ⟨v, H3, I', rw', q3 v hv⟩) fun hv s' I' => ⟨z, _, I', rz, q4 hv⟩
theorem ints_of_keys {P : Program} {w : World} {kvs : List (Key × V)} {vs : List (Key × Value)} {ks : List Int} (rel : KV kvs vs) (hk : kvs.map (·.1) = ks.map Sum.inl) {us : List Value} (hl : us.length = vs.length)
  (hu : ∀ (j : Nat) (v : Value), us[j]? = some v → ∃ k x, vs[j]? = some (k, x) ∧ (mixKind P w).is k v = true) : IntsAre us ks := by
 have hkl : kvs.length = ks.length := by have := congrArg List.length hk; simpa using this
 have hvl : kvs.length = vs.length := rel.length
 have key : ∀ (j : Nat) (v : Value), us[j]? = some v → ∃ i t, ks[j]? = some i ∧ v = Value.int i t := fun j v hv => by
  obtain ⟨k, x, hx, hi⟩ := hu j v hv
  have e1 : (vs.map (·.1))[j]? = some k := by rw [List.getElem?_map, hx]; rfl
  have e2 : vs.map (·.1) = kvs.map (·.1) := by
   clear hk hl hu hkl hvl hx hi e1
   induction rel with
   | nil => rfl
   | cons r t ih => rw [List.map_cons, List.map_cons, ih, r.1]
  rw [e2, hk, List.getElem?_map] at e1
  cases q : ks[j]? with
  | none => rw [q] at e1; cases e1
  | some i =>
   rw [q] at e1
   have e3 : Sum.inl i = k := Option.some.inj e1
   subst e3
   obtain ⟨t, ht⟩ := Value.isInt_shape (k := i) (v := v) hi
   exact ⟨i, t, rfl, ht⟩
 have gen : ∀ (us : List Value) (ks : List Int), us.length = ks.length → (∀ (j : Nat) (v : Value), us[j]? = some v → ∃ i t, ks[j]? = some i ∧ v = Value.int i t) → IntsAre us ks := by
  intro us
  induction us with
  | nil =>
   intro ks hl _
   cases ks with
   | nil => exact .nil
   | cons _ _ => simp at hl
  | cons u r ih =>
   intro ks hl h
   cases ks with
   | nil => simp at hl
   | cons i ks =>
    obtain ⟨i', t, e1, e2⟩ := h 0 u rfl
    have e1' : i = i' := by simpa using e1
    subst e1' e2
    exact .cons i t (ih ks (by simpa using hl) fun j v hv => h (j + 1) v (by simpa using hv))
 exact gen us ks (by omega) key
theorem call_sortedD (hc : X.calm = true) : CallR X (.builtin "sorted") (fun xs H Q => ∃ (d : Addr) (kvs : List (Key × V)) (ks : List Int), xs = [.ref d] ∧ Rd H d (.dK kvs) ∧ kvs.map (·.1) = ks.map Sum.inl ∧ ks.length < 64 ∧
  ∀ (p : Addr) (out : List Int), H p = none → out.Perm ks → out.Pairwise (· ≤ ·) → Q (.ref p) (upd H p (.lst (out.map V.int)))) := by
 intro pins s σ H xs us Q I r h
 obtain ⟨d, kvs, ks, rfl, hd, hk, h64, q⟩ := h
 obtain ⟨u, rfl, ru⟩ := vals1 r
 obtain rfl : u = Value.ref d := ru
 obtain ⟨z, hsys, vs, rel, dd⟩ := dk_rd I.hok hd
 obtain ⟨ep, hat⟩ := dd.dictAt
 have hlen : vs.length = ks.length := by have := congrArg List.length hk; rw [List.length_map, List.length_map] at this; have := rel.length; omega
 have hn : vs.length ≤ sizeLine := by rw [sizeLine_eq]; omega
 refine Calls.call_function_entry kind_sorted plain_sorted entry_sorted (args_sorted1 _) ?_
 unfold Builtin.«sorted»
 refine wpAny_bind (m := checkCount "sorted" 1 1 _) (wpAny_pure ?_)
 refine wpAny_bind (PySem.W.kdu_collect (A := X.A.in1) (PySem.W.kdl_dict (knd := mixKind X.prog X.w) (kvs := vs) (ep := ep) hsys) (I.ok.hd hc) hat hn fun h' tk acc hk' hacc => ?_)
 have hl : acc.toList.length = vs.length := by rw [Array.length_toList]; exact hacc.1
 have hI : IntsAre acc.toList ks := ints_of_keys (P := X.prog) (w := X.w) rel hk hl fun j v hv => hacc.2 j v (by rw [← Array.getElem?_toList]; exact hv)
 refine wpAny_bind (wpAny_newList ?_ (by rw [hl]; exact hn))
 have I1 : Inv X pins σ H { s with heap := h', toks := tk } := I.kept hk'
 have hoL : (h'.push { cls := .type "list", data := .seq acc.toList.toArray }).get? h'.objs.size = some (seqObj "list" acc.toList.toArray 0) := Heap.get?_push_size _ rfl
 refine wpAny_bind (wpAny_holding (wpAny_call_entry slot_list_sort ⟨_, hoL, rfl⟩ entry_list_sort (list_sort_tree hoL hI (by omega) fun out ns' a1 a2 a3 => ⟨_, rfl, ?_⟩) (args_list_sort _)))
 refine wpAny_pure ⟨_, rfl, ?_⟩
 obtain ⟨e, he⟩ := sortedHeap_at (out := out) hoL
 have kp : ∀ b u, h'.get? b = some u → (sortedHeap (h'.push { cls := .type "list", data := .seq acc.toList.toArray }) h'.objs.size acc.toList out).get? b = some u := fun b u hb => by
  have hlt : b < h'.objs.size := Heap.lt_size hb
  rw [sortedHeap_old (Nat.ne_of_lt hlt) (by rw [Heap.size_push]; exact Nat.lt_succ_of_lt hlt)]
  exact Heap.get?_push_of_some _ hb
 have hv : Vals (ns'.map V.int) out.toList := by
  clear he kp
  generalize out.toList = l at a1
  clear a2 a3
  induction a1 with
  | nil => exact .nil
  | cons i t _ ih => exact .cons ⟨_, rfl⟩ ih
 refine ⟨.ref h'.objs.size, upd H h'.objs.size (.lst (ns'.map V.int)), I1.laid kp (Nat.le_refl _) ?_, rfl, q _ ns' I1.fresh a2 a3⟩
 refine ⟨?_, out.toList, e, hv, ?_⟩
 ·rw [List.length_map, a2.length_eq, sizeLine_eq]; omega
 ·rw [he]
end
end L2
set_option maxHeartbeats 4000000
namespace L2
open PySem PySem.Spec PyProof.Rows
section
variable {X : Cx} {pins : List (Addr × Obj)} {σ : St} {H : Hp} {s : Shared} {a : Addr}
theorem Inv.freeze {u : HO} {ob : Obj} (I : Inv X pins σ H s) (e : H a = some u) (mu : Mut (some u)) (ho : s.heap.get? a = some ob) : Inv X pins σ (upd H a (.frz ob u)) s := by
 have nown : ∀ c y, H c = some (.own y) → c ≠ a := fun c y r z => by subst z; rw [r] at e; cases e; exact mu
 have ntup : ∀ c xs, H c = some (.tup xs) → c ≠ a := fun c xs r z => by subst z; rw [r] at e; cases e; exact mu
 have nfrz : ∀ c o xs, H c = some (.frz o xs) → c ≠ a := fun c o xs r z => by subst z; rw [r] at e; cases e; exact mu
 have ntbl : ∀ c ps, H c = some (.tbl ps) → c ≠ a := fun c ps r z => by subst z; rw [r] at e; cases e; exact mu
 have un : Un X.fs [] H (upd H a (.frz ob u)) s.heap s.heap := ⟨fun _ _ q _ _ _ => q, fun _ o q _ _ _ => ⟨o.slots, q⟩, fun b o q n _ => by rw [upd_ne (fun z => by rw [z, e] at n; cases n)]; exact n, fun b o q _ => ⟨o, q⟩,
  fun b xs q => by rw [upd_ne (ntup b xs q)]; exact q, fun b o xs q => by rw [upd_ne (nfrz b o xs q)]; exact q, fun b ps q => ⟨#[], by rw [upd_ne (ntbl b ps q), q]; simp⟩⟩
 have hok : HOk X.prog X.w (upd H a (.frz ob u)) s.heap := fun b v q => by
  have st : ∀ c w', ObjOk X.prog X.w H s.heap c w' → ObjOk X.prog X.w (upd H a (.frz ob u)) s.heap c w' := fun c w' x => x.stay (fun _ _ _ q => q) (fun d r => by rw [upd_ne (nown d c r)]; exact r) fun d xs r => by rw [upd_ne (ntup d xs r)]; exact r
  by_cases hb : b = a
  ·subst hb
   rw [upd_same] at q
   cases q
   exact ⟨ho, st _ _ (I.hok _ _ e)⟩
  ·rw [upd_ne hb] at q
   exact st _ _ (I.hok b v q)
 exact I.un (h' := s.heap) (t' := s.toks) un hok
end
section
theorem KV.at {kvs : List (Key × V)} {vs : List (Key × Value)} (r : KV kvs vs) : ∀ {i : Nat} {k : Key} {v : V}, kvs[i]? = some (k, v) → ∃ u, vs[i]? = some (k, u) ∧ RelV v u := by
 induction r with
 | nil => intro i k v h; simp at h
 | cons r t ih =>
  intro i k v h
  cases i with
  | zero =>
   simp at h
   subst h
   exact ⟨_, by rw [List.getElem?_cons_zero]; exact congrArg some (Prod.ext r.1.symm rfl), r.2⟩
  | succ i =>
   obtain ⟨u, h1, h2⟩ := ih (by simpa using h)
   exact ⟨u, by simpa using h1, h2⟩
theorem kV_of {P : Program} {w : World} {k : Key} {u : Value} (h : (mixKind P w).is k u = true) : RelV (kV k) u := by
 cases k with
 | inl i => obtain ⟨t, e⟩ := Value.isInt_shape (k := i) (v := u) h; exact ⟨t, e⟩
 | inr x => obtain ⟨t, e⟩ := Value.isStrOf_shape (x := x) (v := u) h; exact ⟨t, e⟩
theorem frz_dict {X : Cx} {pins : List (Addr × Obj)} {σ : St} {H : Hp} {s : Shared} {d : Addr} {o : Obj} {kvs : List (Key × V)} (I : Inv X pins σ H s) (e : H d = some (.frz o (.dK kvs))) :
  ∃ vs ep, KV kvs vs ∧ s.heap.DictAt (mixKind X.prog X.w) d vs ep ∧ s.heap.get? d = some o := by
 obtain ⟨ho, _, _, vs, rel, dd⟩ := I.hok d _ e
 obtain ⟨ep, da⟩ := dd.dictAt
 exact ⟨vs, ep, rel, da, ho⟩
noncomputable def epOf (o : Obj) : Nat := match o.data with
 | .dict _ ep => ep
 | _ => 0
theorem ep_of {P : Program} {w : World} {h : Heap} {d : Addr} {o : Obj} {vs : List (Key × Value)} {ep : Nat} (da : h.DictAt (mixKind P w) d vs ep) (ho : h.get? d = some o) : ep = epOf o := by
 obtain ⟨o', es, h1, _, h2, _⟩ := da
 rw [ho] at h1
 cases h1
 unfold epOf
 rw [h2]
theorem turn_vals {P : Program} {w : World} {K : PySem.W.Frag} {tg : Expr} (d it : Addr) (kvs : List (Key × V)) (o : Obj) :
  Turn P w K tg ⟨fun i H => i < kvs.length ∧ H d = some (.frz o (.dK kvs)), fun i H x H' => H' = H ∧ ∃ k, kvs[i]? = some (k, x), fun i H => kvs.length ≤ i ∧ H d = some (.frz o (.dK kvs))⟩ [it] it (fun i h => h.IsValIter it d i kvs.length (epOf o)) where
 mem := by simp
 obj := fun i h st b hb => by
  have e : b = it := by simpa using hb
  subst e
  obtain ⟨o, e, c, d⟩ := st
  exact ⟨o, e, fun v z => by rw [d] at z; cases z⟩
 keep := fun i h h' st k => st.at fun o e => k it (by simp) o e
 item := by
  intro X hP hw hK hc i pins s σ H E I hf st hg
  subst hP hw hK
  obtain ⟨hi, hq⟩ := hg
  obtain ⟨vs, ep, rel, da, ho⟩ := frz_dict I hq
  have hep := ep_of da ho
  subst hep
  obtain ⟨f0, f1, f2, f3, f4, f5⟩ := hf it (by simp)
  obtain ⟨⟨k, v⟩, hx⟩ : ∃ p, kvs[i]? = some p := ⟨_, List.getElem?_eq_getElem hi⟩
  obtain ⟨u, hu, ru⟩ := rel.at hx
  have hlen : vs.length = kvs.length := rel.length.symm
  rw [← hlen] at st
  refine wpAny_pyNext_values_item st da hu fun h' st' sb => ?_
  have I1 : Inv X pins σ H { s with heap := h' } := I.turned (t' := s.toks) (fun b o hb e => (sb.2 b hb).trans e) f0 f1 f3 f4 f5
  rw [hlen] at st'
  obtain ⟨oi, e, c, dd⟩ := id st'
  exact ⟨u, rfl, go_of (s := { s with heap := h' }) e c dd (by decide) ⟨v, H, I1, ru, ⟨rfl, k, hx⟩, st', fun b hb => (hf b hb).1⟩⟩
 done := by
  intro X hP hw hK hc i pins s σ H E I hf st hg
  subst hP hw hK
  obtain ⟨hi, hq⟩ := hg
  obtain ⟨vs, ep, rel, da, ho⟩ := frz_dict I hq
  have hep := ep_of da ho
  subst hep
  obtain ⟨f0, f1, f2, f3, f4, f5⟩ := hf it (by simp)
  have hlen : vs.length = kvs.length := rel.length.symm
  rw [← hlen] at st
  exact wpAny_pyNext_values_end (I.ok.hd hc) st da (by rw [List.getElem?_eq_none]; omega) fun h' eb => ⟨rfl, I.turned (t' := s.toks) (fun b o hb e => eb b o hb e) f0 f1 f3 f4 f5⟩
 self := fun _ _ _ _ _ st h => wpAny_pyIter_valiter st h
end
end L2
set_option maxHeartbeats 4000000
namespace L2
open PySem PySem.Spec PyProof.Rows
section
variable {X : Cx} {tg : Expr} {l : Expr} {tl : TE}
noncomputable def Itv2 (d : Addr) (kvs : List (Key × V)) (o : Obj) : It := ⟨fun i H => i < kvs.length ∧ H d = some (.frz o (.dK kvs)), fun i H x H' => H' = H ∧ ∃ k, kvs[i]? = some (k, x), fun i H => kvs.length ≤ i ∧ H d = some (.frz o (.dK kvs))⟩
noncomputable def iDict (J : Addr → List (Key × V) → Obj → It) (tl : TE) : TI := fun σ H R => tl σ H fun x H1 => ∃ a kvs, x = .ref a ∧ ((H1 a = some (.dK kvs) ∧ ∀ o, R (J a kvs o) (upd H1 a (.frz o (.dK kvs)))) ∨ ∃ o, H1 a = some (.frz o (.dK kvs)) ∧ R (J a kvs o) H1)
theorem dict_frz {pins : List (Addr × Obj)} {σ : St} {H : Hp} {s : Shared} {a : Addr} {kvs : List (Key × V)} {R : Obj → Hp → Prop} (I : Inv X pins σ H s)
  (h : (H a = some (.dK kvs) ∧ ∀ o, R o (upd H a (.frz o (.dK kvs)))) ∨ ∃ o, H a = some (.frz o (.dK kvs)) ∧ R o H) : ∃ o H', H' a = some (.frz o (.dK kvs)) ∧ Inv X pins σ H' s ∧ R o H' := by
 rcases h with ⟨e, r⟩ | ⟨o, e, r⟩
 ·obtain ⟨ob, ho⟩ := (I.hok a _ e).there
  exact ⟨ob, _, upd_same, I.freeze e True.intro ho, r ob⟩
 ·exact ⟨o, H, e, I, r⟩
structure M0 (X : Cx) (o : Expr) (m : Str) (apos cpos : Pos) : Prop where
 base : attributeBase o m X.env (eval o X.env) = eval o X.env
 few : ((backTo cpos (starEach [] X.env)).all (fun x => !x.1) && (backToKw cpos (keywordEach [] X.env)).all (fun x => x.1.isSome)
  && decide (([] : List Expr).length + ([] : List Keyword).length + (if ([] : List Keyword).isEmpty then 0 else 1) < 30)) = true
 line : (apos.endLine == cpos.line) = true
theorem pi_vals {apos cpos : Pos} (hl : PE X l tl) (m : M0 X l "values" apos cpos) : PI X tg (.Call (.Attribute l "values" apos) [] [] cpos) (iDict Itv2 tl) := by
 intro pins s σ H R I h
 refine wpAny_Call_method m.base m.few m.line PySem.F.plainAttrs_dict PySem.F.slot_dict_values PySem.F.type_dict_values (thn (hl pins s σ H _ I h) fun v s1 zz9 => ?_)
 obtain ⟨x, H1, I1, r1, q1⟩ := zz9
 obtain ⟨a, kvs, e, q⟩ := q1
 subst e
 cases r1
 obtain ⟨o, H2, e2, I2, q2⟩ := dict_frz (R := fun o H => R (Itv2 a kvs o) H) I1 q
 obtain ⟨vs, ep, rel, da, ho⟩ := frz_dict I2 e2
 have hep := ep_of da ho
 subst hep
 obtain ⟨_, _, hsys, _⟩ := I2.hok a _ e2
 have isd : IsD H2 a := .inl ⟨kvs, .inr ⟨o, e2⟩⟩
 obtain ⟨t1, t2, _⟩ := isD_at I2 isd
 refine ⟨t1, t2, ?_⟩
 refine Calls.callWith_builtin rfl (PyProof.Rows.evalArgs_empty ?_)
 refine call_meetsIn PySem.F.slot_dict_values da.dictOf.typeIs PySem.F.entry_dict_values (PySem.F.args_dict_values_1 _) (meets_dict_values (mixKind X.prog X.w) a hsys) ⟨⟨vs, da.dictOf⟩, ?_⟩
 have I3 : Inv X pins σ H2 { s1 with heap := s1.heap.push { cls := .type "dict_values", data := .fields #[.ref a] } } := I2.kept (t' := s1.toks) fun b o e => Heap.get?_push_of_some _ e
 refine wpAny_pyIter_values ⟨_, Heap.get?_push_size _ rfl, rfl, rfl⟩ (da.push _) ?_
 have hlen : vs.length = kvs.length := rel.length.symm
 rw [hlen]
 refine ⟨(s1.heap.push { cls := .type "dict_values", data := .fields #[.ref a] }).objs.size, [(s1.heap.push { cls := .type "dict_values", data := .fields #[.ref a] }).objs.size], _, _, H2, rfl, I3.kept (t' := s1.toks) fun b o e => Heap.get?_push_of_some _ e, turn_vals a _ kvs o, ⟨_, Heap.get?_push_size _ rfl, rfl, rfl⟩, fun b hb => ?_, q2⟩
 have e : b = (s1.heap.push { cls := .type "dict_values", data := .fields #[.ref a] }).objs.size := by simpa using hb
 subst e
 exact I3.fpOk (Nat.le_refl _) (I3.hok.fresh (Nat.le_refl _))
end
section
noncomputable def Ite (K : PySem.W.Frag) (a : Addr) : It :=
 ⟨fun i H => ∃ xs x, SqL K H a xs ∧ xs[i]? = some x, fun i H x H' => ∃ q y, H q = none ∧ x = .ref q ∧ (∀ xs, SqL K H a xs → xs[i]? = some y) ∧ H' = upd H q (.tup [.int i, y]), fun i H => ∃ xs, SqL K H a xs ∧ xs.length ≤ i⟩
theorem turn_enum {P : Program} {w : World} {K : PySem.W.Frag} {elts : List Expr} {x1 : Nat} {pos : Pos} (a e it : Addr) (hne : e ≠ it) : Turn P w K (.Tuple elts x1 pos) (Ite K a) [e, it] e (fun i h => (∃ old, IsEnum h e it i old) ∧ h.IsListIter it a i) where
 mem := by simp
 obj := fun i h st b hb => by
  obtain ⟨⟨old, h1⟩, o, h2, c, d⟩ := st
  rcases List.mem_cons.mp hb with z | z
  ·subst z
   exact ⟨_, h1, fun v z => by
    have z' : Data.fields _ = Data.cell v := z
    cases z'⟩
  ·have z : b = it := by simpa using z
   subst z
   exact ⟨o, h2, fun v z => by rw [d] at z; cases z⟩
 keep := fun i h h' st k => ⟨let ⟨old, h1⟩ := st.1; ⟨old, k e (by simp) _ h1⟩, st.2.at fun o q => k it (by simp) o q⟩
 item := by
  intro X hP hw hK hc i pins s σ H E I hf st hg
  subst hP hw hK
  obtain ⟨xs, x, hq, hx⟩ := hg
  obtain ⟨its, rv, p, hz⟩ := I.list hq
  obtain ⟨u, hu, ru⟩ := rv.get hx
  obtain ⟨f0, f1, f2, f3, f4, f5⟩ := hf e (by simp)
  obtain ⟨g0, g1, g2, g3, g4, g5⟩ := hf it (by simp)
  obtain ⟨⟨old, he⟩, hit⟩ := st
  refine wpAny_pyNext_enum_item he hit p.isList (x := u) (by simpa using hu) hne fun h' ho' hit' ht' hsz' kk => ?_
  have eo := Heap.lt_size he
  have io : it < s.heap.objs.size := let ⟨o, q, _⟩ := hit; Heap.lt_size q
  refine ⟨.ref s.heap.objs.size, rfl, wpAny_letOwnedTupleGo_enum ho' fun h'' he'' sb => ?_⟩
  have keepb : ∀ b o, b ≠ e → b ≠ it → s.heap.get? b = some o → h''.get? b = some o := fun b o h1 h2 q => (sb.2 b h1).trans (kk b o h1 h2 q)
  have ht'' : h''.get? s.heap.objs.size = some { cls := .type "tuple", data := .seq #[.int i s.toks, u] } := (sb.2 _ (Nat.ne_of_gt eo)).trans ht'
  have hn : H s.heap.objs.size = none := I.hok.fresh (Nat.le_refl _)
  have I2 : Inv X pins σ (upd H s.heap.objs.size (.tup [.int i, x])) { s with heap := h'', toks := s.toks + 1 } := by
   refine I.step (g' := s.gens) (d' := s.drawn) (ch := [e, it]) (fun b hb => ?_) (fun b o _ _ hc q _ => keepb b o (fun z => hc (by simp [z])) (fun z => hc (by simp [z])) q) (fun b o _ _ hc q _ => ⟨o.slots, keepb b o (fun z => hc (by simp [z])) (fun z => hc (by simp [z])) q⟩) (fun b o _ q n => by rw [upd_ne (Nat.ne_of_lt (Heap.lt_size q))]; exact n)
    (fun b o hc q => ⟨o, keepb b o (fun z => hc (by simp [z])) (fun z => hc (by simp [z])) q⟩) (fun b ys q => by rw [upd_ne (ne_of_none q hn)]; exact q) (fun b o ys q => by rw [upd_ne (ne_of_none q hn)]; exact q) (fun b ps q => ⟨#[], by rw [upd_ne (ne_of_none q hn), q]; simp⟩) (fun m hm => ?_) (fun b v q => ?_) I.bare
   ·rcases List.mem_cons.mp hb with z | z
    ·subst z; exact ⟨f3, f1, f4, f5⟩
    ·have z : b = it := by simpa using z
     subst z; exact ⟨g3, g1, g4, g5⟩
   ·obtain ⟨o, es, ep, ho, r⟩ := hm
    exact ⟨o, es, ep, keepb _ o (Ne.symm f1) (Ne.symm g1) ho, r⟩
   ·by_cases hb : b = s.heap.objs.size
    ·subst hb
     rw [upd_same] at q
     cases q
     exact ⟨by show 2 ≤ sizeLine; decide, [.int i s.toks, u], .cons ⟨_, rfl⟩ (.cons ru .nil), ⟨_, ht'', rfl, _, rfl⟩⟩
    ·rw [upd_ne hb] at q
     refine (I.hok b v q).stay (fun c w' hc z => keepb c w' ?_ ?_ z) (fun d z => by rw [upd_ne (ne_of_none z hn)]; exact z) fun d ys z => by rw [upd_ne (ne_of_none z hn)]; exact z
     ·rintro rfl
      rcases hc with z | z
      ·rw [z, q] at f0; cases f0
      ·rw [f0] at z; cases z
     ·rintro rfl
      rcases hc with z | z
      ·rw [z, q] at g0; cases g0
      ·rw [g0] at z; cases z
  refine ⟨.ref s.heap.objs.size, _, I2, rfl, ⟨_, x, hn, rfl, fun ys hy => by rw [I.list_inj hy hq]; exact hx, rfl⟩, ⟨⟨u, he''⟩, hit'.at fun o q => (sb.2 it (Ne.symm hne)).trans q⟩, fun b hb => ?_⟩
  rcases List.mem_cons.mp hb with z | z
  ·subst z; rw [upd_ne (Nat.ne_of_lt eo)]; exact f0
  ·have z : b = it := by simpa using z
   subst z; rw [upd_ne (Nat.ne_of_lt io)]; exact g0
 done := by
  intro X hP hw hK hc i pins s σ H E I hf st hg
  subst hP hw hK
  obtain ⟨xs, hq, hx⟩ := hg
  obtain ⟨its, rv, p, hz⟩ := I.list hq
  obtain ⟨g0, g1, g2, g3, g4, g5⟩ := hf it (by simp)
  obtain ⟨⟨old, he⟩, hit⟩ := st
  have hl := rv.length
  exact wpAny_pyNext_enum_end (I.ok.hd hc) he hit p.isList (by simp; omega) fun h' eb => ⟨rfl, I.turned (t' := s.toks) (fun b o hb e => eb b o hb e) g0 g1 g3 g4 g5⟩
 self := fun _ _ _ _ _ st h => by
  obtain ⟨⟨old, he⟩, _⟩ := st
  exact wpAny_pyIter_enum he h
variable {X : Cx}
noncomputable def iEnum (K : PySem.W.Frag) (ta : TA) : TI := fun σ H R => ta σ H fun vs H1 => ∃ a, vs = [.ref a] ∧ (∃ xs, SqL K H1 a xs) ∧ R (Ite K a) H1
theorem pi_enum {elts : List Expr} {x1 : Nat} {tpos p pos : Pos} {l : Expr} {ta : TA} (hg : Gl X "enumerate") (hm : X.mg "enumerate" = none) (ha : PA X [l] ta) (hs : starEach [l] X.env = [(false, eval l X.env)] := by rfl) : PI X (.Tuple elts x1 tpos) (.Call (.Name "enumerate" p) [l] [] pos) (iEnum X.K ta) := by
 intro pins s σ H R I h
 refine Call_ (ld_blt I hg hm boot_enumerate (PyProof.Rows.callWith_type1 (thn (ha pos pins s σ H _ I h) fun us s1 zz32 => ?_) hs rfl))
 obtain ⟨vs, H1, I1, r1, q1⟩ := zz32
 obtain ⟨a, e, ⟨xs, hq⟩, q⟩ := q1
 subst e
 obtain ⟨u, rfl, ru⟩ := vals1 r1
 cases ru
 obtain ⟨its, rv, pl, hz⟩ := I1.list hq
 refine call_enumerate_list pl.isList fun h' he hit hsz hk => wpAny_pyIter_enum he ?_
 have I2 : Inv X pins σ H1 { s1 with heap := h' } := I1.kept (t' := s1.toks) hk
 refine ⟨s1.heap.objs.size + 1, [s1.heap.objs.size + 1, s1.heap.objs.size], _, _, H1, rfl, I2, turn_enum a _ _ (Nat.succ_ne_self _), ⟨⟨.none, he⟩, hit⟩, fun b hb => ?_, q⟩
 rcases List.mem_cons.mp hb with z | z
 ·subst z; exact I1.fpOk (Nat.le_succ _) (I1.hok.fresh (Nat.le_succ _))
 ·have z : b = s1.heap.objs.size := by simpa using z
  subst z; exact I1.fpOk (Nat.le_refl _) (I1.hok.fresh (Nat.le_refl _))
theorem for_enum {K : PySem.W.Frag} {a : Addr} {xs : List V} {g : TG} {tb : TS} {D : Ends} {σ : St} {H : Hp} (Pv : Nat → St → Hp → Prop) (h0 : Pv 0 σ H) (hl : ∀ i σ H, i ≤ xs.length → Pv i σ H → SqL K H a xs)
  (hs : ∀ i x σ H q, xs[i]? = some x → H q = none → Pv i σ H → g (.ref q) σ (upd H q (.tup [.int i, x])) fun σ2 H2 => tb { D with nx := Pv (i + 1), ct := Pv (i + 1), bk := D.nx } σ2 H2) (hd : ∀ σ H, Pv xs.length σ H → D.nx σ H) :
  ∃ W : Nat → Nat → St → Hp → Prop, (∃ m, W 0 m σ H) ∧ ∀ i m σ H, W i m σ H →
   ((Ite K a).stop i H ∧ D.nx σ H) ∨ ((Ite K a).go i H ∧ ∃ N : St → Hp → Prop, (∀ σ' H', N σ' H' → ∃ m', m' < m ∧ W (i + 1) m' σ' H') ∧ ∀ x H', (Ite K a).yld i H x H' → g x σ H' fun σ2 H2 => tb { D with nx := N, ct := N, bk := D.nx } σ2 H2) := by
 refine ⟨fun i m σ H => m = xs.length - i ∧ i ≤ xs.length ∧ Pv i σ H, ⟨xs.length, by simp, Nat.zero_le _, h0⟩, ?_⟩
 rintro i m σ H ⟨rfl, hi, p⟩
 have q := hl i σ H hi p
 by_cases hlt : i < xs.length
 ·refine .inr ⟨⟨xs, xs[i], q, by simp [hlt]⟩, Pv (i + 1), fun σ' H' p' => ⟨xs.length - (i + 1), by omega, rfl, hlt, p'⟩, fun x H' y => ?_⟩
  obtain ⟨c, z, hn, e1, e2, e3⟩ := y
  subst e1 e3
  exact hs i z σ H c (e2 xs q) hn p
 ·have e : i = xs.length := by omega
  subst e
  exact .inl ⟨⟨xs, q, Nat.le_refl _⟩, hd σ H p⟩
theorem for_vals {d : Addr} {kvs : List (Key × V)} {o : Obj} {g : TG} {tb : TS} {D : Ends} {σ : St} {H : Hp} (Pv : Nat → St → Hp → Prop) (h0 : Pv 0 σ H) (hl : ∀ i σ H, i ≤ kvs.length → Pv i σ H → H d = some (.frz o (.dK kvs)))
  (hs : ∀ i k x σ H, kvs[i]? = some (k, x) → Pv i σ H → g x σ H fun σ2 H2 => tb { D with nx := Pv (i + 1), ct := Pv (i + 1), bk := D.nx } σ2 H2) (hd : ∀ σ H, Pv kvs.length σ H → D.nx σ H) :
  ∃ W : Nat → Nat → St → Hp → Prop, (∃ m, W 0 m σ H) ∧ ∀ i m σ H, W i m σ H →
   ((Itv2 d kvs o).stop i H ∧ D.nx σ H) ∨ ((Itv2 d kvs o).go i H ∧ ∃ N : St → Hp → Prop, (∀ σ' H', N σ' H' → ∃ m', m' < m ∧ W (i + 1) m' σ' H') ∧ ∀ x H', (Itv2 d kvs o).yld i H x H' → g x σ H' fun σ2 H2 => tb { D with nx := N, ct := N, bk := D.nx } σ2 H2) := by
 refine ⟨fun i m σ H => m = kvs.length - i ∧ i ≤ kvs.length ∧ Pv i σ H, ⟨kvs.length, by simp, Nat.zero_le _, h0⟩, ?_⟩
 rintro i m σ H ⟨rfl, hi, p⟩
 have q := hl i σ H hi p
 by_cases hlt : i < kvs.length
 ·refine .inr ⟨⟨hlt, q⟩, Pv (i + 1), fun σ' H' p' => ⟨kvs.length - (i + 1), by omega, rfl, hlt, p'⟩, fun x H' y => ?_⟩
  obtain ⟨e, k, y⟩ := y
  subst e
  exact hs i k x σ _ y p
 ·have e : i = kvs.length := by omega
  subst e
  exact .inl ⟨⟨Nat.le_refl _, q⟩, hd σ H p⟩
noncomputable def tLRange (ta : TA) : TE := fun σ H Q => ta σ H fun vs H1 => ∃ n : Nat, vs = [.int n] ∧ n ≤ 1000 ∧ ∀ p, H1 p = none → Q (.ref p) (upd H1 p (.lst ((List.range n).map fun (i : Nat) => V.int i)))
theorem pe_listRange {a : Expr} {ta : TA} {p1 p2 pos pos2 : Pos} (hgl : Gl X "list") (hml : X.mg "list" = none) (hg : Gl X "range") (hm : X.mg "range" = none) (hc : X.calm = true) (ha : PA X [a] ta) (hs : starEach [a] X.env = [(false, eval a X.env)] := by rfl)
  (hs2 : starEach [.Call (.Name "range" p2) [a] [] pos2] X.env = [(false, eval (.Call (.Name "range" p2) [a] [] pos2) X.env)] := by rfl) : PE X (.Call (.Name "list" p1) [.Call (.Name "range" p2) [a] [] pos2] [] pos) (tLRange ta) := by
 intro pins s σ H Q I h
 refine Call_ (ld_blt I hgl hml PySem.Pv.boot_list (PyProof.Rows.callWith_type1 ?_ hs2 rfl))
 rw [hs2]
 refine Calls.spliced_cons ?_
 refine Call_ (ld_blt I hg hm boot_range (PyProof.Rows.callWith_type1 (thn (ha pos2 pins s σ H _ I h) fun us s1 zz33 => ?_) hs rfl))
 obtain ⟨vs, H1, I1, r1, q1⟩ := zz33
 obtain ⟨n, e, hn, q⟩ := q1
 subst e
 obtain ⟨u, rfl, ru⟩ := vals1 r1
 obtain ⟨t, rfl⟩ := ru
 refine call_range_1 (Calls.spliced_nil ?_)
 have hr : Builtin.Range.rangeSize 0 (n : Int) 1 = n := by rw [rangeSize_one]; split <;> omega
 refine call_list_range (I.ok.hd hc) (IsRange.new ..) (small_one (by omega) (by omega) (by omega) (by omega)) hr (by omega) fun h' tk acc c' hk hS hacc => ?_
 have hk1 : ∀ b o, s1.heap.get? b = some o → h'.get? b = some o := fun b o e => hk b o (Heap.get?_push_of_some _ e)
 have hv : Vals ((List.range n).map fun (i : Nat) => V.int i) acc.toList := by
  have gen : ∀ (l : List Value) (k : Nat), (∀ (j : Nat) (v : Value), l[j]? = some v → ∃ t, v = .int ((k + j : Nat) : Int) t) → Vals ((List.range' k l.length).map fun (i : Nat) => V.int i) l := by
   intro l
   induction l with
   | nil => intro k _; exact .nil
   | cons v r ih =>
    intro k h
    obtain ⟨t, e⟩ := h 0 v rfl
    rw [List.length_cons, List.range'_succ, List.map_cons]
    refine .cons ⟨t, by rw [e]; rfl⟩ (ih (k + 1) fun j w hw => ?_)
    obtain ⟨t', e'⟩ := h (j + 1) w (by simpa using hw)
    exact ⟨t', by rw [e']; congr 1; omega⟩
  have hl : acc.toList.length = n := by rw [Array.length_toList]; exact hacc.1
  have := gen acc.toList 0 fun j v hj => by
   obtain ⟨t, e⟩ := hacc.2 j v (by rw [← Array.getElem?_toList]; exact hj)
   exact ⟨t, by rw [e]; congr 1; omega⟩
  rw [hl, ← List.range_eq_range'] at this
  exact this
 have hle : s1.heap.objs.size ≤ (s1.heap.push { cls := .type "range", data := .fields #[.int 0 s1.toks, .int (n : Int) t, .int 1 (s1.toks + 1)] }).objs.size := by rw [Heap.size_push]; exact Nat.le_succ _
 refine ⟨.ref _, upd H1 _ (.lst ((List.range n).map fun (i : Nat) => V.int i)), I1.laid hk1 (Nat.le_of_lt (by first | exact Nat.lt_of_le_of_lt hle (Heap.lt_size hS) | (rw [Heap.size_push]; exact Nat.lt_succ_self _))) ⟨?_, acc.toList, c', hv, ?_⟩, rfl, q _ (I1.hok.fresh ?_)⟩
 ·rw [List.length_map, List.length_range, sizeLine_eq]; omega
 ·simpa using hS
 ·rw [Heap.size_push]; exact Nat.le_succ _
end
end L2
set_option maxHeartbeats 4000000
namespace L2
open PySem PySem.Spec PyProof.Rows
noncomputable abbrev TJ := Str → TE
noncomputable def PJ (X : Cx) (es : List Expr) (t : TJ) : Prop :=
 ∀ (out : Str) (pins : List (Addr × Obj)) (s : Shared) (σ : St) (H : Hp) (Q : VK), Inv X pins σ H s → t out σ H Q → wpAny (model X.prog X.w) X.A (joinParts out (evalEach es X.env)) (EP X pins σ Q) X.xe s
section
variable {X : Cx} {es : List Expr} {t : TJ} {pos : Pos}
noncomputable def jNil : TJ := fun out _ H Q => out.length ≤ sizeLine ∧ Q (.str out) H
theorem pj_nil : PJ X [] jNil := fun out pins s σ H Q I h => joinParts_nil (⟨.str out, H, I.tok _, ⟨_, rfl⟩, h.2⟩) h.1
noncomputable def jTxt (x : Str) (t : TJ) : TJ := fun out σ H Q => (out ++ x).length ≤ sizeLine ∧ t (out ++ x) σ H Q
theorem pj_txt {x : Str} {k : Nat} (h : PJ X es t) : PJ X (.Constant (.str x) k pos :: es) (jTxt x t) := by
 intro out pins s σ H Q I hq
 refine joinParts_cons (Calls.Constant_str ?_)
 exact ⟨hq.1, h _ pins _ σ H Q (I.tok _) hq.2⟩
noncomputable def jInt (te : TE) (t : TJ) : TJ := fun out σ H Q => te σ H fun v H1 => ∃ i : Int, v = .int i ∧ i.natAbs.log2 < 1920 ∧ (out ++ (toString i : Str)).length ≤ sizeLine ∧ t (out ++ (toString i : Str)) σ H1 Q
theorem pj_int {e : Expr} {te : TE} (he : PE X e te) (h : PJ X es t) : PJ X (.FormattedValue e (-1) none pos :: es) (jInt te t) := by
 intro out pins s σ H Q I hq
 refine joinParts_cons (FormattedValue_plain (thn (he pins s σ H _ I hq) fun u s1 zz9 => ?_))
 obtain ⟨v, H1, I1, r1, i, ev, hl, hz, q⟩ := zz9
 subst ev
 obtain ⟨tk, rfl⟩ := r1
 exact formatField_int_small hl ⟨hz, h _ pins _ σ H1 Q (I1.tok _) q⟩
theorem pe_fstr {v₁ v₂ : Expr} {rest : List Expr} (h : PJ X (v₁ :: v₂ :: rest) t) : PE X (.JoinedStr (v₁ :: v₂ :: rest) pos) (t Str.empty) := fun pins s σ H Q I hq => JoinedStr_many (h Str.empty pins s σ H Q I hq)
end
end L2
set_option maxHeartbeats 4000000
namespace L2
open PySem PySem.Spec PyProof.Rows
section
variable {X : Cx}
theorem ix_listK (K : PySem.W.Frag) (h : X.K = K := by rfl) : IxR X (rIxL K) := h ▸ ix_list
theorem call_tuple_ofK (K : PySem.W.Frag) (h : X.K = K := by rfl) : CallR X (.type "tuple") (fun xs H Q => ∃ p ys, xs = [.ref p] ∧ ((SqL K H p ys ∧ ∀ l, H l = none → Q (.ref l) (upd H l (.tup ys))) ∨ (SqT K H p ys ∧ Q (.ref p) H))) := h ▸ call_tuple_of
variable {tg l e : Expr} {tl ta : TE} {f : Str} {pos : Pos}
theorem pi_tupK (K : PySem.W.Frag) (hl : PE X l tl) (h : X.K = K := by rfl) : PI X tg l (iTup K tl) := h ▸ pi_tup hl
end
end L2
set_option maxHeartbeats 4000000
namespace L2
open PySem PySem.Spec PyProof.Rows
end L2
set_option maxHeartbeats 4000000
namespace L2
open PySem PySem.Spec PyProof.Rows
section
noncomputable def Itm2 (d : Addr) (kvs : List (Key × V)) (o : Obj) : It :=
 ⟨fun i H => i < kvs.length ∧ H d = some (.frz o (.dK kvs)), fun i H x H' => ∃ q k v, H q = none ∧ x = .ref q ∧ kvs[i]? = some (k, v) ∧ H' = upd H q (.tup [kV k, v]), fun i H => kvs.length ≤ i ∧ H d = some (.frz o (.dK kvs))⟩
theorem turn_items {P : Program} {w : World} {K : PySem.W.Frag} {elts : List Expr} {x1 : Nat} {pos : Pos} (d it : Addr) (kvs : List (Key × V)) (o : Obj) :
  Turn P w K (.Tuple elts x1 pos) (Itm2 d kvs o) [it] it (fun i h => ∃ a b, IsItemIter h it d i kvs.length (epOf o) a b) where
 mem := by simp
 obj := fun i h st b hb => by
  have e : b = it := by simpa using hb
  subst e
  obtain ⟨a, c, z⟩ := st
  exact ⟨_, z, fun v y => by
   have y' : Data.fields _ = Data.cell v := y
   cases y'⟩
 keep := fun i h h' st k => by
  obtain ⟨a, c, z⟩ := st
  exact ⟨a, c, k it (by simp) _ z⟩
 item := by
  intro X hP hw hK hc i pins s σ H E I hf st hg
  subst hP hw hK
  obtain ⟨hi, hq⟩ := hg
  obtain ⟨vs, ep, rel, da, ho⟩ := frz_dict I hq
  have hep := ep_of da ho
  subst hep
  obtain ⟨f0, f1, f2, f3, f4, f5⟩ := hf it (by simp)
  obtain ⟨⟨k, v⟩, hx⟩ : ∃ p, kvs[i]? = some p := ⟨_, List.getElem?_eq_getElem hi⟩
  obtain ⟨u, hu, ru⟩ := rel.at hx
  have hlen : vs.length = kvs.length := rel.length.symm
  obtain ⟨a0, b0, st⟩ := st
  rw [← hlen] at st
  have itlt := Heap.lt_size st
  refine wpAny_pyNext_items_item st da hu fun key h' hk st' ht hsz kk => ?_
  rw [hlen] at st'
  refine ⟨.ref s.heap.objs.size, rfl, wpAny_letOwnedTupleGo_items st' fun h'' st'' sb => ?_⟩
  have keepb : ∀ b z, b ≠ it → s.heap.get? b = some z → h''.get? b = some z := fun b z hb e => (sb.2 b hb).trans (kk b z hb e)
  have ht'' : h''.get? s.heap.objs.size = some { cls := .type "tuple", data := .seq #[key, u] } := (sb.2 _ (Nat.ne_of_gt itlt)).trans ht
  have hn : H s.heap.objs.size = none := I.hok.fresh (Nat.le_refl _)
  have I2 : Inv X pins σ (upd H s.heap.objs.size (.tup [kV k, v])) { s with heap := h'' } := by
   refine I.step (g' := s.gens) (d' := s.drawn) (ch := [it]) (fun b hb => ?_) (fun b o _ _ hc q _ => keepb b o (fun z => hc (by simp [z])) q) (fun b o _ _ hc q _ => ⟨o.slots, keepb b o (fun z => hc (by simp [z])) q⟩) (fun b o _ q n => by rw [upd_ne (Nat.ne_of_lt (Heap.lt_size q))]; exact n)
    (fun b o hc q => ⟨o, keepb b o (fun z => hc (by simp [z])) q⟩) (fun b ys q => by rw [upd_ne (ne_of_none q hn)]; exact q) (fun b o ys q => by rw [upd_ne (ne_of_none q hn)]; exact q) (fun b ps q => ⟨#[], by rw [upd_ne (ne_of_none q hn), q]; simp⟩) (fun m hm => ?_) (fun b v' q => ?_) I.bare
   ·have z : b = it := by simpa using hb
    subst z; exact ⟨f3, f1, f4, f5⟩
   ·obtain ⟨o, es, ep, ho, r⟩ := hm
    exact ⟨o, es, ep, keepb _ o (Ne.symm f1) ho, r⟩
   ·by_cases hb : b = s.heap.objs.size
    ·subst hb
     rw [upd_same] at q
     cases q
     exact ⟨by show 2 ≤ sizeLine; decide, [key, u], .cons (kV_of hk) (.cons ru .nil), ⟨_, ht'', rfl, _, rfl⟩⟩
    ·rw [upd_ne hb] at q
     refine (I.hok b v' q).stay (fun c w' hc z => keepb c w' ?_ z) (fun d z => by rw [upd_ne (ne_of_none z hn)]; exact z) fun d ys z => by rw [upd_ne (ne_of_none z hn)]; exact z
     rintro rfl
     rcases hc with z | z
     ·rw [z, q] at f0; cases f0
     ·rw [f0] at z; cases z
  refine ⟨.ref s.heap.objs.size, _, I2, rfl, ⟨_, k, v, hn, rfl, hx, rfl⟩, ⟨_, _, st''⟩, fun b hb => ?_⟩
  have z : b = it := by simpa using hb
  subst z; rw [upd_ne (Nat.ne_of_lt itlt)]; exact f0
 done := by
  intro X hP hw hK hc i pins s σ H E I hf st hg
  subst hP hw hK
  obtain ⟨hi, hq⟩ := hg
  obtain ⟨vs, ep, rel, da, ho⟩ := frz_dict I hq
  have hep := ep_of da ho
  subst hep
  obtain ⟨f0, f1, f2, f3, f4, f5⟩ := hf it (by simp)
  have hlen : vs.length = kvs.length := rel.length.symm
  obtain ⟨a0, b0, st⟩ := st
  rw [← hlen] at st
  exact wpAny_pyNext_items_end (I.ok.hd hc) st da (by rw [List.getElem?_eq_none]; omega) fun h' eb => ⟨rfl, I.turned (t' := s.toks) (fun b o hb e => eb b o hb e) f0 f1 f3 f4 f5⟩
 self := fun _ _ _ _ _ st h => by
  obtain ⟨a, b, st⟩ := st
  exact PySem.W.kcp_self st h
variable {X : Cx} {l : Expr} {tl : TE}
theorem pi_items {elts : List Expr} {x1 : Nat} {tpos apos cpos : Pos} (hl : PE X l tl) (m : M0 X l "items" apos cpos) : PI X (.Tuple elts x1 tpos) (.Call (.Attribute l "items" apos) [] [] cpos) (iDict Itm2 tl) := by
 intro pins s σ H R I h
 refine wpAny_Call_method m.base m.few m.line PySem.F.plainAttrs_dict PySem.F.slot_dict_items PySem.F.type_dict_items (thn (hl pins s σ H _ I h) fun v s1 zz9 => ?_)
 obtain ⟨x, H1, I1, r1, q1⟩ := zz9
 obtain ⟨a, kvs, e, q⟩ := q1
 subst e
 cases r1
 obtain ⟨o, H2, e2, I2, q2⟩ := dict_frz (R := fun o H => R (Itm2 a kvs o) H) I1 q
 obtain ⟨vs, ep, rel, da, ho⟩ := frz_dict I2 e2
 have hep := ep_of da ho
 subst hep
 obtain ⟨_, _, hsys, _⟩ := I2.hok a _ e2
 have isd : IsD H2 a := .inl ⟨kvs, .inr ⟨o, e2⟩⟩
 obtain ⟨t1, t2, _⟩ := isD_at I2 isd
 refine ⟨t1, t2, ?_⟩
 refine Calls.callWith_builtin rfl (PyProof.Rows.evalArgs_empty ?_)
 refine call_meetsIn PySem.F.slot_dict_items da.dictOf.typeIs PySem.F.entry_dict_items (PySem.F.args_dict_items_1 _) (meets_dict_items (mixKind X.prog X.w) a hsys) ⟨⟨vs, da.dictOf⟩, ?_⟩
 have I3 : Inv X pins σ H2 { s1 with heap := s1.heap.push { cls := .type "dict_items", data := .fields #[.ref a] } } := I2.kept (t' := s1.toks) fun b o e => Heap.get?_push_of_some _ e
 refine wpAny_pyIter_items ⟨_, Heap.get?_push_size _ rfl, rfl, rfl⟩ (da.push _) ?_
 have hlen : vs.length = kvs.length := rel.length.symm
 rw [hlen]
 refine ⟨(s1.heap.push { cls := .type "dict_items", data := .fields #[.ref a] }).objs.size, [(s1.heap.push { cls := .type "dict_items", data := .fields #[.ref a] }).objs.size], _, _, H2, rfl, I3.kept (t' := s1.toks) fun b o e => Heap.get?_push_of_some _ e, turn_items a _ kvs o, ⟨_, _, Heap.get?_push_size _ rfl⟩, fun b hb => ?_, q2⟩
 have e : b = (s1.heap.push { cls := .type "dict_items", data := .fields #[.ref a] }).objs.size := by simpa using hb
 subst e
 exact I3.fpOk (Nat.le_refl _) (I3.hok.fresh (Nat.le_refl _))
theorem for_items {d : Addr} {kvs : List (Key × V)} {o : Obj} {g : TG} {tb : TS} {D : Ends} {σ : St} {H : Hp} (Pv : Nat → St → Hp → Prop) (h0 : Pv 0 σ H) (hl : ∀ i σ H, i ≤ kvs.length → Pv i σ H → H d = some (.frz o (.dK kvs)))
  (hs : ∀ i k x σ H q, kvs[i]? = some (k, x) → H q = none → Pv i σ H → g (.ref q) σ (upd H q (.tup [kV k, x])) fun σ2 H2 => tb { D with nx := Pv (i + 1), ct := Pv (i + 1), bk := D.nx } σ2 H2) (hd : ∀ σ H, Pv kvs.length σ H → D.nx σ H) :
  ∃ W : Nat → Nat → St → Hp → Prop, (∃ m, W 0 m σ H) ∧ ∀ i m σ H, W i m σ H →
   ((Itm2 d kvs o).stop i H ∧ D.nx σ H) ∨ ((Itm2 d kvs o).go i H ∧ ∃ N : St → Hp → Prop, (∀ σ' H', N σ' H' → ∃ m', m' < m ∧ W (i + 1) m' σ' H') ∧ ∀ x H', (Itm2 d kvs o).yld i H x H' → g x σ H' fun σ2 H2 => tb { D with nx := N, ct := N, bk := D.nx } σ2 H2) := by
 refine ⟨fun i m σ H => m = kvs.length - i ∧ i ≤ kvs.length ∧ Pv i σ H, ⟨kvs.length, by simp, Nat.zero_le _, h0⟩, ?_⟩
 rintro i m σ H ⟨rfl, hi, p⟩
 have q := hl i σ H hi p
 by_cases hlt : i < kvs.length
 ·refine .inr ⟨⟨hlt, q⟩, Pv (i + 1), fun σ' H' p' => ⟨kvs.length - (i + 1), by omega, rfl, hlt, p'⟩, fun x H' y => ?_⟩
  obtain ⟨c, k, v, hn, e1, y, e2⟩ := y
  subst e1 e2
  exact hs i k v σ H c y hn p
 ·have e : i = kvs.length := by omega
  subst e
  exact .inl ⟨⟨Nat.le_refl _, q⟩, hd σ H p⟩
end
section
noncomputable def Itr3 (lo st : Int) (n : Nat) : It := ⟨fun i _ => i < n, fun i H x H' => H' = H ∧ x = .int (lo + i * st), fun i _ => n ≤ i⟩
theorem turn_range3 {P : Program} {w : World} {K : PySem.W.Frag} {tg : Expr} (it : Addr) (lo st : Int) (n : Nat) : Turn P w K tg (Itr3 lo st n) [it] it (fun i h => IsRangeIter h it (lo + (i : Nat) * st) ((n : Int) - (i : Nat)) st) where
 mem := by simp
 obj := fun i h st b hb => by
  have e : b = it := by simpa using hb
  subst e
  exact ⟨_, st, fun v z => by
   have z' : Data.fields _ = Data.cell v := z
   cases z'⟩
 keep := fun i h h' st k => k it (by simp) _ st
 item := by
  intro X hP hw hK hc i pins s σ H E I hf st' hg
  subst hP hw hK
  obtain ⟨f0, f1, f2, f3, f4, f5⟩ := hf it (by simp)
  have W := Walks.range (prog := X.prog) (w := X.w) (I.ok.hd hc) it lo st n
  refine W.item i s _ _ hg st' fun v h' tk hv st2 kk => ?_
  obtain ⟨t, rfl⟩ := hv
  have I1 : Inv X pins σ H { s with heap := h', toks := tk } := I.turned (fun b o hb e => kk b o (by simpa using hb) e) f0 f1 f3 f4 f5
  exact ⟨_, rfl, go_of (s := { s with heap := h', toks := tk }) (n := "range_iterator") st2 rfl rfl (by decide) ⟨.int (lo + i * st), H, I1, ⟨t, rfl⟩, ⟨rfl, rfl⟩, st2, fun b hb => (hf b hb).1⟩⟩
 done := by
  intro X hP hw hK hc i pins s σ H E I hf st' hg
  subst hP hw hK
  obtain ⟨f0, f1, f2, f3, f4, f5⟩ := hf it (by simp)
  exact wpAny_pyNext_range_end (I.ok.hd hc) st' (by have : n ≤ i := hg; omega) fun h' eb => ⟨rfl, I.turned (t' := s.toks) (fun b o hb e => eb b o hb e) f0 f1 f3 f4 f5⟩
 self := fun _ _ _ _ _ st h => wpAny_pyIter_rangeiter st h
end
end L2
set_option maxHeartbeats 4000000
namespace L2
open PySem PySem.Spec PyProof.Rows
section
variable {X : Cx}
noncomputable def rNeL (K : PySem.W.Frag) : R2 := fun x y H Q => ∃ a b ns ms, x = .ref a ∧ y = .ref b ∧ SqL K H a (List.map V.int ns) ∧ SqL K H b (List.map V.int ms) ∧ Q (.bl (!decide (ns = ms))) H
theorem op_neL (hu : X.A.units + 64 < cLine) : OpR X (compareOp .NotEq) (rNeL X.K) := by
 intro pins s σ H x y v u Q I rx ry h
 obtain ⟨a, b, ns, ms, rfl, rfl, ha, hb, q⟩ := h
 cases rx
 cases ry
 obtain ⟨ia, ra, pa, _⟩ := I.list ha
 obtain ⟨ib, rb, pb, _⟩ := I.list hb
 exact PySem.W.ne_intsK pa.isList (intsAre_of ra) pb.isList (intsAre_of rb) hu ⟨.bl _, H, I, rfl, q⟩
theorem all_range (bs : List Bool) : ((List.range bs.length).all fun i => bs.getD i true) = bs.all id := by
 rw [Bool.eq_iff_iff, List.all_eq_true, List.all_eq_true]
 constructor
 ·intro h b hb
  obtain ⟨i, hi, rfl⟩ := List.mem_iff_getElem.mp hb
  have := h i (List.mem_range.mpr hi)
  rw [List.getD_eq_getElem?_getD, List.getElem?_eq_getElem hi] at this
  exact this
 ·intro h i hi
  have hi := List.mem_range.mp hi
  rw [List.getD_eq_getElem?_getD, List.getElem?_eq_getElem hi]
  exact h _ (List.getElem_mem hi)
theorem call_all (hc : X.calm = true) : CallR X (.builtin "all") (fun xs H Q => ∃ p bs, xs = [.ref p] ∧ SqL X.K H p (List.map V.bl bs) ∧ Q (.bl (bs.all id)) H) := by
 intro pins s σ H xs us Q I r h
 obtain ⟨p, bs, rfl, hq, q⟩ := h
 obtain ⟨u, rfl, ru⟩ := vals1 r
 cases ru
 obtain ⟨its, rv, pl, hz⟩ := I.list hq
 have ne : p ≠ s.heap.objs.size := by obtain ⟨o, ho, _⟩ := pl.isList; exact Nat.ne_of_lt (Heap.lt_size ho)
 refine call_all_walk (wpAny_pyIter_list pl.isList ⟨s.heap.objs.size, _, _, _, _, _, fun i => bs.getD i true, rfl, Walks.list (A := X.A.in1) (show X.A.in1.handled = none from I.ok.hd hc) s.heap.objs.size p ne its.toArray, ⟨⟨_, Heap.get?_push_size _ rfl, rfl, rfl⟩, pl.isList.push _⟩, ?_, ?_⟩)
 ·intro i v s' Q' E' hv hq'
  have hv : its[i]? = some v := by simpa using hv
  have hlen := rv.length
  rw [List.length_map] at hlen
  have hi : i < bs.length := by have := (List.getElem?_eq_some_iff.mp hv).1; omega
  obtain ⟨u, hu, ru⟩ := rv.get (show (bs.map V.bl)[i]? = some (V.bl bs[i]) by rw [List.getElem?_map, List.getElem?_eq_getElem hi]; rfl)
  rw [hv] at hu
  cases hu
  cases ru
  have e : bs.getD i true = bs[i] := by rw [List.getD_eq_getElem?_getD, List.getElem?_eq_getElem hi]; rfl
  refine wpAny_truthy_bool ?_
  have hq' : Q' (bs.getD i true) s' := hq'
  rw [e] at hq'
  exact hq'
 ·intro h' tk hk
  have I1 : Inv X pins σ H { s with heap := h', toks := tk } := I.kept fun b o e => hk b o (fun z => absurd (Heap.lt_size e) (by rw [List.mem_singleton.mp z]; exact Nat.lt_irrefl _)) (Heap.get?_push_of_some _ e)
  have hlen : its.toArray.size = bs.length := by have := rv.length; rw [List.length_map] at this; simp; omega
  refine ⟨.bl (bs.all id), H, I1, ?_, q⟩
  show Value.bool _ = _
  rw [hlen, all_range]
end
section
noncomputable def Itz (K : PySem.W.Frag) (a b : Addr) : It :=
  ⟨fun i H => ∃ xs ys x y, SqL K H a xs ∧ SqL K H b ys ∧ xs[i]? = some x ∧ ys[i]? = some y,
   fun i H v H' => ∃ q x y, H q = none ∧ v = .ref q ∧ (∀ xs, SqL K H a xs → xs[i]? = some x) ∧ (∀ ys, SqL K H b ys → ys[i]? = some y) ∧ H' = upd H q (.tup [x, y]),
   fun i H => ∃ xs ys, SqL K H a xs ∧ SqL K H b ys ∧ (xs.length ≤ i ∨ ys.length ≤ i)⟩
theorem turn_zip {P : Program} {w : World} {K : PySem.W.Frag} {elts : List Expr} {x1 : Nat} {pos : Pos} (a b z TI TO i1 i2 : Addr) (D : ZipApart z TI TO i1 i2 a b) :
  Turn P w K (.Tuple elts x1 pos) (Itz K a b) [z, TI, TO, i1, i2] z (fun i h => IsZip h z TI TO .none ∧ IsPair h TI (.ref i1) (.ref i2) ∧ (∃ u v, IsPair h TO u v) ∧ h.IsListIter i1 a i ∧ h.IsListIter i2 b i) where
 mem := by simp
 obj := fun i h st c hc => by
  obtain ⟨s1, s2, ⟨u, v, s3⟩, ⟨o4, e4, c4, d4⟩, o5, e5, c5, d5⟩ := st
  have hc : c = z ∨ c = TI ∨ c = TO ∨ c = i1 ∨ c = i2 := by simpa using hc
  rcases hc with rfl | rfl | rfl | rfl | rfl
  ·exact ⟨_, s1, fun v y => by have y' : Data.fields _ = Data.cell v := y; cases y'⟩
  ·exact ⟨_, s2, fun v y => by have y' : Data.seq _ _ = Data.cell v := y; cases y'⟩
  ·exact ⟨_, s3, fun v y => by have y' : Data.seq _ _ = Data.cell v := y; cases y'⟩
  ·exact ⟨o4, e4, fun v y => by rw [d4] at y; cases y⟩
  ·exact ⟨o5, e5, fun v y => by rw [d5] at y; cases y⟩
 keep := fun i h h' st k => by
  obtain ⟨s1, s2, ⟨u, v, s3⟩, s4, s5⟩ := st
  exact ⟨k z (by simp) _ s1, k TI (by simp) _ s2, ⟨u, v, k TO (by simp) _ s3⟩, s4.at fun o e => k i1 (by simp) o e, s5.at fun o e => k i2 (by simp) o e⟩
 item := by
  intro X hP hw hK hc i pins s σ H E I hf st hg
  subst hP hw hK
  obtain ⟨xs, ys, x, y, hqx, hqy, hx, hy⟩ := hg
  obtain ⟨itx, rvx, px, _⟩ := I.list hqx
  obtain ⟨ity, rvy, py, _⟩ := I.list hqy
  obtain ⟨u, hu, ru⟩ := rvx.get hx
  obtain ⟨v, hv, rv⟩ := rvy.get hy
  obtain ⟨s1, s2, ⟨u0, v0, s3⟩, s4, s5⟩ := st
  refine wpAny_pyNext_zip_item D s1 s2 s3 s4 s5 px.isList py.isList (x := u) (y := v) (by simpa using hu) (by simpa using hv) fun h' a1 a2 a3 a4 a5 a6 a7 => ?_
  refine ⟨.ref s.heap.objs.size, rfl, wpAny_letOwnedTupleGo_zip a1 fun h'' b1 sb => ?_⟩
  have lt : ∀ c ∈ [z, TI, TO, i1, i2], c < s.heap.objs.size := fun c hc => by
   obtain ⟨o, e, _⟩ : ∃ o, s.heap.get? c = some o ∧ True := by
    have hc : c = z ∨ c = TI ∨ c = TO ∨ c = i1 ∨ c = i2 := by simpa using hc
    rcases hc with rfl | rfl | rfl | rfl | rfl
    ·exact ⟨_, s1, trivial⟩
    ·exact ⟨_, s2, trivial⟩
    ·exact ⟨_, s3, trivial⟩
    ·obtain ⟨o, e, _⟩ := s4; exact ⟨o, e, trivial⟩
    ·obtain ⟨o, e, _⟩ := s5; exact ⟨o, e, trivial⟩
   exact Heap.lt_size e
  have keepb : ∀ c o, c ≠ z → c ≠ TO → c ≠ i1 → c ≠ i2 → s.heap.get? c = some o → h''.get? c = some o := fun c o n1 n2 n3 n4 e => (sb.2 c n1).trans (a7 c o n1 n2 n3 n4 e)
  have zl := lt z (by simp)
  have ht'' : h''.get? s.heap.objs.size = some { cls := .type "tuple", data := .seq #[u, v] } := (sb.2 _ (Nat.ne_of_gt zl)).trans a5
  have hn : H s.heap.objs.size = none := I.hok.fresh (Nat.le_refl _)
  have I2 : Inv X pins σ (upd H s.heap.objs.size (.tup [x, y])) { s with heap := h'' } := by
   have out : ∀ c, c ∉ [z, TO, i1, i2] → c ≠ z ∧ c ≠ TO ∧ c ≠ i1 ∧ c ≠ i2 := fun c hc => by simpa using hc
   refine I.step (g' := s.gens) (d' := s.drawn) (ch := [z, TO, i1, i2]) (fun c hc => ?_) (fun c o _ _ hc q _ => ?_) (fun c o _ _ hc q _ => ⟨o.slots, ?_⟩) (fun c o _ q n => by rw [upd_ne (Nat.ne_of_lt (Heap.lt_size q))]; exact n)
    (fun c o hc q => ⟨o, ?_⟩) (fun c zs q => by rw [upd_ne (ne_of_none q hn)]; exact q) (fun c o zs q => by rw [upd_ne (ne_of_none q hn)]; exact q) (fun c ps q => ⟨#[], by rw [upd_ne (ne_of_none q hn), q]; simp⟩) (fun m hm => ?_) (fun c v' q => ?_) I.bare
   ·have hc : c = z ∨ c = TO ∨ c = i1 ∨ c = i2 := by simpa using hc
    have hm : c ∈ [z, TI, TO, i1, i2] := by rcases hc with rfl | rfl | rfl | rfl <;> simp
    obtain ⟨f0, f1, f2, f3, f4, f5⟩ := hf c hm
    exact ⟨f3, f1, f4, f5⟩
   ·obtain ⟨n1, n2, n3, n4⟩ := out c hc; exact keepb c o n1 n2 n3 n4 q
   ·obtain ⟨n1, n2, n3, n4⟩ := out c hc; exact keepb c o n1 n2 n3 n4 q
   ·obtain ⟨n1, n2, n3, n4⟩ := out c hc; exact keepb c o n1 n2 n3 n4 q
   ·obtain ⟨o, es, ep, ho, r⟩ := hm
    exact ⟨o, es, ep, keepb _ o (Ne.symm (hf z (by simp)).2.1) (Ne.symm (hf TO (by simp)).2.1) (Ne.symm (hf i1 (by simp)).2.1) (Ne.symm (hf i2 (by simp)).2.1) ho, r⟩
   ·by_cases hb : c = s.heap.objs.size
    ·subst hb
     rw [upd_same] at q
     cases q
     exact ⟨by show 2 ≤ sizeLine; decide, [u, v], .cons ru (.cons rv .nil), ⟨_, ht'', rfl, _, rfl⟩⟩
    ·rw [upd_ne hb] at q
     refine (I.hok c v' q).stay (fun e w' he y' => keepb e w' ?_ ?_ ?_ ?_ y') (fun d y' => by rw [upd_ne (ne_of_none y' hn)]; exact y') fun d zs y' => by rw [upd_ne (ne_of_none y' hn)]; exact y'
     all_goals
      rintro rfl
      have hz0 : H e = none := (hf e (by simp)).1
      rcases he with y' | y'
      ·rw [y', q] at hz0; cases hz0
      ·rw [hz0] at y'; cases y'
  refine ⟨.ref s.heap.objs.size, _, I2, rfl, ⟨_, x, y, hn, rfl, fun xs' hy' => by rw [I.list_inj hy' hqx]; exact hx, fun ys' hy' => by rw [I.list_inj hy' hqy]; exact hy, rfl⟩,
   ⟨b1, (sb.2 TI D.TIz).trans (a7 TI _ D.TIz D.TITO D.TIi1 D.TIi2 s2), ⟨u, v, (sb.2 TO D.TOz).trans a2⟩, a3.at fun o e => (sb.2 i1 D.i1z).trans e, a4.at fun o e => (sb.2 i2 D.i2z).trans e⟩, fun c hc => ?_⟩
  rw [upd_ne (Nat.ne_of_lt (lt c hc))]
  exact (hf c hc).1
 done := by
  intro X hP hw hK hc i pins s σ H E I hf st hg
  subst hP hw hK
  obtain ⟨xs, ys, hqx, hqy, hlen⟩ := hg
  obtain ⟨itx, rvx, px, _⟩ := I.list hqx
  obtain ⟨ity, rvy, py, _⟩ := I.list hqy
  obtain ⟨s1, s2, ⟨u0, v0, s3⟩, s4, s5⟩ := st
  have l1 := rvx.length
  have l2 := rvy.length
  refine wpAny_pyNext_zip_end (I.ok.hd hc) D s1 s2 s3 s4 s5 px.isList py.isList ?_ fun h' eb => ⟨rfl, ?_⟩
  ·rcases hlen with z | z
   ·exact .inl (by simp; omega)
   ·exact .inr (by simp; omega)
  ·have out : ∀ c, c ∉ [z, TO, i1, i2] → c ≠ z ∧ c ≠ TO ∧ c ≠ i1 ∧ c ≠ i2 := fun c hc => by simpa using hc
   refine I.step (g' := s.gens) (d' := s.drawn) (t' := s.toks) (ch := [z, TO, i1, i2]) (fun c hc => ?_) (fun c o _ _ hc q _ => ?_) (fun c o _ _ hc q _ => ⟨o.slots, ?_⟩) (fun c o _ q n => n)
    (fun c o hc q => ⟨o, ?_⟩) (fun c zs q => q) (fun c o zs q => q) (fun c ps q => ⟨#[], by rw [q]; simp⟩) (fun m hm => ?_) (fun c v' q => ?_) I.bare
   ·have hc : c = z ∨ c = TO ∨ c = i1 ∨ c = i2 := by simpa using hc
    have hm : c ∈ [z, TI, TO, i1, i2] := by rcases hc with rfl | rfl | rfl | rfl <;> simp
    obtain ⟨f0, f1, f2, f3, f4, f5⟩ := hf c hm
    exact ⟨f3, f1, f4, f5⟩
   ·obtain ⟨n1, n2, n3, n4⟩ := out c hc; exact eb c o n1 n2 n3 n4 q
   ·obtain ⟨n1, n2, n3, n4⟩ := out c hc; exact eb c o n1 n2 n3 n4 q
   ·obtain ⟨n1, n2, n3, n4⟩ := out c hc; exact eb c o n1 n2 n3 n4 q
   ·obtain ⟨o, es, ep, ho, r⟩ := hm
    exact ⟨o, es, ep, eb _ o (Ne.symm (hf z (by simp)).2.1) (Ne.symm (hf TO (by simp)).2.1) (Ne.symm (hf i1 (by simp)).2.1) (Ne.symm (hf i2 (by simp)).2.1) ho, r⟩
   ·refine (I.hok c v' q).stay (fun e w' he y' => eb e w' ?_ ?_ ?_ ?_ y') (fun d y' => y') fun d zs y' => y'
    all_goals
     rintro rfl
     have hz0 : H e = none := (hf e (by simp)).1
     rcases he with y' | y'
     ·rw [y', q] at hz0; cases hz0
     ·rw [hz0] at y'; cases y'
 self := fun _ _ _ _ _ st h => wpAny_pyIter_zip st.1 h
theorem zip_apart {N a b : Nat} (la : a < N) (lb : b < N) : ZipApart (N + 4) (N + 2) (N + 3) N (N + 1) a b := by
 constructor <;> (intro z; first | exact absurd (show (_ : Nat) = _ from z) (by omega) | omega)
variable {X : Cx}
noncomputable def iZip (K : PySem.W.Frag) (ta : TA) : TI := fun σ H R => ta σ H fun vs H1 => ∃ a b xs ys, vs = [.ref a, .ref b] ∧ SqL K H1 a xs ∧ SqL K H1 b ys ∧ R (Itz K a b) H1
theorem pi_zip {elts : List Expr} {x1 : Nat} {tpos p pos : Pos} {l m : Expr} {ta : TA} (hg : Gl X "zip") (hm : X.mg "zip" = none) (ha : PA X [l, m] ta) (hs : starEach [l, m] X.env = [(false, eval l X.env), (false, eval m X.env)] := by rfl) (hs2 : starEach [m] X.env = [(false, eval m X.env)] := by rfl) :
  PI X (.Tuple elts x1 tpos) (.Call (.Name "zip" p) [l, m] [] pos) (iZip X.K ta) := by
 intro pins s σ H R I h
 refine Call_ (ld_blt I hg hm boot_zip (PyProof.Rows.callWith_type1 (thn (ha pos pins s σ H _ I h) fun us s1 ⟨vs, H1, I1, r1, q1⟩ => ?_) (by rw [hs, hs2]) (by rw [hs2]; rfl)))
 obtain ⟨a, b, xs, ys, e, hqx, hqy, q⟩ := q1
 subst e
 obtain ⟨u, v, rfl, ru, rv⟩ := r1.two
 cases ru
 cases rv
 obtain ⟨itx, rvx, px, _⟩ := I1.list hqx
 obtain ⟨ity, rvy, py, _⟩ := I1.list hqy
 have la : a < s1.heap.objs.size := by obtain ⟨o, ho, _⟩ := px.isList; exact Heap.lt_size ho
 have lb : b < s1.heap.objs.size := by obtain ⟨o, ho, _⟩ := py.isList; exact Heap.lt_size ho
 refine call_zip_2 px.isList py.isList fun h' z1 z2 z3 z4 z5 z6 z7 => wpAny_pyIter_zip z1 ?_
 have I2 : Inv X pins σ H1 { s1 with heap := h' } := I1.kept (t' := s1.toks) z7
 generalize hN : s1.heap.objs.size = N at *
 refine ⟨N + 4, [N + 4, N + 2, N + 3, N, N + 1], _, _, H1, rfl, I2, turn_zip a b (N + 4) (N + 2) (N + 3) N (N + 1) (zip_apart la lb), ⟨z1, z2, ⟨_, _, z3⟩, z4, z5⟩, fun c hc => ?_, q⟩
 have hc : s1.heap.objs.size ≤ c := by
  have hc : c = N + 4 ∨ c = N + 2 ∨ c = N + 3 ∨ c = N ∨ c = N + 1 := by simpa using hc
  rw [hN]
  rcases hc with rfl | rfl | rfl | rfl | rfl
  ·exact Nat.le_add_right _ _
  ·exact Nat.le_add_right _ _
  ·exact Nat.le_add_right _ _
  ·exact Nat.le_refl _
  ·exact Nat.le_add_right _ _
 exact I1.fpOk hc (I1.hok.fresh hc)
theorem loop_zip {K : PySem.W.Frag} {a b : Addr} {xs ys : List V} {g : TG} {tt : TT} {tb : TB} {R : St → Hp → Prop} {σ : St} {H : Hp} (hlen : xs.length = ys.length) (Pv : Nat → St → Hp → Prop) (h0 : Pv 0 σ H) (hl : ∀ i σ H, i ≤ xs.length → Pv i σ H → SqL K H a xs ∧ SqL K H b ys)
  (hs : ∀ (i : Nat) x y σ H q, xs[i]? = some x → ys[i]? = some y → H q = none → Pv i σ H → g (.ref q) σ (upd H q (.tup [x, y])) fun σ2 H2 => tt σ2 H2 fun b H3 => if b = true then tb σ2 H3 (Pv (i + 1)) else Pv (i + 1) σ2 H3) (hd : ∀ σ H, Pv xs.length σ H → R σ H) : LoopR (Itz K a b) g tt tb R σ H := by
 refine ⟨fun i m σ H => m = xs.length - i ∧ i ≤ xs.length ∧ Pv i σ H, ⟨xs.length, by simp, Nat.zero_le _, h0⟩, ?_⟩
 rintro i m σ H ⟨rfl, hi, p⟩
 obtain ⟨q1, q2⟩ := hl i σ H hi p
 by_cases hlt : i < xs.length
 ·have hlt2 : i < ys.length := by omega
  refine .inr ⟨⟨xs, ys, xs[i], ys[i], q1, q2, by simp [hlt], by simp [hlt2]⟩, Pv (i + 1), fun σ' H' p' => ⟨xs.length - (i + 1), by omega, rfl, hlt, p'⟩, fun x H' y => ?_⟩
  obtain ⟨c, u, v, hn, e1, y1, y2, e2⟩ := y
  subst e1 e2
  exact hs i u v σ H c (y1 xs q1) (y2 ys q2) hn p
 ·have e : i = xs.length := by omega
  subst e
  exact .inl ⟨⟨xs, ys, q1, q2, .inl (Nat.le_refl _)⟩, hd σ H p⟩
end
end L2
set_option maxHeartbeats 4000000
namespace L2
open PySem PySem.Spec PyProof.Rows
section
variable {prog : Program} {w : World} {A : Around} {E : Value → Shared → Prop} {s : Shared}
noncomputable abbrev upIt (a n : Int) : Obj := { cls := .type "range_iterator", data := .fields #[rawInt (a + (n - 1) * 1), rawInt n, rawInt (-1)] }
theorem fits62 {z : Int} (h1 : -(2 ^ 62) ≤ z) (h2 : z < 2 ^ 62) : Builtin.Range.rangeFitsLong z = true := by
 unfold Builtin.Range.rangeFitsLong
 rw [Bool.and_eq_true, decide_eq_true_eq, decide_eq_true_eq]
 omega
theorem rr_meets (r : Addr) (a b : Int) (t u v : Tok) (hs : (Builtin.Range.rangeFitsLong a && Builtin.Range.rangeFitsLong b && Builtin.Range.rangeFitsLong 1 && Builtin.Range.rangeFitsLong (-1) && Builtin.Range.rangeFitsLong (a - 1) && Builtin.Range.rangeFitsLong (Builtin.Range.rangeSize a b 1)) = true) :
  Meets (Builtin.«range.__reversed__» ⟨[.ref r], []⟩) (fun _ R s => IsRange s.heap r a b 1 t u v ∧ R (.ok (.ret (.ref s.heap.objs.size))) { s with heap := s.heap.push (upIt a (Builtin.Range.rangeSize a b 1)) }) :=
 .of_wp fun prog w A R s h => by
  obtain ⟨hp, g, d, tk, os⟩ := s
  obtain ⟨hl, h⟩ := h
  unfold Builtin.«range.__reversed__»
  refine wpAny_bind (wpAny_of_eq (a := Value.ref r) rfl ?_)
  refine wpAny_bind (m := Builtin.Range.rangeFields (.ref r)) ?_
  unfold Builtin.Range.rangeFields
  refine wpAny_bind (wpAny_field hl rfl (x := .int a t) rfl ?_)
  refine wpAny_bind (wpAny_of_eq (a := some a) rfl ?_)
  refine wpAny_bind (wpAny_field hl rfl (x := .int b u) rfl ?_)
  refine wpAny_bind (wpAny_of_eq (a := some b) rfl ?_)
  refine wpAny_bind (wpAny_field hl rfl (x := .int 1 v) rfl ?_)
  refine wpAny_bind (wpAny_of_eq (a := some 1) rfl ?_)
  refine wpAny_pure ?_
  dsimp only
  simp only [hs, Bool.not_true, Bool.false_eq_true, if_false, if_true]
  exact wpAny_bind (wpAny_newObj_type (wpAny_pure ⟨_, rfl, h⟩))
theorem rr_sub : isSubtype (.type "range_iterator") (.type "reversed") = pure false := by
 rw [isSubtype_type]
 kernel_rfl
theorem rr_code {r : Addr} {a b : Int} {t u v : Tok} {Z : Value → Shared → Prop} (hr : IsRange s.heap r a b 1 t u v)
  (hs : (Builtin.Range.rangeFitsLong a && Builtin.Range.rangeFitsLong b && Builtin.Range.rangeFitsLong 1 && Builtin.Range.rangeFitsLong (-1) && Builtin.Range.rangeFitsLong (a - 1) && Builtin.Range.rangeFitsLong (Builtin.Range.rangeSize a b 1)) = true)
  (q : Z (.ref s.heap.objs.size) { s with heap := s.heap.push (upIt a (Builtin.Range.rangeSize a b 1)) }) :
  codeAny (model prog w) A (.call (.builtin "reversed.__new__") ⟨[.type "reversed", .ref r], []⟩) (wants Z E) s := by
 have hT : s.TypeIs (.ref r) "range" := ⟨_, hr, rfl⟩
 refine codeAny_of_tree (show wpAny _ A.in1 (checkBuiltinCall "reversed.__new__" ⟨[.type "reversed", .ref r], []⟩ >>= fun _ => again (.builtin "reversed.__new__" ⟨[.type "reversed", .ref r], []⟩)) _ _ s from ?_)
 refine wpAny_bind (wpAny_of_eq (PySem.F.newCall_reversed_1 (.ref r)) (wpAny_pure ⟨plainId_quiet PySem.F.plain_reversed_new _, codeAny_builtin PySem.F.entry_reversed_new ?_⟩))
 rw [Around.under_plainId PySem.F.plain_reversed_new _]
 unfold Builtin.«reversed.__new__»
 refine wpAny_bind (wpAny_of_eq (newClass_reversed (.ref r)) ?_)
 refine wpAny_bind (wpAny_of_eq (a := ()) (by first | rfl | kernel_rfl) (wpAny_bind (wpAny_of_eq (a := ()) (by first | rfl | kernel_rfl) ?_)))
 refine wpAny_bind (wpAny_specialOf hT PySem.F.slot_range_reversed.lookup (wpAny_bind (wpAny_of_eq (PySem.F.slot_range_reversed.bind (.ref r)) ?_)))
 have ne : ¬ ((Value.builtin "range.__reversed__" == Value.none) = true) := Bool.false_ne_true
 dsimp only
 first | rw [if_neg ne] | (show wpAny _ _ (if (Value.builtin "range.__reversed__" == Value.none) = true then _ else _) _ _ _; rw [if_neg ne])
 refine wpAny_bind (wpAny_rule (wpAny_bind (m := runValue (.call (.builtin "range.__reversed__") ⟨[.ref r], []⟩)) ?_))
 show wpAny _ _ (call (.builtin "range.__reversed__") [.ref r]) _ _ _
 refine call_meets PySem.F.slot_range_reversed hT PySem.F.entry_range_reversed (PySem.F.args_range_reversed_1 _) (rr_meets r a b t u v hs) ⟨hr, ?_⟩
 first | exact wpAny_pure q | exact wpAny_bind (wpAny_pure (wpAny_pure q))
theorem rr_call {r : Addr} {a b : Int} {t u v : Tok} {Q : Value → Shared → Prop} (hr : IsRange s.heap r a b 1 t u v)
  (hs : (Builtin.Range.rangeFitsLong a && Builtin.Range.rangeFitsLong b && Builtin.Range.rangeFitsLong 1 && Builtin.Range.rangeFitsLong (-1) && Builtin.Range.rangeFitsLong (a - 1) && Builtin.Range.rangeFitsLong (Builtin.Range.rangeSize a b 1)) = true)
  (q : Q (.ref s.heap.objs.size) { s with heap := s.heap.push (upIt a (Builtin.Range.rangeSize a b 1)) }) : wpAny (model prog w) A (call (.type "reversed") [.ref r]) Q E s := by
 refine callType_other (U := "range_iterator") (Q₁ := fun o z => o = .ref s.heap.objs.size ∧ z = { s with heap := s.heap.push (upIt a (Builtin.Range.rangeSize a b 1)) }) (by decide +kernel) PySem.F.create_reversed ⟨_, _, PySem.F.mro_reversed⟩ PySem.F.made_reversed rr_sub (PySem.F.typeCall_reversed_1 _) (rr_code hr hs ⟨rfl, rfl⟩) ?_
 rintro o z ⟨rfl, rfl⟩
 exact ⟨⟨_, Heap.get?_push_size _ rfl, rfl⟩, q⟩
end
section
variable {X : Cx} {tg : Expr}
noncomputable def iRevR (ta : TA) : TI := fun σ H R => ta σ H fun vs H1 => ∃ (i : Int) (n : Nat), vs = [.int i, .int (i + n)] ∧ 0 ≤ i ∧ i + n ≤ 100000 ∧ R (Itr3 (i + n - 1) (-1) n) H1
theorem pi_revR {a b : Expr} {ta : TA} {p1 p2 pos pos2 : Pos} (hgl : Gl X "reversed") (hml : X.mg "reversed" = none) (hg : Gl X "range") (hm : X.mg "range" = none) (ha : PA X [a, b] ta) (hs : starEach [a, b] X.env = [(false, eval a X.env), (false, eval b X.env)] := by rfl) (hsb : starEach [b] X.env = [(false, eval b X.env)] := by rfl)
  (hs2 : starEach [.Call (.Name "range" p2) [a, b] [] pos2] X.env = [(false, eval (.Call (.Name "range" p2) [a, b] [] pos2) X.env)] := by rfl) : PI X tg (.Call (.Name "reversed" p1) [.Call (.Name "range" p2) [a, b] [] pos2] [] pos) (iRevR ta) := by
 intro pins s σ H R I h
 refine Call_ (ld_blt I hgl hml boot_reversed (PyProof.Rows.callWith_type1 ?_ hs2 rfl))
 rw [hs2]
 refine Calls.spliced_cons ?_
 refine Call_ (ld_blt I hg hm boot_range (PyProof.Rows.callWith_type1 (thn (ha pos2 pins s σ H _ I h) fun us s1 ⟨vs, H1, I1, r1, q1⟩ => ?_) (by rw [hs, hsb]) (by rw [hsb]; rfl)))
 obtain ⟨i, n, e, h0, h1, q⟩ := q1
 subst e
 obtain ⟨u, v, rfl, ru, rv⟩ := r1.two
 obtain ⟨t, rfl⟩ := ru
 obtain ⟨t', rfl⟩ := rv
 refine call_range_2 (Calls.spliced_nil ?_)
 have hr : Builtin.Range.rangeSize i (i + n) 1 = n := by rw [rangeSize_one]; split <;> omega
 have fits : (Builtin.Range.rangeFitsLong i && Builtin.Range.rangeFitsLong (i + n) && Builtin.Range.rangeFitsLong 1 && Builtin.Range.rangeFitsLong (-1) && Builtin.Range.rangeFitsLong (i - 1) && Builtin.Range.rangeFitsLong (Builtin.Range.rangeSize i (i + n) 1)) = true := by
  rw [hr, fits62 (by omega) (by omega), fits62 (by omega) (by omega), fits62 (by decide) (by decide), fits62 (by decide) (by decide), fits62 (by omega) (by omega), fits62 (by omega) (by omega)]
  rfl
 refine rr_call (IsRange.new ..) fits ?_
 rw [hr]
 have I2 : Inv X pins σ H1 { s1 with heap := s1.heap.push { cls := .type "range", data := .fields #[.int i t, .int (i + n) t', .int 1 s1.toks] }, toks := s1.toks + 1 } := I1.kept fun b o e => Heap.get?_push_of_some _ e
 have st : IsRangeIter ((s1.heap.push { cls := .type "range", data := .fields #[.int i t, .int (i + n) t', .int 1 s1.toks] }).push (upIt i n)) (s1.heap.push { cls := .type "range", data := .fields #[.int i t, .int (i + n) t', .int 1 s1.toks] }).objs.size (i + n - 1 + ((0 : Nat) : Int) * (-1)) ((n : Int) - ((0 : Nat) : Int)) (-1) := by
  have e1 : i + (n : Int) - 1 + ((0 : Nat) : Int) * (-1) = i + ((n : Int) - 1) * 1 := by simp; omega
  have e2 : (n : Int) - ((0 : Nat) : Int) = n := by simp
  rw [e1, e2]
  exact Heap.get?_push_size _ rfl
 refine wpAny_pyIter_rangeiter st ?_
 refine ⟨_, [(s1.heap.push { cls := .type "range", data := .fields #[.int i t, .int (i + n) t', .int 1 s1.toks] }).objs.size], _, _, H1, rfl, I2.kept (t' := s1.toks + 1) fun b o e => Heap.get?_push_of_some _ e, turn_range3 _ (i + n - 1) (-1) n, st, fun b hb => ?_, q⟩
 have e : b = (s1.heap.push { cls := .type "range", data := .fields #[.int i t, .int (i + n) t', .int 1 s1.toks] }).objs.size := by simpa using hb
 subst e
 exact I2.fpOk (Nat.le_refl _) (I2.hok.fresh (Nat.le_refl _))
theorem for_range3 {lo st : Int} {n : Nat} {g : TG} {tb : TS} {D : Ends} {σ : St} {H : Hp} (Pv : Nat → St → Hp → Prop) (h0 : Pv 0 σ H)
  (hs : ∀ (i : Nat) σ H, i < n → Pv i σ H → g (.int (lo + i * st)) σ H fun σ2 H2 => tb { D with nx := Pv (i + 1), ct := Pv (i + 1), bk := D.nx } σ2 H2) (hd : ∀ σ H, Pv n σ H → D.nx σ H) :
  ∃ W : Nat → Nat → St → Hp → Prop, (∃ m, W 0 m σ H) ∧ ∀ i m σ H, W i m σ H →
   ((Itr3 lo st n).stop i H ∧ D.nx σ H) ∨ ((Itr3 lo st n).go i H ∧ ∃ N : St → Hp → Prop, (∀ σ' H', N σ' H' → ∃ m', m' < m ∧ W (i + 1) m' σ' H') ∧ ∀ x H', (Itr3 lo st n).yld i H x H' → g x σ H' fun σ2 H2 => tb { D with nx := N, ct := N, bk := D.nx } σ2 H2) := by
 refine ⟨fun i m σ H => m = n - i ∧ i ≤ n ∧ Pv i σ H, ⟨n, by simp, Nat.zero_le _, h0⟩, ?_⟩
 rintro i m σ H ⟨rfl, hi, p⟩
 by_cases hlt : i < n
 ·refine .inr ⟨hlt, Pv (i + 1), fun σ' H' p' => ⟨n - (i + 1), by omega, rfl, hlt, p'⟩, fun x H' y => ?_⟩
  obtain ⟨e, y⟩ := y
  subst e y
  exact hs i σ _ hlt p
 ·have e : i = n := by omega
  subst e
  exact .inl ⟨Nat.le_refl _, hd σ H p⟩
theorem pg_tupK {pos : Pos} (K : PySem.W.Frag) {es : List Expr} {k : Nat} {t : TGs} {n : Nat} (hc : X.calm = true) (h : PGs X es t)
  (hn : (assignEach es X.env).length = n := by rfl) (hst : (assignEach es X.env).findIdx? (·.1) = none := by rfl) (hk : X.K = K := by rfl) : PG X (.Tuple es k pos) (gTup K n t) := hk ▸ pg_tup hc h hn hst
end
end L2
set_option maxHeartbeats 4000000
namespace KT
open PySem L2
noncomputable def mV : Option Nat → V
 | none => .non
 | some j => .int j
structure TD (M : List (Option Nat)) (ns : List Int) : Prop where
 n : ∃ n, 1 ≤ n ∧ n ≤ 40 ∧ M.length = 3 * n
 len : ns.length = M.length
 inv : ∀ (i j : Nat), M[i]? = some (some j) → M[j]? = some (some i) ∧ i ≠ j
 rng : ∀ (i : Nat) x, ns[i]? = some x → 0 ≤ x ∧ x ≤ 9999
 eqv : ∀ (i j : Nat) x, ns[i]? = some x → ns[j]? = some x → i = j ∨ M[i]? = some (some j)
 eqm : ∀ (i j : Nat), M[i]? = some (some j) → ns[j]? = ns[i]?
structure SewOk (N : Nat) (F : List Nat) (M : List (Option Nat)) : Prop where
 len : M.length = N
 nd : F.Nodup
 free : ∀ f ∈ F, f < N ∧ M[f]? = some none
 inv : ∀ (i j : Nat), M[i]? = some (some j) → M[j]? = some (some i) ∧ i ≠ j
theorem SewOk.start (N : Nat) : SewOk N (List.range N) (List.replicate N none) := by
 refine ⟨by simp, List.nodup_range, fun f hf => ?_, fun i j h => ?_⟩
 ·have h := List.mem_range.mp hf
  exact ⟨h, by rw [List.getElem?_replicate, if_pos h]⟩
 ·rw [List.getElem?_replicate] at h
  split at h <;> cases h
theorem SewOk.skip {N : Nat} {one : Nat} {F : List Nat} {M : List (Option Nat)} (h : SewOk N (one :: F) M) : SewOk N F M :=
 ⟨h.len, (List.nodup_cons.mp h.nd).2, fun f hf => h.free f (List.mem_cons_of_mem _ hf), h.inv⟩
theorem SewOk.pair {N : Nat} {one other k : Nat} {F : List Nat} {M : List (Option Nat)} (h : SewOk N (one :: F) M) (hk : F[k]? = some other) : SewOk N (F.eraseIdx k) ((M.set one (some other)).set other (some one)) := by
 obtain ⟨n1, n2⟩ := List.nodup_cons.mp h.nd
 have hm : other ∈ F := List.mem_of_getElem? hk
 have hne : one ≠ other := fun z => n1 (z ▸ hm)
 obtain ⟨h1, f1⟩ := h.free one List.mem_cons_self
 obtain ⟨h2, f2⟩ := h.free other (List.mem_cons_of_mem _ hm)
 have l1 : one < M.length := by rw [h.len]; exact h1
 have l2 : other < M.length := by rw [h.len]; exact h2
 have g1 : ((M.set one (some other)).set other (some one))[one]? = some (some other) := by
  rw [List.getElem?_set_ne (Ne.symm hne), List.getElem?_set_self l1]
 have g2 : ((M.set one (some other)).set other (some one))[other]? = some (some one) := by
  rw [List.getElem?_set_self (by rw [List.length_set]; exact l2)]
 have g3 : ∀ i, i ≠ one → i ≠ other → ((M.set one (some other)).set other (some one))[i]? = M[i]? := fun i a b => by
  rw [List.getElem?_set_ne (Ne.symm b), List.getElem?_set_ne (Ne.symm a)]
 refine ⟨by rw [List.length_set, List.length_set]; exact h.len, n2.sublist (List.eraseIdx_sublist F k), fun f hf => ?_, fun i j e => ?_⟩
 ·obtain ⟨i, hi, hik, e⟩ := List.mem_eraseIdx_iff_getElem.mp hf
  have fm : f ∈ F := e ▸ List.getElem_mem hi
  obtain ⟨a, b⟩ := h.free f (List.mem_cons_of_mem _ fm)
  have c1 : f ≠ one := fun z => n1 (z ▸ fm)
  have c2 : f ≠ other := fun z => by
   obtain ⟨hk', ek⟩ := List.getElem?_eq_some_iff.mp hk
   exact hik ((List.getElem_inj n2).mp (e.trans (z.trans ek.symm)))
  exact ⟨a, by rw [g3 f c1 c2]; exact b⟩
 ·by_cases c1 : i = one
  ·subst c1
   rw [g1] at e
   cases e
   exact ⟨g2, hne⟩
  ·by_cases c2 : i = other
   ·subst c2
    rw [g2] at e
    cases e
    exact ⟨g1, Ne.symm hne⟩
   ·rw [g3 i c1 c2] at e
    obtain ⟨a, b⟩ := h.inv i j e
    have d1 : j ≠ one := fun z => by rw [z, f1] at a; cases a
    have d2 : j ≠ other := fun z => by rw [z, f2] at a; cases a
    exact ⟨by rw [g3 j d1 d2]; exact a, b⟩
noncomputable def nm (s t : Int) (i : Nat) : Int := (s + t * i) % 10000
noncomputable def rep (M : List (Option Nat)) (i : Nat) : Nat := match M[i]? with
 | some (some j) => if j < i then j else i
 | _ => i
noncomputable def flat (M : List (Option Nat)) (s t : Int) : List Int := (List.range M.length).map fun i => nm s t (rep M i)
noncomputable def steps : List Int := [1, 3, 7, 9, 37, 1009, 3333, 9999]
theorem nm_d : ∀ t ∈ steps, ∀ d : Fin 42, t * ((d.val : Nat) : Int) % 10000 = 0 → d.val = 0 := by decide +kernel
theorem nm_inj {s t : Int} (ht : t ∈ steps) {i j : Nat} (hi : i < 42) (hj : j < 42) (h : nm s t i = nm s t j) : i = j := by
  have key : ∀ a b : Nat, b ≤ a → a < 42 → nm s t a = nm s t b → a = b := fun a b hab ha e => by
    have e2 := Int.emod_eq_emod_iff_emod_sub_eq_zero.mp e
    rw [Int.add_sub_add_left, ← Int.mul_sub, ← Int.natCast_sub hab] at e2
    have := nm_d t ht ⟨a - b, Nat.lt_of_le_of_lt (Nat.sub_le _ _) ha⟩ e2
    exact Nat.le_antisymm (Nat.sub_eq_zero_iff_le.mp this) hab
  rcases Nat.le_total i j with h' | h'
  · exact (key j i h' hj h.symm).symm
  · exact key i j h' hi h
theorem rep_lt {M : List (Option Nat)} {i N : Nat} (h : i < N) : rep M i < N := by
 unfold rep
 split
 ·split <;> omega
 ·exact h
theorem rep_cases (M : List (Option Nat)) (i : Nat) : rep M i = i ∨ (∃ j, M[i]? = some (some j) ∧ j < i ∧ rep M i = j) := by
 cases e : M[i]? with
 | none => exact .inl (by unfold rep; rw [e])
 | some o =>
  cases o with
  | none => exact .inl (by unfold rep; rw [e])
  | some j =>
   by_cases h : j < i
   ·exact .inr ⟨j, rfl, h, by unfold rep; rw [e]; exact if_pos h⟩
   ·exact .inl (by unfold rep; rw [e]; exact if_neg h)
theorem flat_get {M : List (Option Nat)} {s t : Int} {i : Nat} {x : Int} (h : (flat M s t)[i]? = some x) : i < M.length ∧ x = nm s t (rep M i) := by
 unfold flat at h
 rw [List.getElem?_map] at h
 by_cases hi : i < M.length
 ·rw [List.getElem?_range hi] at h
  exact ⟨hi, (Option.some.inj h).symm⟩
 ·rw [List.getElem?_eq_none (by simpa using hi)] at h
  cases h
theorem flat_at {M : List (Option Nat)} {s t : Int} {i : Nat} (hi : i < M.length) : (flat M s t)[i]? = some (nm s t (rep M i)) := by
 unfold flat
 rw [List.getElem?_map, List.getElem?_range hi]
 rfl
theorem td_flat {M : List (Option Nat)} {s t : Int} {n : Nat} (h1 : 1 ≤ n) (h2 : n ≤ 14) (hM : M.length = 3 * n) (hinv : ∀ (i j : Nat), M[i]? = some (some j) → M[j]? = some (some i) ∧ i ≠ j) (ht : t ∈ steps) : TD M (flat M s t) where
 n := ⟨n, h1, by omega, hM⟩
 len := by unfold flat; simp
 inv := hinv
 rng := fun i x h => by
  obtain ⟨_, rfl⟩ := flat_get h
  unfold nm
  omega
 eqv := fun i j x hi hj => by
  obtain ⟨li, ei⟩ := flat_get hi
  obtain ⟨lj, ej⟩ := flat_get hj
  have e : rep M i = rep M j := nm_inj ht (by have := rep_lt (M := M) li; omega) (by have := rep_lt (M := M) lj; omega) (ei.symm.trans ej)
  rcases rep_cases M i with a | ⟨a, ha, la, ra⟩
  ·rcases rep_cases M j with b | ⟨b, hb, lb, rb⟩
   ·exact .inl (a.symm.trans (e.trans b))
   ·have : b = i := by rw [← rb, ← e, a]
    subst this
    exact .inr (hinv j b hb).1
  ·rcases rep_cases M j with b | ⟨b, hb, lb, rb⟩
   ·have : a = j := by rw [← ra, e, b]
    subst this
    exact .inr ha
   ·have : a = b := by rw [← ra, e, rb]
    subst this
    have c1 := (hinv i a ha).1
    have c2 := (hinv j a hb).1
    rw [c1] at c2
    exact .inl (by cases c2; rfl)
 eqm := fun i j h => by
  obtain ⟨h', hne⟩ := hinv i j h
  have li : i < M.length := (List.getElem?_eq_some_iff.mp h).1
  have lj : j < M.length := (List.getElem?_eq_some_iff.mp h').1
  rw [flat_at li, flat_at lj]
  have e : rep M j = rep M i := by
   by_cases c : j < i
   ·have a : rep M i = j := by unfold rep; rw [h]; exact if_pos c
    have b : rep M j = j := by unfold rep; rw [h']; exact if_neg (by omega)
    rw [a, b]
   ·have a : rep M i = i := by unfold rep; rw [h]; exact if_neg c
    have b : rep M j = i := by unfold rep; rw [h']; exact if_pos (by omega)
    rw [a, b]
  rw [e]
end KT
set_option maxHeartbeats 4000000
namespace KT
open PySem L2
noncomputable def pl (ns : List Int) (n : Nat) (x : Int) : List Nat := (List.range n).filter fun i => decide (ns[i]? = some x)
noncomputable def keys (ns : List Int) : Nat → List Int
 | 0 => []
 | n + 1 => match ns[n]? with
  | some x => if x ∈ keys ns n then keys ns n else keys ns n ++ [x]
  | none => keys ns n
theorem pl_mem {ns : List Int} {n : Nat} {x : Int} {i : Nat} : i ∈ pl ns n x ↔ i < n ∧ ns[i]? = some x := by
 unfold pl
 rw [List.mem_filter, List.mem_range]
 simp
theorem pl_nodup (ns : List Int) (n : Nat) (x : Int) : (pl ns n x).Nodup := (List.nodup_range).sublist List.filter_sublist
theorem pl_sorted (ns : List Int) (n : Nat) (x : Int) : (pl ns n x).Pairwise (· < ·) := (List.pairwise_lt_range).sublist List.filter_sublist
theorem pl_same {ns : List Int} {n : Nat} {x : Int} (h : ns[n]? = some x) : pl ns (n + 1) x = pl ns n x ++ [n] := by
 unfold pl
 rw [List.range_succ, List.filter_append]
 congr 1
 simp [h]
theorem pl_other {ns : List Int} {n : Nat} {x : Int} (h : ns[n]? ≠ some x) : pl ns (n + 1) x = pl ns n x := by
 unfold pl
 rw [List.range_succ, List.filter_append]
 simp [h]
theorem keys_step {ns : List Int} {n : Nat} {x : Int} (h : ns[n]? = some x) : keys ns (n + 1) = if x ∈ keys ns n then keys ns n else keys ns n ++ [x] := by
 show (match ns[n]? with | some x => if x ∈ keys ns n then keys ns n else keys ns n ++ [x] | none => keys ns n) = _
 rw [h]
theorem keys_mem {ns : List Int} : ∀ {n : Nat} {x : Int}, x ∈ keys ns n ↔ ∃ i, i < n ∧ ns[i]? = some x
 | 0, x => by simp [keys]
 | n + 1, x => by
  have ih := keys_mem (ns := ns) (n := n) (x := x)
  have e : x ∈ keys ns (n + 1) ↔ x ∈ keys ns n ∨ ns[n]? = some x := by
   cases h : ns[n]? with
   | none =>
    have : keys ns (n + 1) = keys ns n := by
     show (match ns[n]? with | some x => if x ∈ keys ns n then keys ns n else keys ns n ++ [x] | none => keys ns n) = _
     rw [h]
    rw [this]; simp
   | some y =>
    rw [keys_step h]
    split
    ·constructor
     ·exact .inl
     ·rintro (z | z)
      ·exact z
      ·cases z; assumption
    ·rw [List.mem_append, List.mem_singleton]
     constructor
     ·rintro (z | z)
      ·exact .inl z
      ·exact .inr (by rw [z])
     ·rintro (z | z)
      ·exact .inl z
      ·exact .inr (by cases z; rfl)
  rw [e, ih]
  constructor
  ·rintro (⟨i, h1, h2⟩ | h)
   ·exact ⟨i, by omega, h2⟩
   ·exact ⟨n, by omega, h⟩
  ·rintro ⟨i, h1, h2⟩
   by_cases c : i = n
   ·subst c; exact .inr h2
   ·exact .inl ⟨i, by omega, h2⟩
theorem keys_nodup (ns : List Int) : ∀ n, (keys ns n).Nodup
 | 0 => List.nodup_nil
 | n + 1 => by
  have ih := keys_nodup ns n
  cases h : ns[n]? with
  | none =>
   have : keys ns (n + 1) = keys ns n := by
    show (match ns[n]? with | some x => if x ∈ keys ns n then keys ns n else keys ns n ++ [x] | none => keys ns n) = _
    rw [h]
   rw [this]; exact ih
  | some y =>
   rw [keys_step h]
   split
   ·exact ih
   ·rename_i c
    refine List.nodup_append.mpr ⟨ih, by simp, fun a ha b hb => ?_⟩
    rw [List.mem_singleton] at hb
    subst hb
    rintro rfl
    exact c ha
theorem keys_len (ns : List Int) : ∀ n, (keys ns n).length ≤ n
 | 0 => Nat.le_refl _
 | n + 1 => by
  have ih := keys_len ns n
  cases h : ns[n]? with
  | none =>
   have : keys ns (n + 1) = keys ns n := by
    show (match ns[n]? with | some x => if x ∈ keys ns n then keys ns n else keys ns n ++ [x] | none => keys ns n) = _
    rw [h]
   rw [this]; omega
  | some y =>
   rw [keys_step h]
   split
   ·omega
   ·rw [List.length_append, List.length_singleton]; omega
theorem pl_nil {ns : List Int} {n : Nat} {x : Int} (h : x ∉ keys ns n) : pl ns n x = [] := by
 cases e : pl ns n x with
 | nil => rfl
 | cons a r =>
  have : a ∈ pl ns n x := by rw [e]; exact List.mem_cons_self
  obtain ⟨h1, h2⟩ := pl_mem.mp this
  exact absurd (keys_mem.mpr ⟨a, h1, h2⟩) h
theorem pl_le2 {M : List (Option Nat)} {ns : List Int} (td : TD M ns) (n : Nat) (x : Int) : (pl ns n x).length ≤ 2 := by
 match e : pl ns n x with
 | [] => simp
 | [_] => simp
 | [_, _] => simp
 | a :: b :: c :: r =>
  exfalso
  have nd := pl_nodup ns n x
  rw [e] at nd
  have ha := (pl_mem.mp (show a ∈ pl ns n x by rw [e]; simp)).2
  have hb := (pl_mem.mp (show b ∈ pl ns n x by rw [e]; simp)).2
  have hc := (pl_mem.mp (show c ∈ pl ns n x by rw [e]; simp)).2
  simp only [List.nodup_cons, List.mem_cons, not_or] at nd
  obtain ⟨⟨n1, n2, _⟩, ⟨n3, _⟩, _⟩ := nd
  rcases td.eqv a b x ha hb with z | z
  ·exact n1 z
  ·rcases td.eqv a c x ha hc with y | y
   ·exact n2 y
   ·rw [z] at y
    cases y
    exact n3 rfl
theorem pl_cases {M : List (Option Nat)} {ns : List Int} (td : TD M ns) {x : Int} (hx : x ∈ keys ns ns.length) :
  (∃ a, pl ns ns.length x = [a] ∧ ns[a]? = some x ∧ M[a]? = some none) ∨ (∃ a b, a < b ∧ pl ns ns.length x = [a, b] ∧ ns[a]? = some x ∧ ns[b]? = some x ∧ M[a]? = some (some b) ∧ M[b]? = some (some a)) := by
 obtain ⟨i, h1, h2⟩ := keys_mem.mp hx
 have mi : i ∈ pl ns ns.length x := pl_mem.mpr ⟨h1, h2⟩
 have l2 := pl_le2 td ns.length x
 have st := pl_sorted ns ns.length x
 match e : pl ns ns.length x with
 | [] => rw [e] at mi; simp at mi
 | [a] =>
  obtain ⟨ga, ha⟩ := pl_mem.mp (show a ∈ pl ns ns.length x by rw [e]; simp)
  refine .inl ⟨a, rfl, ha, ?_⟩
  have la : a < M.length := by rw [← td.len]; exact ga
  cases q : M[a]? with
  | none => rw [List.getElem?_eq_none_iff] at q; omega
  | some o =>
   cases o with
   | none => rfl
   | some b =>
    exfalso
    have hb : ns[b]? = some x := by rw [td.eqm a b q]; exact ha
    have mb : b ∈ pl ns ns.length x := pl_mem.mpr ⟨(List.getElem?_eq_some_iff.mp hb).1, hb⟩
    rw [e, List.mem_singleton] at mb
    exact (td.inv a b q).2 mb.symm
 | [a, b] =>
  obtain ⟨ga, ha⟩ := pl_mem.mp (show a ∈ pl ns ns.length x by rw [e]; simp)
  obtain ⟨gb, hb⟩ := pl_mem.mp (show b ∈ pl ns ns.length x by rw [e]; simp)
  rw [e] at st
  have hab : a < b := by simpa using st
  rcases td.eqv a b x ha hb with z | z
  ·omega
  ·exact .inr ⟨a, b, hab, rfl, ha, hb, z, (td.inv a b z).1⟩
 | a :: b :: c :: r => rw [e] at l2; simp at l2
noncomputable def part (M : List (Option Nat)) (ns : List Int) (ks : List Int) : List (Option Nat) := (List.range M.length).map fun i => match ns[i]? with
 | some x => if x ∈ ks then M.getD i none else none
 | none => none
theorem part_len (M : List (Option Nat)) (ns ks : List Int) : (part M ns ks).length = M.length := by unfold part; simp
theorem part_get {M : List (Option Nat)} {ns ks : List Int} (td : TD M ns) {i : Nat} {x : Int} (h : ns[i]? = some x) : (part M ns ks)[i]? = some (if x ∈ ks then M.getD i none else none) := by
 have li : i < M.length := by rw [← td.len]; exact (List.getElem?_eq_some_iff.mp h).1
 unfold part
 rw [List.getElem?_map, List.getElem?_range li]
 simp [h]
theorem part_nil {M : List (Option Nat)} {ns : List Int} (td : TD M ns) : part M ns [] = List.replicate M.length none := by
 apply List.ext_getElem?
 intro i
 by_cases li : i < M.length
 ·obtain ⟨x, hx⟩ : ∃ x, ns[i]? = some x := ⟨_, List.getElem?_eq_getElem (by rw [td.len]; exact li)⟩
  rw [part_get td hx, List.getElem?_replicate, if_pos li]
  simp
 ·rw [List.getElem?_eq_none (by rw [part_len]; omega), List.getElem?_eq_none (by simp; omega)]
theorem part_all {M : List (Option Nat)} {ns : List Int} (td : TD M ns) : part M ns (keys ns ns.length) = M := by
 apply List.ext_getElem?
 intro i
 by_cases li : i < M.length
 ·have ln : i < ns.length := by rw [td.len]; exact li
  obtain ⟨x, hx⟩ : ∃ x, ns[i]? = some x := ⟨_, List.getElem?_eq_getElem ln⟩
  rw [part_get td hx, if_pos (keys_mem.mpr ⟨i, ln, hx⟩), List.getD_eq_getElem?_getD, List.getElem?_eq_getElem li]
  rfl
 ·rw [List.getElem?_eq_none (by rw [part_len]; omega), List.getElem?_eq_none (by omega)]
theorem part_rim {M : List (Option Nat)} {ns ks : List Int} (td : TD M ns) {x : Int} {a : Nat} (hp : pl ns ns.length x = [a]) (hm : M[a]? = some none) : part M ns (ks ++ [x]) = part M ns ks := by
 apply List.ext_getElem?
 intro i
 by_cases li : i < M.length
 ·have ln : i < ns.length := by rw [td.len]; exact li
  obtain ⟨y, hy⟩ : ∃ x, ns[i]? = some x := ⟨_, List.getElem?_eq_getElem ln⟩
  rw [part_get td hy, part_get td hy]
  by_cases c : y = x
  ·subst c
   have : i ∈ pl ns ns.length y := pl_mem.mpr ⟨ln, hy⟩
   rw [hp, List.mem_singleton] at this
   subst this
   have : M.getD i none = none := by rw [List.getD_eq_getElem?_getD, hm]; rfl
   rw [this]
   simp
  ·simp [c]
 ·rw [List.getElem?_eq_none (by rw [part_len]; omega), List.getElem?_eq_none (by rw [part_len]; omega)]
theorem part_sewn {M : List (Option Nat)} {ns ks : List Int} (td : TD M ns) {x : Int} {a b : Nat} (hp : pl ns ns.length x = [a, b]) (hab : a < b) (ha : M[a]? = some (some b)) (hb : M[b]? = some (some a)) :
  part M ns (ks ++ [x]) = ((part M ns ks).set a (some b)).set b (some a) := by
 have la : a < M.length := (List.getElem?_eq_some_iff.mp ha).1
 have lb : b < M.length := (List.getElem?_eq_some_iff.mp hb).1
 have na := (pl_mem.mp (show a ∈ pl ns ns.length x by rw [hp]; simp)).2
 have nb := (pl_mem.mp (show b ∈ pl ns ns.length x by rw [hp]; simp)).2
 apply List.ext_getElem?
 intro i
 by_cases li : i < M.length
 ·have ln : i < ns.length := by rw [td.len]; exact li
  obtain ⟨y, hy⟩ : ∃ x, ns[i]? = some x := ⟨_, List.getElem?_eq_getElem ln⟩
  rw [part_get td hy]
  by_cases cb : i = b
  ·subst cb
   rw [nb] at hy; cases hy
   rw [List.getElem?_set_self (by rw [List.length_set, part_len]; exact lb), if_pos (by simp), List.getD_eq_getElem?_getD, hb]
   rfl
  ·rw [List.getElem?_set_ne (Ne.symm cb)]
   by_cases ca : i = a
   ·subst ca
    rw [na] at hy; cases hy
    rw [List.getElem?_set_self (by rw [part_len]; exact la), if_pos (by simp), List.getD_eq_getElem?_getD, ha]
    rfl
   ·rw [List.getElem?_set_ne (Ne.symm ca), part_get td hy]
    have : y ≠ x := by
     rintro rfl
     have : i ∈ pl ns ns.length y := pl_mem.mpr ⟨ln, hy⟩
     rw [hp] at this
     simp at this
     omega
    simp [this]
 ·rw [List.getElem?_eq_none (by rw [part_len]; omega), List.getElem?_eq_none (by rw [List.length_set, List.length_set, part_len]; omega)]
end KT
set_option maxHeartbeats 4000000
namespace KT
open PySem L2
noncomputable def nV (i : Nat) : V := .int (i : Int)
theorem val_map {g : Int → V} {y : Int} : ∀ {ks : List Int}, valV (ks.map fun x => ((Sum.inl x : Key), g x)) (Sum.inl y) = if y ∈ ks then some (g y) else none
 | [] => by simp [valV]
 | k :: r => by
  have ih := val_map (g := g) (y := y) (ks := r)
  unfold valV at ih ⊢
  rw [List.map_cons, List.find?_cons]
  by_cases c : k = y
  ·subst c
   simp
  ·have : (decide ((Sum.inl k : Key) = Sum.inl y)) = false := by
    rw [decide_eq_false_iff_not]
    intro z
    cases z
    exact c rfl
   simp only [this]
   rw [ih]
   have : (y ∈ k :: r) ↔ y ∈ r := by
    rw [List.mem_cons]
    exact ⟨fun z => z.elim (fun w => absurd w.symm c) id, .inr⟩
   simp only [this]
theorem put_new {g : Int → V} {y : Int} {v : V} {ks : List Int} (h : y ∉ ks) : putK (ks.map fun x => ((Sum.inl x : Key), g x)) (Sum.inl y) v = (ks.map fun x => ((Sum.inl x : Key), g x)) ++ [(Sum.inl y, v)] := by
 unfold putK
 rw [if_neg]
 intro z
 rw [List.any_eq_true] at z
 obtain ⟨kv, h1, h2⟩ := z
 obtain ⟨x, hx, rfl⟩ := List.mem_map.mp h1
 have : (Sum.inl x : Key) = Sum.inl y := of_decide_eq_true h2
 cases this
 exact h hx
theorem put_old {g : Int → V} {y : Int} {v : V} {ks : List Int} (h : y ∈ ks) : putK (ks.map fun x => ((Sum.inl x : Key), g x)) (Sum.inl y) v = ks.map fun x => ((Sum.inl x : Key), if x = y then v else g x) := by
 unfold putK
 rw [if_pos]
 ·rw [List.map_map]
  apply List.map_congr_left
  intro x hx
  show (if (Sum.inl x : Key) = Sum.inl y then ((Sum.inl x : Key), v) else (Sum.inl x, g x)) = _
  by_cases c : x = y
  ·subst c; simp
  ·rw [if_neg (fun z => by cases z; exact c rfl), if_neg c]
 ·rw [List.any_eq_true]
  exact ⟨_, List.mem_map.mpr ⟨y, h, rfl⟩, by simp⟩
theorem map_at {α : Type} {f : α → V} {l : List α} {i : Nat} {x : α} (h : l[i]? = some x) : atI (l.map f) (i : Int) = some (f x) := atI_nat (by rw [List.getElem?_map, h]; rfl)
theorem upd_none {H : Hp} {p q : Addr} {o : HO} (h : upd H p o q = none) : q ≠ p ∧ H q = none := by
 by_cases c : q = p
 ·subst c; rw [upd_same] at h; cases h
 ·rw [upd_ne c] at h; exact ⟨c, h⟩
end KT
set_option maxHeartbeats 4000000
namespace KT
open PySem L2
noncomputable def after (p : Int) : Int := if p % 3 = 2 then p - 2 else p + 1
noncomputable def before (p : Int) : Int := if p % 3 = 0 then p + 2 else p - 1
noncomputable def fourL (left : Bool) (a b : Nat) : List Int := if left then [after a, before b, after b, before a] else [after a, before a, after b, before b]
noncomputable def mvI (left : Bool) (a b : Nat) (z : Int) : Int :=
 if z = after a then (if left then before b else before a) else if z = before b then (if left then after b else after a) else if z = after b then (if left then before a else before b) else if z = before a then (if left then after a else after b) else z
end KT
set_option maxHeartbeats 4000000
namespace KT
open PySem L2
noncomputable def mvN (left : Bool) (i j z : Nat) : Nat := (mvI left i j z).toNat
noncomputable def nst (left : Bool) (i j : Nat) (ns : List Int) (k : Nat) : List Int := (List.range ns.length).map fun z => if ((mvN (!left) i j z : Nat) : Int) ∈ (fourL left i j).take k then ns.getD (mvN (!left) i j z) 0 else ns.getD z 0
end KT
set_option maxHeartbeats 4000000
namespace KT
open PySem L2
noncomputable def side (p k : Nat) : Nat := p - p % 3 + (p + k) % 3
theorem side_lt {p k n : Nat} (h : p < 3 * n) : side p k < 3 * n := by unfold side; omega
theorem side_div (p k : Nat) : side p k / 3 = p / 3 := by unfold side; omega
end KT
set_option maxHeartbeats 4000000
namespace KT
open PySem L2
noncomputable def crossB (M : List (Option Nat)) (p : Int) : Bool := decide (0 ≤ p ∧ p < M.length) && (M.getD p.toNat none).isSome
noncomputable def followB (M : List (Option Nat)) (a p : Int) : Bool := match M.getD a.toNat none with
 | some m => decide (p / 3 = (m : Int) / 3) && !decide (p = (m : Int))
 | none => false
noncomputable def rot {α : Type} (ws : List α) (s : Nat) : List α := ws.drop s ++ ws.take s
noncomputable def pairB (M : List (Option Nat)) (ws vs : List Int) : List Bool := (ws.zip vs).map fun p => followB M p.1 p.2
noncomputable def plainB (M : List (Option Nat)) (ws : List Int) : Bool := !ws.isEmpty && ((ws.map (crossB M)).all id && (pairB M ws (rot ws (1 % ws.length))).all id)
theorem rot_len {α : Type} (ws : List α) {s : Nat} (h : s ≤ ws.length) : (rot ws s).length = ws.length := by
 unfold rot
 rw [List.length_append, List.length_drop, List.length_take]
 omega
theorem rot_zero {α : Type} (ws : List α) : rot ws 0 = ws := by unfold rot; simp
theorem rot_get {α : Type} {ws : List α} {s k : Nat} (hs : s < ws.length) (hk : k < ws.length) : (rot ws s)[k]? = ws[(k + s) % ws.length]? := by
 unfold rot
 by_cases c : k < ws.length - s
 ·rw [List.getElem?_append_left (by rw [List.length_drop]; exact c), List.getElem?_drop, Nat.mod_eq_of_lt (by omega), Nat.add_comm]
 ·rw [List.getElem?_append_right (by rw [List.length_drop]; omega), List.length_drop, List.getElem?_take_of_lt (by omega)]
  have : (k + s) % ws.length = k - (ws.length - s) := by
   rw [show k + s = (k - (ws.length - s)) + ws.length by omega, Nat.add_mod_right, Nat.mod_eq_of_lt (by omega)]
  rw [this]
structure Pl (M : List (Option Nat)) (ws : List Nat) : Prop where
 ne : ws ≠ []
 has : ∀ p ∈ ws, ∃ m, M[p]? = some (some m)
 nxt : ∀ (k : Nat) (a p : Nat), ws[k]? = some a → ws[(k + 1) % ws.length]? = some p → ∀ m, M[a]? = some (some m) → p / 3 = m / 3 ∧ p ≠ m
noncomputable abbrev wI (ws : List Nat) : List Int := ws.map fun (x : Nat) => (x : Int)
theorem cross_nat {M : List (Option Nat)} {p : Nat} : crossB M (p : Int) = true ↔ ∃ m, M[p]? = some (some m) := by
 unfold crossB
 rw [Bool.and_eq_true, decide_eq_true_eq, Int.toNat_natCast]
 constructor
 ·rintro ⟨⟨_, h1⟩, h2⟩
  have h1 : p < M.length := by omega
  rw [List.getD_eq_getElem?_getD, List.getElem?_eq_getElem h1] at h2
  obtain ⟨m, hm⟩ := Option.isSome_iff_exists.mp h2
  exact ⟨m, by rw [List.getElem?_eq_getElem h1]; exact congrArg some hm⟩
 ·rintro ⟨m, hm⟩
  have h1 : p < M.length := (List.getElem?_eq_some_iff.mp hm).1
  exact ⟨⟨by omega, by omega⟩, by rw [List.getD_eq_getElem?_getD, hm]; rfl⟩
theorem follow_nat {M : List (Option Nat)} {a p m : Nat} (h : M[a]? = some (some m)) : followB M (a : Int) (p : Int) = true ↔ p / 3 = m / 3 ∧ p ≠ m := by
 unfold followB
 rw [Int.toNat_natCast, List.getD_eq_getElem?_getD, h]
 show (decide ((p : Int) / 3 = (m : Int) / 3) && !decide ((p : Int) = (m : Int))) = true ↔ _
 rw [Bool.and_eq_true, decide_eq_true_eq, Bool.not_eq_true', decide_eq_false_iff_not]
 omega
theorem zip_all {M : List (Option Nat)} {ws vs : List Int} (hl : ws.length = vs.length) : (pairB M ws vs).all id = true ↔ ∀ (k : Nat) (a p : Int), ws[k]? = some a → vs[k]? = some p → followB M a p = true := by
 unfold pairB
 rw [List.all_eq_true]
 constructor
 ·intro h k a p ha hp
  refine h (followB M a p) (List.mem_map.mpr ⟨(a, p), ?_, rfl⟩)
  exact List.mem_of_getElem? (i := k) (by rw [List.getElem?_zip_eq_some]; exact ⟨ha, hp⟩)
 ·intro h b hb
  obtain ⟨⟨a, p⟩, hm, rfl⟩ := List.mem_map.mp hb
  obtain ⟨k, hk⟩ := List.getElem?_of_mem hm
  rw [List.getElem?_zip_eq_some] at hk
  exact h k a p hk.1 hk.2
theorem plain_iff {M : List (Option Nat)} {ws : List Nat} : plainB M (wI ws) = true ↔ Pl M ws := by
 have hl : (wI ws).length = ws.length := by simp
 unfold plainB
 rw [Bool.and_eq_true, Bool.and_eq_true, Bool.not_eq_true', hl]
 constructor
 ·rintro ⟨h0, h1, h2⟩
  have hne : ws ≠ [] := by
   rintro rfl
   cases h0
  have hpos : 0 < ws.length := by cases ws with | nil => exact absurd rfl hne | cons _ _ => simp
  have hh : ∀ p ∈ ws, ∃ m, M[p]? = some (some m) := fun p hp => by
   refine cross_nat.mp (List.all_eq_true.mp h1 _ (List.mem_map.mpr ⟨(p : Int), List.mem_map.mpr ⟨p, hp, rfl⟩, rfl⟩))
  refine ⟨hne, hh, fun k a p ha hp m hm => ?_⟩
  have hs : 1 % ws.length < (wI ws).length := by rw [hl]; exact Nat.mod_lt _ hpos
  have hk : k < (wI ws).length := by rw [hl]; exact (List.getElem?_eq_some_iff.mp ha).1
  refine (follow_nat hm).mp ((zip_all (by rw [rot_len _ (Nat.le_of_lt hs)])).mp h2 k a p (by rw [List.getElem?_map, ha]; rfl) ?_)
  rw [rot_get hs hk, hl, show (k + 1 % ws.length) % ws.length = (k + 1) % ws.length by rw [Nat.add_mod_mod], List.getElem?_map, hp]
  rfl
 ·rintro ⟨h0, h1, h2⟩
  have hpos : 0 < ws.length := by cases ws with | nil => exact absurd rfl h0 | cons _ _ => simp
  have hs : 1 % ws.length < (wI ws).length := by rw [hl]; exact Nat.mod_lt _ hpos
  refine ⟨by cases ws with | nil => exact absurd rfl h0 | cons _ _ => rfl, ?_, ?_⟩
  ·rw [List.all_eq_true]
   intro b hb
   obtain ⟨p', hp', rfl⟩ := List.mem_map.mp hb
   obtain ⟨p, hp, rfl⟩ := List.mem_map.mp hp'
   exact cross_nat.mpr (h1 p hp)
  ·refine (zip_all (by rw [rot_len _ (Nat.le_of_lt hs)])).mpr fun k a p ha hp => ?_
   have hk : k < (wI ws).length := (List.getElem?_eq_some_iff.mp ha).1
   rw [rot_get hs hk, hl, show (k + 1 % ws.length) % ws.length = (k + 1) % ws.length by rw [Nat.add_mod_mod]] at hp
   rw [List.getElem?_map] at ha hp
   cases ea : ws[k]? with
   | none => rw [ea] at ha; cases ha
   | some a' =>
    cases ep : ws[(k + 1) % ws.length]? with
    | none => rw [ep] at hp; cases hp
    | some p' =>
     rw [ea] at ha; cases ha
     rw [ep] at hp; cases hp
     obtain ⟨m, hm⟩ := h1 a' (List.mem_of_getElem? ea)
     exact (follow_nat hm).mpr (h2 k a' p' ea ep m hm)
structure Ch (M : List (Option Nat)) (row : List Nat) : Prop where
 has : ∀ p ∈ row, ∃ m, M[p]? = some (some m)
 nxt : ∀ (k : Nat) (a p m : Nat), row[k]? = some a → row[k + 1]? = some p → M[a]? = some (some m) → p / 3 = m / 3 ∧ p ≠ m
theorem Ch.one {M : List (Option Nat)} {p m : Nat} (h : M[p]? = some (some m)) : Ch M [p] := by
 refine ⟨fun q hq => ?_, fun k a q m' _ hq => ?_⟩
 ·rw [List.mem_singleton] at hq; subst hq; exact ⟨m, h⟩
 ·simp at hq
theorem Ch.snoc {M : List (Option Nat)} {row : List Nat} {a p m : Nat} (h : Ch M row) (hl : row.getLast? = some a) (hm : M[a]? = some (some m)) (h1 : p / 3 = m / 3) (h2 : p ≠ m) (hp : ∃ q, M[p]? = some (some q)) : Ch M (row ++ [p]) := by
 refine ⟨fun q hq => ?_, fun k b q m' hb hq hm' => ?_⟩
 ·rcases List.mem_append.mp hq with z | z
  ·exact h.has q z
  ·rw [List.mem_singleton] at z; subst z; exact hp
 ·by_cases c : k + 1 < row.length
  ·rw [List.getElem?_append_left c] at hq
   rw [List.getElem?_append_left (by omega)] at hb
   exact h.nxt k b q m' hb hq hm'
  ·have hk : k + 1 < (row ++ [p]).length := (List.getElem?_eq_some_iff.mp hq).1
   rw [List.length_append, List.length_singleton] at hk
   have hk : k + 1 = row.length := by omega
   rw [List.getElem?_append_right (by omega), hk] at hq
   have : q = p := by simpa using hq.symm
   subst this
   rw [List.getElem?_append_left (by omega)] at hb
   rw [List.getLast?_eq_getElem?, show row.length - 1 = k by omega, hb] at hl
   cases hl
   rw [hm] at hm'
   cases hm'
   exact ⟨h1, h2⟩
theorem Ch.cut {M : List (Option Nat)} {row : List Nat} {s e a : Nat} (h : Ch M row) (hse : s < e) (h1 : row[s]? = some a) (h2 : row[e]? = some a) : Pl M ((row.drop s).take (e - s)) := by
 have he : e < row.length := (List.getElem?_eq_some_iff.mp h2).1
 have hl : ((row.drop s).take (e - s)).length = e - s := by rw [List.length_take, List.length_drop]; omega
 have gt : ∀ k, k < e - s → ((row.drop s).take (e - s))[k]? = row[s + k]? := fun k hk => by rw [List.getElem?_take_of_lt hk, List.getElem?_drop]
 refine ⟨fun z => by rw [z] at hl; simp at hl; omega, fun p hp => ?_, fun k b p hb hp m hm => ?_⟩
 ·exact h.has p (List.mem_of_mem_drop (List.mem_of_mem_take hp))
 ·rw [hl] at hp
  have hk : k < e - s := by have := (List.getElem?_eq_some_iff.mp hb).1; rw [hl] at this; exact this
  rw [gt k hk] at hb
  by_cases c : k + 1 < e - s
  ·rw [Nat.mod_eq_of_lt c, gt _ c] at hp
   exact h.nxt (s + k) b p m hb (by rw [show s + k + 1 = s + (k + 1) by omega]; exact hp) hm
  ·have hk : k + 1 = e - s := by omega
   rw [hk, Nat.mod_self, gt 0 (by omega), Nat.add_zero, h1] at hp
   cases hp
   exact h.nxt (s + k) b a m hb (by rw [show s + k + 1 = e by omega]; exact h2) hm
end KT
set_option maxHeartbeats 4000000
namespace KT
open PySem L2
section
variable {α : Type}
theorem repl_get (l : List α) : ∀ (m k : Nat), k < m * l.length → (List.replicate m l).flatten[k]? = l[k % l.length]?
 | 0, k, h => by simp at h
 | m + 1, k, h => by
  rw [List.replicate_succ, List.flatten_cons]
  by_cases c : k < l.length
  ·rw [List.getElem?_append_left c, Nat.mod_eq_of_lt c]
  ·have hl : 0 < l.length := by
    cases l with
    | nil => simp at h
    | cons _ _ => simp
   rw [List.getElem?_append_right (by omega), repl_get l m (k - l.length) (by rw [Nat.succ_mul] at h; omega)]
   congr 1
   rw [Nat.mod_eq_sub_mod (by omega : k ≥ l.length)]
theorem repl_len (l : List α) (m : Nat) : (List.replicate m l).flatten.length = m * l.length := by
 induction m with
 | zero => simp
 | succ m ih => rw [List.replicate_succ, List.flatten_cons, List.length_append, ih, Nat.succ_mul, Nat.add_comm]
end
end KT
set_option maxHeartbeats 4000000
namespace L2
open PySem PySem.Spec PyProof.Rows
end L2
set_option maxHeartbeats 4000000
namespace L2
open PySem PySem.Spec PyProof.Rows
section
variable {X : Cx}
noncomputable def CDivB (i j : Int) : Prop := 0 < j ∧ j.natAbs.log2 < 9000
end
end L2
set_option maxHeartbeats 4000000
namespace HL
open PySem PyProof.Rows HT
end HL
set_option maxHeartbeats 4000000
namespace L2
open PySem PySem.Spec PyProof.Rows
end L2
namespace HT
end HT
set_option maxHeartbeats 4000000
namespace L2
open PySem PySem.Spec PyProof.Rows
end L2
set_option maxHeartbeats 4000000
namespace L2
open PySem PySem.Spec PyProof.Rows
section
variable {X : Cx} {pins : List (Addr × Obj)} {σ : St} {H : Hp} {s : Shared} {a : Addr} {y v : V} {u r : Value} {A : Around} {E : Value → Shared → Prop}
theorem d_set {kvs : List (Key × V)} {k : Key} {Q : Unit → Shared → Prop} (I : Inv X pins σ H s) (e : H a = some (.dK kvs)) (l : kvs.length < sizeLine) (ry : RelV (kV k) u) (rv : RelV v r) (h : ∀ s', Inv X pins σ (upd H a (.dK (putK kvs k v))) s' → Q () s') :
  wpAny (model X.prog X.w) A (dictSet a u r) Q E s := by
 obtain ⟨z, hd, vs, rel, dd⟩ := dk_of I.hok e
 have hz : vs.length ≤ sizeLine := by rw [← rel.length]; exact z
 have hl : (putK kvs k v).length ≤ sizeLine := by have := length_putK kvs k v; omega
 refine wpAny_dictSet_pairs (hsz := hz) (kV_is ry) dd fun h' dd' hs => h _ ?_
 have he : ∃ q, h'.get? a = some q := let ⟨q, _, _, hq, _⟩ := dd'; ⟨q, hq⟩
 exact d_write I (by rw [e]; exact True.intro) hs he (dk_new hl hd (rel.put k rv) dd')
end
noncomputable def tDEmit (tk tv : TE) (D : Addr) : TB := fun σ H N => tk σ H fun x H1 => tv σ H1 fun v H2 => ∃ kvs k, x = kV k ∧ H2 D = some (.dK kvs) ∧ kvs.length < sizeLine ∧ N σ (upd H2 D (.dK (putK kvs k v)))
section
variable {X : Cx}
theorem pb_demit {kx vx : Expr} {tk tv : TE} {D : Addr} {c : Code} {p : Pos} (hk : PE X kx tk) (hv : PE X vx tv) :
  PB X ((eval kx X.env >>= fun kv => holding [kv] (eval vx X.env) >>= fun vv => standAt p >>= fun _ => holding [kv, vv] (dictSet D kv vv)) >>= fun _ => again c) c (tDEmit tk tv D) := by
 intro pins s σ H N I h
 refine wpAny_bind (wpAny_bind (thn (hk pins s σ H _ I h) fun u s1 zz34 => ?_))
 obtain ⟨x, H1, I1, r1, q1⟩ := zz34
 refine wpAny_bind (wpAny_holding (thn (hv pins s1 σ H1 _ I1 q1) fun w s2 zz35 => ?_))
 obtain ⟨v, H2, I2, r2, q2⟩ := zz35
 refine wpAny_bind (wpAny_standAt (wpAny_holding ?_))
 obtain ⟨kvs, k, rfl, hD, hl, q⟩ := q2
 exact d_set I2 hD hl r1 r2 fun s3 I3 => wpAny_pure ⟨rfl, σ, _, I3, q⟩
end
noncomputable def tDComp (ts : List Str) (fv : List (Str × Nat)) (wi : TI) (g : TG) (tt : TT) (tb : Addr → TB) : TE := fun σ H Q => wi σ H fun J H1 => ∀ D, H1 D = none →
 LoopR J g tt (tb D) (fun _ H' => Q (.ref D) H') (blkS ts fv σ) (upd H1 D (.dK []))
section
variable {X : Cx} {ts : List Str} {fv : List (Str × Nat)} {scope : Scope} {kx vx t0 i0 : Expr} {f0 : List Expr} {rest : List Comprehension} {pos : Pos} {wi : TI} {g : TG} {tt : TT} {tb : Addr → TB} {kont : Env → Addr → Addr → Sem Fin}
theorem dcomp_core (B : BlkOk X scope fv) (hc : X.calm = true) (hi : PI X t0 i0 wi)
  (hg : ∀ C s₀ H₀ ex, PG (blkCx X (blkN ts fv) scope C s₀ H₀ ex) t0 g) (ht : ∀ C s₀ H₀ ex, PTs (blkCx X (blkN ts fv) scope C s₀ H₀ ex) f0 tt)
  (heq : ∀ (env : Env) (it D : Addr), compTurn (.DictComp kx vx (⟨t0, i0, f0, 0⟩ :: rest) scope pos) 0 (.ref it) (.ref D) env = (standAt i0.pos >>= fun _ => pyNext (.ref it) >>= fun r => match r with
   | none => pure (.done .next)
   | some v => letOwnedTupleGo t0 (.ref it) v >>= fun _ => assign t0 env v >>= fun _ =>
    (forIn f0 true fun c r => if r = true then do let ok ← isTrue c env (eval c env); pure (ForInStep.yield ok) else pure (ForInStep.yield r)) >>= fun ok =>
     if ok = true then kont env it D else again (.compLoop (.DictComp kx vx (⟨t0, i0, f0, 0⟩ :: rest) scope pos) 0 (.ref it) (.ref D) env)))
  (hb : ∀ C s₀ H₀ ex it D, PB (blkCx X (blkN ts fv) scope C s₀ H₀ ex) (kont (blkCx X (blkN ts fv) scope C s₀ H₀ ex).env it D) (.compLoop (.DictComp kx vx (⟨t0, i0, f0, 0⟩ :: rest) scope pos) 0 (.ref it) (.ref D) (blkCx X (blkN ts fv) scope C s₀ H₀ ex).env) (tb D))
  {pins : List (Addr × Obj)} {s : Shared} {σ : St} {H : Hp} {Q : VK} {RR : Value → Addr → Result → Shared → Prop} (I : Inv X pins σ H s) (h : tDComp ts fv wi g tt tb σ H Q)
  (hRR : ∀ D C s' H', Inv X pins σ H' s' → H' C = none → X.s₀.heap.objs.size ≤ C → C ≠ X.env.locals → (∀ x c, X.env.cells.lookup x = some c → c ≠ C) → (∀ p ∈ X.pn ++ pins, p.1 ≠ C) → (∃ m, s'.heap.Ns C m) → Q (.ref D) H' → RR (.ref D) C (.ok .next) s') :
  wpAny (model X.prog X.w) X.A (eval i0 X.env) (fun x s₁ => wpAny (model X.prog X.w) X.A (pyIter x) (fun it s₂ => wpAny (model X.prog X.w) X.A newDict (fun acc s₃ =>
   wpAny (model X.prog X.w) X.A (newFunctionEnv scope X.env.globals (cloList X.env scope.names []) [] X.env.qual none .none (some X.env)) (fun cenv s₄ =>
    codeAny (model X.prog X.w) X.A (.compStart (.DictComp kx vx (⟨t0, i0, f0, 0⟩ :: rest) scope pos) 0 it acc { cenv with scope := relabel scope X.env }) (RR acc cenv.locals) s₄) X.xe s₃) X.xe s₂) X.xe s₁) X.xe s := by
 refine thn (hi pins s σ H _ I h) fun v s1 h1 => thn h1 fun itv s2 h2 => ?_
 obtain ⟨it, fp, tn, J, H2, e, I2, T, st2, f2, L⟩ := h2
 subst e
 have L := L s2.heap.objs.size I2.fresh
 refine wpAny_newObj_type ?_
 have I3 : Inv X pins σ (upd H2 s2.heap.objs.size (.dK [])) { s2 with heap := s2.heap.push { cls := .type "dict", data := .dict #[] }, toks := s2.toks } := I2.laid (a := s2.heap.objs.size) (o := .dK []) (t' := s2.toks) (fun _ _ q => Heap.get?_push_of_some _ q) (Nat.le_refl _) (dk_empty s2.heap I2.big)
 have ho2 : ∀ b ∈ fp, ∃ o, s2.heap.get? b = some o ∧ ∀ v, o.data ≠ .cell v := T.obj _ _ st2
 have f3 : ∀ b ∈ fp, FpOk X pins (upd H2 s2.heap.objs.size (.dK [])) b := fun b hb => by
  obtain ⟨o, ho, _⟩ := ho2 b hb
  refine ⟨?_, (f2 b hb).2⟩
  rw [upd_ne (Nat.ne_of_lt (Heap.lt_size ho))]
  exact (f2 b hb).1
 have st3 : tn 0 (s2.heap.push { cls := .type "dict", data := .dict #[] }) := T.keep _ _ _ st2 fun b _ o e => Heap.get?_push_of_some _ e
 have ho3 : ∀ b ∈ fp, ∃ o, (s2.heap.push { cls := .type "dict", data := .dict #[] }).get? b = some o := fun b hb => let ⟨o, e, _⟩ := ho2 b hb; ⟨o, Heap.get?_push_of_some _ e⟩
 generalize hs3 : ({ s2 with heap := s2.heap.push { cls := .type "dict", data := .dict #[] }, toks := s2.toks } : Shared) = s3 at I3
 have eh : s2.heap.push { cls := .type "dict", data := .dict #[] } = s3.heap := by rw [← hs3]
 rw [eh] at st3 ho3
 refine wpAny_newFunctionEnv B.nocell (by intro y hy; simp at hy) (fun h₁ hns hsb => ?_) B.kind
 have hk : ∀ b o, s3.heap.get? b = some o → h₁.get? b = some o := fun b o e => hsb.extBut b o (Nat.ne_of_lt (Heap.lt_size e)) (Heap.get?_push_of_some _ e)
 have I4 := blk_start (ts := ts) (tk := s3.toks + ([] : List (Str × Value)).length) B I3 f3 ho3 hns hk
 have f4 : ∀ b ∈ fp, FpOk (blkCx X (blkN ts fv) scope s3.heap.objs.size s3 (upd H2 s2.heap.objs.size (.dK [])) fp) [] (upd H2 s2.heap.objs.size (.dK [])) b := fun b hb => by
  obtain ⟨f0, f1, f2', f3', f4', f5'⟩ := f3 b hb
  obtain ⟨o, eo⟩ := ho3 b hb
  exact ⟨f0, Nat.ne_of_lt (Heap.lt_size eo), I4.ok.exfs b hb, .inl hb, (I4.ok.exf b hb).2, fun p hp => absurd (show p ∈ ([] : List (Addr × Obj)) from hp) (by simp)⟩
 have st4 : tn 0 h₁ := T.keep _ _ _ st3 fun b _ o e => hk b o e
 have loop : codeAny (model X.prog X.w) X.A (.compLoop (.DictComp kx vx (⟨t0, i0, f0, 0⟩ :: rest) scope pos) 0 (.ref it) (.ref s2.heap.objs.size) (blkCx X (blkN ts fv) scope s3.heap.objs.size s3 (upd H2 s2.heap.objs.size (.dK [])) fp).env)
   (RR (.ref s2.heap.objs.size) s3.heap.objs.size) { s3 with heap := h₁, toks := s3.toks + ([] : List (Str × Value)).length } := by
  refine comp_loop (X := blkCx X (blkN ts fv) scope s3.heap.objs.size s3 (upd H2 s2.heap.objs.size (.dK [])) fp) (tg := t0) (ifs := f0) (R := fun _ H' => Q (.ref s2.heap.objs.size) H') rfl rfl rfl rfl (heq _ it s2.heap.objs.size) T hc (hg _ _ _ _) (ht _ _ _ _) (hb _ _ _ _ it s2.heap.objs.size) f4 I4 st4 L fun s' σ' H' J' q => ?_
  obtain ⟨e1, e2, e3, e4, e5, e6⟩ := blk_end I3 f3 (Nat.le_refl _) J'
  obtain ⟨m, hm, _⟩ := J'.loc
  exact hRR _ _ s' H' e1 e2 e3 e4 e5 e6 ⟨m, hm⟩ q
 exact codeAny_compStart_dict loop (T.self _ _ _ _ _ st4 loop)
theorem pe_dcompG (B : BlkOk X scope fv) (hc : X.calm = true) (hi : PI X t0 i0 wi)
  (hg : ∀ C s₀ H₀ ex, PG (blkCx X (blkN ts fv) scope C s₀ H₀ ex) t0 g) (ht : ∀ C s₀ H₀ ex, PTs (blkCx X (blkN ts fv) scope C s₀ H₀ ex) f0 tt)
  (heq : ∀ (env : Env) (it D : Addr), compTurn (.DictComp kx vx (⟨t0, i0, f0, 0⟩ :: rest) scope pos) 0 (.ref it) (.ref D) env = (standAt i0.pos >>= fun _ => pyNext (.ref it) >>= fun r => match r with
   | none => pure (.done .next)
   | some v => letOwnedTupleGo t0 (.ref it) v >>= fun _ => assign t0 env v >>= fun _ =>
    (forIn f0 true fun c r => if r = true then do let ok ← isTrue c env (eval c env); pure (ForInStep.yield ok) else pure (ForInStep.yield r)) >>= fun ok =>
     if ok = true then kont env it D else again (.compLoop (.DictComp kx vx (⟨t0, i0, f0, 0⟩ :: rest) scope pos) 0 (.ref it) (.ref D) env)))
  (hb : ∀ C s₀ H₀ ex it D, PB (blkCx X (blkN ts fv) scope C s₀ H₀ ex) (kont (blkCx X (blkN ts fv) scope C s₀ H₀ ex).env it D) (.compLoop (.DictComp kx vx (⟨t0, i0, f0, 0⟩ :: rest) scope pos) 0 (.ref it) (.ref D) (blkCx X (blkN ts fv) scope C s₀ H₀ ex).env) (tb D))
  (hs : ∀ x, foldedSetIterable i0 X.env x = pure x := by intro _; rfl) :
  PE X (.DictComp kx vx (⟨t0, i0, f0, 0⟩ :: rest) scope pos) (tDComp ts fv wi g tt tb) := by
 intro pins s σ H Q I h
 show wpAny _ X.A (comprehension (.DictComp kx vx (⟨t0, i0, f0, 0⟩ :: rest) scope pos) scope X.env _ newDict false (eval i0 X.env)) _ _ s
 refine wpAny_comprehension_free (use := none) rfl hs (closure_run fun y hy e => I.ok.has y.1 (B.free y hy e)) B.kind B.names ?_
 refine dcomp_core (RR := fun acc C => compPost (model X.prog X.w) X.A X.xe none (EP X pins σ Q) acc C) B hc hi hg ht heq hb I h fun D C s' H' I' e2 e3 e4 e5 e6 hm q => ?_
 obtain ⟨m, hm⟩ := hm
 exact ⟨m, hm, fun h' hs' => ⟨.ref D, H', I'.apart hs' e2 e3 e4 e5 e6, rfl, q⟩⟩
end
end L2
set_option maxHeartbeats 4000000
namespace L2
open PySem PySem.Spec PyProof.Rows
section
variable {X : Cx} {pins : List (Addr × Obj)} {σ : St} {H : Hp} {s : Shared} {a : Addr}
theorem Inv.thaw {kvs : List (Key × V)} {ob : Obj} (I : Inv X pins σ H s) (e : H a = some (.frz ob (.dK kvs))) (h0 : ∀ o u, X.H₀ a ≠ some (.frz o u)) : Inv X pins σ (upd H a (.dK kvs)) s := by
 have nown : ∀ c y, H c = some (.own y) → c ≠ a := fun c y r z => by subst z; rw [r] at e; cases e
 have ntup : ∀ c xs, H c = some (.tup xs) → c ≠ a := fun c xs r z => by subst z; rw [r] at e; cases e
 have nnon : ∀ c, H c = none → c ≠ a := fun c r z => by subst z; rw [r] at e; cases e
 have hok : HOk X.prog X.w (upd H a (.dK kvs)) s.heap := fun b v q => by
  have st : ∀ c w', ObjOk X.prog X.w H s.heap c w' → ObjOk X.prog X.w (upd H a (.dK kvs)) s.heap c w' := fun c w' x => x.stay (fun _ _ _ q => q) (fun d r => by rw [upd_ne (nown d c r)]; exact r) fun d xs r => by rw [upd_ne (ntup d xs r)]; exact r
  by_cases hb : b = a
  ·subst hb
   rw [upd_same] at q
   cases q
   exact st _ _ (I.hok _ _ e).2
  ·rw [upd_ne hb] at q
   exact st _ _ (I.hok b v q)
 refine ⟨I.ok, I.os, I.bare, ⟨I.base.keep, I.base.slot, fun b o q n hx => ?_, I.base.there, fun b xs q => ?_, fun b o u q => ?_, fun b ps q => ?_⟩, I.loc, I.cell, ?_, fun x c q => ?_, fun p hp => ?_, hok, I.len⟩
 ·have := I.base.free b o q n hx
  rw [upd_ne (nnon b this)]; exact this
 ·have := I.base.tups b xs q
  rw [upd_ne (ntup b xs this)]; exact this
 ·have := I.base.frzs b o u q
  rw [upd_ne (fun z => by subst z; exact h0 _ _ q)]; exact this
 ·obtain ⟨more, z⟩ := I.base.tbls b ps q
  exact ⟨more, by rw [upd_ne (fun w => by subst w; rw [z] at e; cases e)]; exact z⟩
 ·have := I.free
  rw [upd_ne (nnon _ this)]; exact this
 ·have := I.freeC x c q
  rw [upd_ne (nnon _ this)]; exact this
 ·obtain ⟨q1, q2, q3⟩ := I.pin p hp
  exact ⟨q1, by rw [upd_ne (nnon _ q2)]; exact q2, q3⟩
end
noncomputable def tThaw (H0 : Hp) (t : TS) : TS := fun D σ H => t { D with nx := fun σ' H' => ∃ (a : Addr) (o : Obj) (kvs : List (Key × V)), H' a = some (.frz o (.dK kvs)) ∧ (∀ o u, H0 a ≠ some (.frz o u)) ∧ D.nx σ' (upd H' a (.dK kvs)) } σ H
theorem ps_thaw {X : Cx} {st : Stmt} {t : TS} (h : PS X st t) : PS X st (tThaw X.H₀ t) := by
 intro pins s σ H D I hw
 refine wpAny_mono (h pins s σ H _ I hw) (fun f s' q => ?_) fun _ _ e => e
 cases f with
 | next =>
  obtain ⟨σ', H', I', a, o, kvs, e, h0, q⟩ := q
  exact ⟨σ', _, I'.thaw e h0, q⟩
 | ret v => exact q
 | brk => exact q
 | cont => exact q
end L2
set_option maxHeartbeats 4000000
namespace L2
open PySem PySem.Spec PyProof.Rows
section
variable {X : Cx}
theorem strsAre_of {ys : List Str} : ∀ {us : List Value}, Vals (ys.map V.str) us → StrsAre us ys := by
 induction ys with
 | nil => intro us r; rw [List.map_nil] at r; cases r; exact .nil
 | cons y ys ih =>
  intro us r
  rw [List.map_cons] at r
  cases r with
  | cons r1 r2 =>
   obtain ⟨t, e⟩ := r1
   subst e
   exact .cons y t (ih r2)
noncomputable def rJoin (K : PySem.W.Frag) : V → List V → Hp → VK → Prop := fun o xs H Q => ∃ sep p ys, o = .str sep ∧ xs = [.ref p] ∧ SqL K H p (List.map V.str ys) ∧ sep.length ≤ 16 ∧ (ys.map (·.length)).sum + ys.length ≤ 1048576 ∧ Q (.str (Txt.join sep ys)) H
theorem mt_join : MtR X "str.join" (rJoin X.K) := by
 intro pins s σ H x xs v us Q I rx rs h
 obtain ⟨sep, p, ys, rfl, rfl, hq, h1, h2, q⟩ := h
 obtain ⟨t, rfl⟩ := rx
 obtain ⟨u, rfl, ru⟩ := vals1 rs
 cases ru
 obtain ⟨its, rv, pl, _⟩ := I.list hq
 exact join_listW pl.isList (by simpa using strsAre_of rv) h1 h2 fun t' k => ⟨.str _, H, I.tok _, ⟨_, rfl⟩, q⟩
end
end L2
namespace L2
open PySem PySem.Spec PyProof.Rows
theorem glue_fold : ∀ (l : List Str) (a : Array Nat), (l.foldl (fun acc p => acc ++ (Str.ofString "").cps ++ p.cps) a).toList = a.toList ++ (l.map fun y => y.cps.toList).flatten
 | [], a => by simp
 | y :: r, a => by
  rw [List.foldl_cons, glue_fold r]
  have : (Str.ofString "").cps = #[] := by decide +kernel
  rw [this]
  simp
theorem join_cps (ys : List Str) : (Txt.join (Str.ofString "") ys).cps.toList = (ys.map fun y => y.cps.toList).flatten := by
 unfold Txt.join Builtin.Str.glued
 cases ys with
 | nil => rfl
 | cons y r =>
  show ((r.foldl (fun acc p => acc ++ (Str.ofString "").cps ++ p.cps) y.cps)).toList = _
  rw [glue_fold]
  simp
end L2
set_option maxHeartbeats 4000000
namespace KT
open PySem L2
noncomputable def aftN (i : Nat) : Nat := if i % 3 = 2 then i - 2 else i + 1
noncomputable def nxC (M : List (Option Nat)) (c : Nat) : Option Nat := (M[aftN c]?).join
end KT
set_option maxHeartbeats 4000000
namespace KT
open PySem L2
end KT
set_option maxHeartbeats 4000000
namespace L2
open PySem PySem.Spec PyProof.Rows
section
noncomputable def Its (x : Str) : It :=
 ⟨fun i _ => i < x.cps.size, fun i H v H' => H' = H ∧ ∃ c, x.cps[i]? = some c ∧ v = .str ⟨#[c]⟩, fun i _ => x.cps.size ≤ i⟩
theorem turn_str {P : Program} {w : World} {K : PySem.W.Frag} {tg : Expr} (x : Str) (t : Tok) (it : Addr) : Turn P w K tg (Its x) [it] it (fun i h => h.IsStrIter it "str_ascii_iterator" x t i) where
 mem := by simp
 obj := fun i h st b hb => by
  have e : b = it := by simpa using hb
  subst e
  obtain ⟨o, e, c, d⟩ := st
  exact ⟨o, e, fun v z => by rw [d] at z; cases z⟩
 keep := fun i h h' st k => by
  obtain ⟨o, ho, r⟩ := st
  exact ⟨o, k it (by simp) o ho, r⟩
 item := by
  intro X hP hw hK hc i pins s σ H E I hf st hg
  subst hP hw hK
  have hg : i < x.cps.size := hg
  obtain ⟨f0, f1, f2, f3, f4, f5⟩ := hf it (by simp)
  have hx : x.cps[i]? = some x.cps[i] := by simp [hg]
  refine wpAny_pyNext_ascii_item st hx fun h' st' sb => ?_
  have I1 : Inv X pins σ H { s with heap := h', toks := s.toks + 1 } := I.turned (t' := s.toks + 1) (fun b o hb e => (sb.2 b hb).trans e) f0 f1 f3 f4 f5
  obtain ⟨o, e, c, d⟩ := id st'
  exact ⟨_, rfl, go_of (s := { s with heap := h', toks := s.toks + 1 }) e c d (by decide) ⟨.str ⟨#[x.cps[i]]⟩, H, I1, ⟨_, rfl⟩, ⟨rfl, _, hx, rfl⟩, st', fun b hb => (hf b hb).1⟩⟩
 done := by
  intro X hP hw hK hc i pins s σ H E I hf st hg
  subst hP hw hK
  have hg : x.cps.size ≤ i := hg
  obtain ⟨f0, f1, f2, f3, f4, f5⟩ := hf it (by simp)
  exact wpAny_pyNext_ascii_end (I.ok.hd hc) st (by simp [hg]) fun h' eb => ⟨rfl, I.turned (t' := s.toks) (fun b o hb e => eb b o hb e) f0 f1 f3 f4 f5⟩
 self := fun _ _ _ _ _ st h => wpAny_pyIter_striter_ascii st h
variable {X : Cx} {tg : Expr}
noncomputable def iStr (tl : TE) : TI := fun σ H R => tl σ H fun v H1 => ∃ x, v = .str x ∧ x.cps.all (· < 128) = true ∧ R (Its x) H1
theorem pi_str {l : Expr} {tl : TE} (hl : PE X l tl) : PI X tg l (iStr tl) := by
 intro pins s σ H R I h
 refine thn (hl pins s σ H _ I h) fun v s1 zz9 => ?_
 obtain ⟨x, H1, I1, r1, q1⟩ := zz9
 obtain ⟨x, e, ha, q⟩ := q1
 subst e
 obtain ⟨t, rfl⟩ := r1
 refine wpAny_pyIter_ascii ha ?_
 refine ⟨s1.heap.objs.size, [s1.heap.objs.size], _, _, H1, rfl, I1.kept (t' := s1.toks) fun b o e => Heap.get?_push_of_some _ e, turn_str x t _, ⟨_, Heap.get?_push_size _ rfl, rfl, rfl⟩, fun b hb => ?_, q⟩
 have e : b = s1.heap.objs.size := by simpa using hb
 subst e
 exact I1.fpOk (Nat.le_refl _) (I1.hok.fresh (Nat.le_refl _))
end
end L2
set_option maxHeartbeats 4000000
namespace L2
open PySem PySem.Spec PyProof.Rows
end L2
set_option maxHeartbeats 4000000
namespace L2
open PySem PySem.Spec PyProof.Rows PySem.SeqAt
mutual
inductive DV (K : PySem.W.Frag) (H : Hp) : V → PyData → Prop
 | non : DV K H .non .none
 | bl (b : Bool) : DV K H (.bl b) (.bool b)
 | int (i : Int) : DV K H (.int i) (.int i)
 | str (x : Str) : DV K H (.str x) (.str x)
 | lst {a : Addr} {xs : List V} {ds : List PyData} : SqL K H a xs → DVs K H xs ds → DV K H (.ref a) (.list ds)
 | tup {a : Addr} {xs : List V} {ds : List PyData} : SqT K H a xs → DVs K H xs ds → DV K H (.ref a) (.tuple ds)
inductive DVs (K : PySem.W.Frag) (H : Hp) : List V → List PyData → Prop
 | nil : DVs K H [] []
 | cons {x : V} {xs : List V} {d : PyData} {ds : List PyData} : DV K H x d → DVs K H xs ds → DVs K H (x :: xs) (d :: ds)
end
section
variable {X : Cx} {pins : List (Addr × Obj)} {σ : St} {H : Hp} {s : Shared}
mutual
theorem DV.reads (I : Inv X pins σ H s) : ∀ {x : V} {d : PyData} {u : Value}, DV X.K H x d → RelV x u → ∃ as, Reads s.heap u d as
 | _, _, _, .non, r => by cases r; exact ⟨_, .none⟩
 | _, _, _, .bl b, r => by cases r; exact ⟨_, .bool b⟩
 | _, _, _, .int i, r => by obtain ⟨t, rfl⟩ := r; exact ⟨_, .int i t⟩
 | _, _, _, .str x, r => by obtain ⟨t, rfl⟩ := r; exact ⟨_, .str x t⟩
 | _, _, _, .lst h hs, r => by
  cases r
  obtain ⟨its, rv, pl, _⟩ := I.list h
  obtain ⟨as, ra⟩ := DVs.reads I hs rv
  obtain ⟨o, ho, hc, n, hd⟩ := pl.isList
  exact ⟨_, .list ho hc hd (by simpa using ra)⟩
 | _, _, _, .tup h hs, r => by
  cases r
  obtain ⟨its, rv, pt, _⟩ := I.tuple h
  obtain ⟨as, ra⟩ := DVs.reads I hs rv
  obtain ⟨o, ho, hc, n, hd⟩ := pt
  exact ⟨_, .tuple ho hc hd (by simpa using ra)⟩
theorem DVs.reads (I : Inv X pins σ H s) : ∀ {xs : List V} {ds : List PyData} {us : List Value}, DVs X.K H xs ds → Vals xs us → ∃ as, ReadsAll s.heap us ds as
 | _, _, _, .nil, r => by cases r; exact ⟨_, .nil⟩
 | _, _, _, .cons h hs, r => by
  cases r with
  | cons r1 r2 =>
   obtain ⟨as, ra⟩ := DV.reads I h r1
   obtain ⟨bs, rb⟩ := DVs.reads I hs r2
   exact ⟨_, .cons ra rb⟩
end
end
mutual
theorem noMix_self : ∀ d : PyData, d.canLay0 = true → noMix d d = true
 | .none, _ => rfl
 | .bool _, _ => rfl
 | .int _, _ => rfl
 | .str _, _ => rfl
 | .list xs, h => by simp only [PyData.canLay0] at h; simp only [noMix]; exact noMixAll_self xs h
 | .tuple xs, h => by simp only [PyData.canLay0] at h; simp only [noMix]; exact noMixAll_self xs h
 | .dict _, h => by simp [PyData.canLay0] at h
theorem noMixAll_self : ∀ xs : List PyData, PyData.canLayAll0 xs = true → noMixAll xs xs = true
 | [], _ => by simp [noMixAll]
 | x :: xs, h => by
  simp only [PyData.canLayAll0, Bool.and_eq_true] at h
  simp only [noMixAll, noMix_self x h.1, noMixAll_self xs h.2, Bool.and_self]
end
section
variable {X : Cx}
noncomputable def rEqD (K : PySem.W.Frag) : R2 := fun x y H Q => ∃ d e, DV K H x d ∧ DV K H y e ∧ shaped d = true ∧ shaped e = true ∧ noMix d e = true ∧ Q (.bl (same d e)) H
noncomputable def rNeD (K : PySem.W.Frag) : R2 := fun x y H Q => ∃ d e, DV K H x d ∧ DV K H y e ∧ shaped d = true ∧ shaped e = true ∧ noMix d e = true ∧ Q (.bl (!same d e)) H
theorem op_eqD (hu : X.A.units + 64 < cLine) : OpR X (compareOp .Eq) (rEqD X.K) := by
 intro pins s σ H x y v u Q I rx ry h
 obtain ⟨d, e, hx, hy, sd, se, hm, q⟩ := h
 obtain ⟨_, r1⟩ := hx.reads I rx
 obtain ⟨_, r2⟩ := hy.reads I ry
 exact eq_dataH_same r1 r2 sd se hu hm ⟨.bl _, H, I, rfl, q⟩
theorem op_neD (hu : X.A.units + 64 < cLine) : OpR X (compareOp .NotEq) (rNeD X.K) := by
 intro pins s σ H x y v u Q I rx ry h
 obtain ⟨d, e, hx, hy, sd, se, hm, q⟩ := h
 obtain ⟨_, r1⟩ := hx.reads I rx
 obtain ⟨_, r2⟩ := hy.reads I ry
 exact ne_dataH_same r1 r2 sd se hu hm ⟨.bl _, H, I, rfl, q⟩
end
theorem DV.eqv {K : PySem.W.Frag} {H : Hp} {x y : V} {d : PyData} {Q : VK} (hx : DV K H x d) (hy : DV K H y d) (hs : shaped d = true) (q : Q (.bl true) H) : rEqD K x y H Q :=
 ⟨d, d, hx, hy, hs, hs, noMix_self d (canLay_of_shaped hs), by rw [same_self]; exact q⟩
theorem DV.nev {K : PySem.W.Frag} {H : Hp} {x y : V} {d : PyData} {Q : VK} (hx : DV K H x d) (hy : DV K H y d) (hs : shaped d = true) (q : Q (.bl false) H) : rNeD K x y H Q :=
 ⟨d, d, hx, hy, hs, hs, noMix_self d (canLay_of_shaped hs), by rw [same_self]; exact q⟩
end L2
set_option maxHeartbeats 4000000
namespace KT
open PySem L2
end KT
set_option maxHeartbeats 4000000
namespace KT
open PySem L2
end KT
set_option maxHeartbeats 4000000
namespace KT
open PySem L2
noncomputable def CH (R : Nat → Nat → Prop) (l : List Nat) : Prop := ∀ (k u v : Nat), l[k]? = some u → l[k + 1]? = some v → R u v
end KT
set_option maxHeartbeats 4000000
namespace KT
open PySem L2
end KT
set_option maxHeartbeats 4000000
namespace KT
open PySem L2
end KT
set_option maxHeartbeats 4000000
namespace KT
open PySem L2
end KT
set_option maxHeartbeats 4000000
namespace KT
open PySem L2
noncomputable def Rx (M : List (Option Nat)) (u v : Nat) : Prop := ∃ m, M[u]? = some (some m) ∧ v = aftN m
noncomputable def Rw (M : List (Option Nat)) (ws : List Nat) : Prop := ∀ (k u v : Nat), ws[k]? = some u → ws[(k + 1) % ws.length]? = some v → Rx M u v
end KT
set_option maxHeartbeats 4000000
namespace KT
open PySem L2
end KT
set_option maxHeartbeats 4000000
namespace KT
open PySem L2
end KT
set_option maxHeartbeats 4000000
namespace L2
open PySem PySem.Spec PyProof.Rows PySem.SeqAt
section
variable {X : Cx}
theorem call_dictD : CallR X (.type "dict") (fun xs H Q => ∃ (d : Addr) (kvs : List (Key × V)), xs = [.ref d] ∧ Rd H d (.dK kvs) ∧ ∀ p, H p = none → Q (.ref p) (upd H p (.dK kvs))) := by
 intro pins s σ H xs us Q I r h
 obtain ⟨d, kvs, rfl, hd, q⟩ := h
 obtain ⟨u, rfl, ru⟩ := vals1 r
 obtain rfl : u = Value.ref d := ru
 obtain ⟨z, hsys, vs, rel, dd⟩ := dk_rd I.hok hd
 have hl : vs.length ≤ sizeLine := by rw [← rel.length]; exact z
 refine kt_call_dict hsys dd hl fun h' hD hsb => ?_
 have hk : ∀ b u, s.heap.get? b = some u → h'.get? b = some u := fun b u e => (hsb.2 b (Nat.ne_of_lt (Heap.lt_size e))).trans (Heap.get?_push_of_some _ e)
 refine ⟨.ref s.heap.objs.size, _, I.laid (a := s.heap.objs.size) (o := .dK kvs) (t' := s.toks) hk (Nat.le_refl _) ⟨z, ?_, vs, rel, hD⟩, rfl, q _ (I.hok.fresh (Nat.le_refl _))⟩
 exact (dk_empty (P := X.prog) (w := X.w) (H := H) s.heap I.big).2.1
theorem any_range (bs : List Bool) : ((List.range bs.length).any fun i => bs.getD i true) = bs.any id := by
 rw [Bool.eq_iff_iff, List.any_eq_true, List.any_eq_true]
 constructor
 ·rintro ⟨i, hi, h⟩
  have hi := List.mem_range.mp hi
  rw [List.getD_eq_getElem?_getD, List.getElem?_eq_getElem hi] at h
  exact ⟨_, List.getElem_mem hi, h⟩
 ·rintro ⟨b, hb, h⟩
  obtain ⟨i, hi, rfl⟩ := List.mem_iff_getElem.mp hb
  exact ⟨i, List.mem_range.mpr hi, by rw [List.getD_eq_getElem?_getD, List.getElem?_eq_getElem hi]; exact h⟩
theorem call_anyB (hc : X.calm = true) : CallR X (.builtin "any") (fun xs H Q => ∃ p bs, xs = [.ref p] ∧ SqL X.K H p (List.map V.bl bs) ∧ Q (.bl (bs.any id)) H) := by
 intro pins s σ H xs us Q I r h
 obtain ⟨p, bs, rfl, hq, q⟩ := h
 obtain ⟨u, rfl, ru⟩ := vals1 r
 cases ru
 obtain ⟨its, rv, pl, hz⟩ := I.list hq
 have ne : p ≠ s.heap.objs.size := by obtain ⟨o, ho, _⟩ := pl.isList; exact Nat.ne_of_lt (Heap.lt_size ho)
 refine call_any_walk (wpAny_pyIter_list pl.isList ⟨s.heap.objs.size, _, _, _, _, _, fun i => bs.getD i true, rfl, Walks.list (A := X.A.in1) (show X.A.in1.handled = none from I.ok.hd hc) s.heap.objs.size p ne its.toArray, ⟨⟨_, Heap.get?_push_size _ rfl, rfl, rfl⟩, pl.isList.push _⟩, ?_, ?_⟩)
 ·intro i v s' Q' E' hv hq'
  have hv : its[i]? = some v := by simpa using hv
  have hlen := rv.length
  rw [List.length_map] at hlen
  have hi : i < bs.length := by have := (List.getElem?_eq_some_iff.mp hv).1; omega
  obtain ⟨u, hu, ru⟩ := rv.get (show (bs.map V.bl)[i]? = some (V.bl bs[i]) by rw [List.getElem?_map, List.getElem?_eq_getElem hi]; rfl)
  rw [hv] at hu
  cases hu
  cases ru
  have e : bs.getD i true = bs[i] := by rw [List.getD_eq_getElem?_getD, List.getElem?_eq_getElem hi]; rfl
  refine wpAny_truthy_bool ?_
  have hq' : Q' (bs.getD i true) s' := hq'
  rw [e] at hq'
  exact hq'
 ·intro h' tk hk
  have I1 : Inv X pins σ H { s with heap := h', toks := tk } := I.kept fun b o e => hk b o (fun z => absurd (Heap.lt_size e) (by rw [List.mem_singleton.mp z]; exact Nat.lt_irrefl _)) (Heap.get?_push_of_some _ e)
  have hlen : its.toArray.size = bs.length := by have := rv.length; rw [List.length_map] at this; simp; omega
  refine ⟨.bl (bs.any id), H, I1, ?_, q⟩
  show Value.bool _ = _
  rw [hlen, any_range]
theorem sum_pre (ns : List Int) : ∀ k, k ≤ ns.length → preSum (fun i => ns.getD i 0) k = (ns.take k).sum
 | 0, _ => by simp [preSum]
 | k + 1, h => by
  rw [preSum, sum_pre ns k (by omega), List.take_add_one, List.getElem?_eq_getElem (by omega), List.sum_append, List.getD_eq_getElem?_getD, List.getElem?_eq_getElem (by omega)]
  simp
theorem int_walk {pins : List (Addr × Obj)} {σ : St} {H : Hp} {s : Shared} {ns : List Int} {its : List Value} (rv : Vals (ns.map V.int) its) : ∀ (i : Nat) (v : Value), its.toArray[i]? = some v → ∃ t, v = .int (ns.getD i 0) t := fun i v hv => by
 have hv : its[i]? = some v := by simpa using hv
 have hlen := rv.length
 rw [List.length_map] at hlen
 have hi : i < ns.length := by have := (List.getElem?_eq_some_iff.mp hv).1; omega
 obtain ⟨u, hu, ru⟩ := rv.get (show (ns.map V.int)[i]? = some (V.int ns[i]) by rw [List.getElem?_map, List.getElem?_eq_getElem hi]; rfl)
 rw [hv] at hu
 cases hu
 obtain ⟨t, rfl⟩ := ru
 exact ⟨t, by rw [List.getD_eq_getElem?_getD, List.getElem?_eq_getElem hi]; rfl⟩
theorem call_sumL (hc : X.calm = true) : CallR X (.builtin "sum") (fun xs H Q => ∃ (p : Addr) (ns : List Int), xs = [.ref p] ∧ SqL X.K H p (ns.map V.int) ∧ Q (.int ns.sum) H) := by
 intro pins s σ H xs us Q I r h
 obtain ⟨p, ns, rfl, hq, q⟩ := h
 obtain ⟨u, rfl, ru⟩ := vals1 r
 cases ru
 obtain ⟨its, rv, pl, hz⟩ := I.list hq
 have lt : p < s.heap.objs.size := by obtain ⟨o, ho, _⟩ := pl.isList; exact Heap.lt_size ho
 have hlen : its.toArray.size = ns.length := by have := rv.length; rw [List.length_map] at this; simp; omega
 refine call_sum_walkG (wpAny_pyIter_list pl.isList ⟨s.heap.objs.size, _, _, _, _, _, fun i => ns.getD i 0, rfl, Walks.list (A := X.A.in1) (show X.A.in1.handled = none from I.ok.hd hc) s.heap.objs.size p (Nat.ne_of_lt lt) its.toArray, ⟨⟨_, Heap.get?_push_size _ rfl, rfl, rfl⟩, pl.isList.push _⟩, ?_, int_walk (pins := pins) (σ := σ) (H := H) (s := s) rv, ?_⟩)
 ·intro b hb
  show b < (s.heap.push _).objs.size
  rw [Heap.size_push]
  rcases List.mem_cons.mp hb with rfl | hb
  ·exact Nat.lt_succ_self _
  ·rw [List.mem_singleton.mp hb]; exact Nat.lt_succ_of_lt lt
 ·intro h' tk t' hk
  have I1 : Inv X pins σ H { s with heap := h', toks := tk } := I.kept fun b o e => hk b o (fun z => absurd (Heap.lt_size e) (by rw [List.mem_singleton.mp z]; exact Nat.lt_irrefl _)) (Heap.get?_push_of_some _ e)
  refine ⟨.int ns.sum, H, I1, ⟨t', ?_⟩, q⟩
  rw [hlen, sum_pre ns _ (Nat.le_refl _), List.take_length]
theorem call_maxL (hc : X.calm = true) : CallR X (.builtin "max") (fun xs H Q => ∃ (p : Addr) (ns : List Int), xs = [.ref p] ∧ SqL X.K H p (ns.map V.int) ∧ 0 < ns.length ∧ ∀ m, m ∈ ns → (∀ a ∈ ns, a ≤ m) → Q (.int m) H) := by
 intro pins s σ H xs us Q I r h
 obtain ⟨p, ns, rfl, hq, hn, q⟩ := h
 obtain ⟨u, rfl, ru⟩ := vals1 r
 cases ru
 obtain ⟨its, rv, pl, hz⟩ := I.list hq
 have lt : p < s.heap.objs.size := by obtain ⟨o, ho, _⟩ := pl.isList; exact Heap.lt_size ho
 have hlen : its.toArray.size = ns.length := by have := rv.length; rw [List.length_map] at this; simp; omega
 have W := int_walk (pins := pins) (σ := σ) (H := H) (s := s) rv
 refine call_max_walk (wpAny_pyIter_list pl.isList ⟨s.heap.objs.size, _, _, _, _, _, _, rfl, Walks.list (A := X.A.in1) (show X.A.in1.handled = none from I.ok.hd hc) s.heap.objs.size p (Nat.ne_of_lt lt) its.toArray, ⟨⟨_, Heap.get?_push_size _ rfl, rfl, rfl⟩, pl.isList.push _⟩, ?_, by rw [hlen]; exact hn, CmpOf.ints_gt (fun i => ns.getD i 0) W, ?_⟩)
 ·intro b hb
  show b < (s.heap.push _).objs.size
  rw [Heap.size_push]
  rcases List.mem_cons.mp hb with rfl | hb
  ·exact Nat.lt_succ_self _
  ·rw [List.mem_singleton.mp hb]; exact Nat.lt_succ_of_lt lt
 ·intro v h' tk hP hk
  have I1 : Inv X pins σ H { s with heap := h', toks := tk } := I.kept fun b o e => hk b o (fun z => absurd (Heap.lt_size e) (by rw [List.mem_singleton.mp z]; exact Nat.lt_irrefl _)) (Heap.get?_push_of_some _ e)
  rw [hlen] at hP
  obtain ⟨a1, a2⟩ := argBest_gt (fun i => ns.getD i 0) (ns.length - 1)
  obtain ⟨t, e⟩ := W _ _ hP
  generalize argBest (fun i j => decide (ns.getD i 0 > ns.getD j 0)) (ns.length - 1) = k at a1 a2 e
  have hk' : k < ns.length := by omega
  have ek : ns.getD k 0 = ns[k] := by rw [List.getD_eq_getElem?_getD, List.getElem?_eq_getElem hk']; rfl
  refine ⟨.int (ns.getD k 0), H, I1, ⟨t, e⟩, q _ (by rw [ek]; exact List.getElem_mem hk') fun a ha => ?_⟩
  obtain ⟨j, hj, rfl⟩ := List.mem_iff_getElem.mp ha
  have := a2 j (by omega)
  have ej : ns.getD j 0 = ns[j] := by rw [List.getD_eq_getElem?_getD, List.getElem?_eq_getElem hj]; rfl
  show ns[j] ≤ ns.getD k 0
  rw [← ej]; exact this
theorem call_sumLK (K : PySem.W.Frag) (hc : X.calm = true) (h : X.K = K := by rfl) : CallR X (.builtin "sum") (fun xs H Q => ∃ (p : Addr) (ns : List Int), xs = [.ref p] ∧ SqL K H p (ns.map V.int) ∧ Q (.int ns.sum) H) := h ▸ call_sumL hc
theorem call_maxLK (K : PySem.W.Frag) (hc : X.calm = true) (h : X.K = K := by rfl) : CallR X (.builtin "max") (fun xs H Q => ∃ (p : Addr) (ns : List Int), xs = [.ref p] ∧ SqL K H p (ns.map V.int) ∧ 0 < ns.length ∧ ∀ m, m ∈ ns → (∀ a ∈ ns, a ≤ m) → Q (.int m) H) := h ▸ call_maxL hc
end
end L2
set_option maxHeartbeats 4000000
namespace L2
open PySem PySem.Spec PyProof.Rows
noncomputable abbrev TBX := St → Hp → (St → Hp → Prop) → XK → Prop
end L2
set_option maxHeartbeats 4000000
namespace L2
open PySem PySem.Spec PyProof.Rows
end L2
set_option maxHeartbeats 4000000
namespace HL
open PySem PyProof.Rows HT
end HL
namespace L2
open PySem PySem.Spec PyProof.Rows
end L2
set_option maxHeartbeats 4000000
namespace KT
open PySem L2
noncomputable def aN (a : Nat) : Nat := (after a).toNat
noncomputable def bN (a : Nat) : Nat := (before a).toNat
structure PC (M : List (Option Nat)) (f : Nat → Int) : Prop where
 nn : ∀ p, p < M.length → 0 ≤ f p
 rim : ∀ p : Nat, M[p]? = some none → f p = 0
 mate : ∀ p q : Nat, M[p]? = some (some q) → f q = f p
 even : ∀ p, p < M.length → (f p + f (aN p) + f (bN p)) % 2 = 0
 tri : ∀ p, p < M.length → f p ≤ f (aN p) + f (bN p)
noncomputable def mx (x y : Int) : Int := if y > x then y else x
noncomputable def bh (f : Nat → Int) (a b : Nat) : Int := mx (f (aN a) + f (aN b)) (f (bN a) + f (bN b)) - f a
noncomputable def fx (left : Bool) (a b : Nat) (f : Nat → Int) (z : Nat) : Int := if z = a ∨ z = b then bh f a b else f (mvN (!left) a b z)
end KT
set_option maxHeartbeats 4000000
namespace KT
open PySem L2
noncomputable def sF (f : Nat → Int) : Nat → Int
 | 0 => 0
 | n + 1 => sF f n + f n
end KT
set_option maxHeartbeats 4000000
namespace KT
open PySem L2
end KT
set_option maxHeartbeats 4000000
namespace KT
open PySem L2
end KT
set_option maxHeartbeats 4000000
namespace KT
open PySem L2
section
variable {M : List (Option Nat)} {ns : List Int} {f : Nat → Int} {g : Int → Int}
noncomputable def mu (M : List (Option Nat)) (p : Nat) : Nat := match (M[p]?).join with
 | some q => q
 | none => p
end
end KT
set_option maxHeartbeats 4000000
namespace L2
open PySem PySem.Spec PyProof.Rows
theorem ip_fdivB {X : Cx} : PIp X .FloorDiv (fun x y H Q => ∃ i j, x = .int i ∧ y = .int j ∧ CDivB i j ∧ Q (.int (i / j)) H) := by
 intro pins s σ H x y v u Q I r1 r2 h
 obtain ⟨i, j, e1, e2, hc, q⟩ := h
 subst e1; subst e2
 obtain ⟨t, rfl⟩ := r1
 obtain ⟨t', rfl⟩ := r2
 have h1 : (0 : Int) < j := hc.1
 refine ifloordiv_int (by omega) ?_ (.inl (PyProof.noPylong_of_log2 hc.2))
 rw [Int.fdiv_eq_ediv_of_nonneg i (by omega)]
 exact ⟨.int _, H, I.tok _, ⟨_, rfl⟩, q⟩
end L2
set_option maxHeartbeats 4000000
namespace L2
open PySem PySem.Spec PyProof.Rows
end L2
set_option maxHeartbeats 4000000
namespace L2
open PySem PySem.Spec PyProof.Rows
end L2
set_option maxHeartbeats 4000000
namespace L2
open PySem PySem.Spec PyProof.Rows
end L2
set_option maxHeartbeats 4000000
namespace PySem.F
end PySem.F
namespace L2
open PySem PySem.Spec PyProof.Rows
end L2
set_option maxHeartbeats 4000000
namespace L2
open PySem PySem.Spec PyProof.Rows
end L2
set_option maxHeartbeats 4000000
namespace L2
open PySem PySem.Spec PyProof.Rows
noncomputable def dd (ks : List Int) : List Int := ks.foldl step_dedup []
end L2
set_option maxHeartbeats 4000000
namespace L2
open PySem PySem.Spec PyProof.Rows
end L2
set_option maxHeartbeats 4000000
namespace L2
open PySem PySem.Spec PyProof.Rows
theorem loop_items {d : Addr} {kvs : List (Key × V)} {o : Obj} {g : TG} {tt : TT} {tb : TB} {R : St → Hp → Prop} {σ : St} {H : Hp} (Pv : Nat → St → Hp → Prop) (h0 : Pv 0 σ H) (hl : ∀ i σ H, i ≤ kvs.length → Pv i σ H → H d = some (.frz o (.dK kvs)))
  (hs : ∀ (i : Nat) k x σ H q, kvs[i]? = some (k, x) → H q = none → Pv i σ H → g (.ref q) σ (upd H q (.tup [kV k, x])) fun σ2 H2 => tt σ2 H2 fun b H3 => if b = true then tb σ2 H3 (Pv (i + 1)) else Pv (i + 1) σ2 H3) (hd : ∀ σ H, Pv kvs.length σ H → R σ H) : LoopR (Itm2 d kvs o) g tt tb R σ H := by
 refine ⟨fun i m σ H => m = kvs.length - i ∧ i ≤ kvs.length ∧ Pv i σ H, ⟨kvs.length, by simp, Nat.zero_le _, h0⟩, ?_⟩
 rintro i m σ H ⟨rfl, hi, p⟩
 have q := hl i σ H hi p
 by_cases hlt : i < kvs.length
 ·refine .inr ⟨⟨hlt, q⟩, Pv (i + 1), fun σ' H' p' => ⟨kvs.length - (i + 1), by omega, rfl, hlt, p'⟩, fun x H' y => ?_⟩
  obtain ⟨c, k, v, hn, e1, y, e2⟩ := y
  subst e1 e2
  exact hs i k v σ H c y hn p
 ·have e : i = kvs.length := by omega
  subst e
  exact .inl ⟨⟨Nat.le_refl _, q⟩, hd σ H p⟩
noncomputable def tThawE (H0 : Hp) (t : TE) : TE := fun σ H Q => t σ H fun v H' => ∃ (a : Addr) (o : Obj) (kvs : List (Key × V)), H' a = some (.frz o (.dK kvs)) ∧ (∀ o u, H0 a ≠ some (.frz o u)) ∧ Q v (upd H' a (.dK kvs))
theorem pe_thaw {X : Cx} {e : Expr} {t : TE} (h : PE X e t) : PE X e (tThawE X.H₀ t) := by
 intro pins s σ H Q I hw
 refine wpAny_mono (h pins s σ H _ I hw) (fun v s' q => ?_) fun _ _ e => e
 obtain ⟨x, H', I', r, a, o, kvs, e, h0, q⟩ := q
 exact ⟨x, _, I'.thaw e h0, r, q⟩
end L2
set_option maxHeartbeats 4000000
namespace KT
noncomputable def putG (g : Int → Nat × Nat) (x : Int) (v : Nat × Nat) : Int → Nat × Nat := fun y => if y = x then v else g y
end KT
set_option maxHeartbeats 4000000
namespace KT
open PySem L2
section
variable {M : List (Option Nat)} {ns : List Int} {x y : Int} {a b : Nat}
noncomputable def SwN (M : List (Option Nat)) (ns : List Int) (x : Int) : Prop := ∃ p j : Nat, M[p]? = some (some j) ∧ ns[p]? = some x
structure SwK (M : List (Option Nat)) (ns : List Int) (ks : List Int) : Prop where
 nd : ks.Nodup
 mem : ∀ x, x ∈ ks ↔ SwN M ns x
theorem SwN.key (td : TD M ns) (h : SwN M ns x) : x ∈ keys ns ns.length := by
 obtain ⟨p, j, _, e⟩ := h
 exact keys_mem.mpr ⟨p, (List.getElem?_eq_some_iff.mp e).1, e⟩
end
end KT
set_option maxHeartbeats 4000000
namespace L2
open PySem PySem.Spec PyProof.Rows
end L2
set_option maxHeartbeats 4000000
namespace L2
open PySem PySem.Spec PyProof.Rows
section
variable {X : Cx}
noncomputable abbrev THs := Value → TS
noncomputable def PHs (X : Cx) (hs : List ExceptHandler) (t : THs) : Prop :=
 ∀ (pins : List (Addr × Obj)) (s : Shared) (σ : St) (H : Hp) (D : Ends) (e T : Addr) (cls a0 : Value) (h' : Heap), Inv X pins σ H s → FxOk X pins H e → FxOk X pins H T →
  Heap.FlyingW (PySem.W.hideAll s.heap (e :: T :: frs X.stack)) X.stack e cls a0 h' → s.heap.UpToSlots h' → t cls D σ H → wpAny (model X.prog X.w) X.A (handleBy (.ref e) X.env hs) (SP X pins D) X.xe { s with heap := h' }
theorem hs_off {hs : List ExceptHandler} : PHs X hs (fun _ _ _ _ => False) := fun _ _ _ _ _ _ _ _ _ _ _ _ _ _ _ z => z.elim
theorem hs_cons {b₀ : Stmt} {suite : List Stmt} {x : Str} {np hpos : Pos} {rest : List ExceptHandler} {ts : TS} {tr : THs} {C : Addr} (hg : Gl X x) (hm : X.mg x = some (.ref C)) (hs : ∀ e, PSs (hndCx X e) (b₀ :: suite) ts) (hr : PHs X rest tr)
  (hex : X.ex = [] := by rfl) (hx : X.xe = (fun _ _ => False) := by rfl) (hdb : (x == ("__debug__" : Str)) = false := by decide) :
  PHs X (.ExceptHandler (some (.Name x np)) none (b₀ :: suite) hpos :: rest) (fun cls D σ H => ∃ b, PySem.W.exmOne X.K cls (.ref C) = some b ∧ if b = true then ts D σ H else tr cls D σ H) := by
 intro pins s σ H D e T cls a0 h' I fe fT hheld hsm q
 obtain ⟨b, hb, q⟩ := q
 have I5 : Inv X pins σ H { s with heap := h' } := I.flown hex fe fT hheld.1 hsm
 obtain ⟨ob, hob, hobc⟩ := hheld.there
 refine wpAny_handleBy_cons (codeAny_handlers_test (ld_glob (X := hndCx X e) (I5.hnd e) hg hm ?_ hdb)) (by intro q; cases q)
 have LT : PySem.W.Looks (model X.prog X.w) h' (typeOf (.ref e)) cls := by
  have : PySem.W.Looks (model X.prog X.w) h' (typeOf (.ref e)) ob.cls := (PySem.W.Looks.ld hob).andThen .now
  rw [hobc] at this
  exact this
 refine (PySem.W.exm_one I5.kIn LT hb).here ?_
 cases b with
 | false => exact hr pins s σ H D e T cls a0 h' I fe fT hheld hsm q
 | true =>
  refine codeAny_handlers_suite ?_
  refine lands_againW hheld fun h₆ hfl₆ hsm₆ => ?_
  have I6 : Inv X pins σ H { s with heap := h₆ } := I.flown hex fe fT hfl₆.1 (hsm.trans hsm₆)
  have h6 := hs e pins _ σ H D (I6.hnd e) q
  have hxe : (hndCx X e).xe = fun _ _ => False := hx
  rw [hxe] at h6
  refine wpAny_mono h6 (fun f s2 q2 => ?_) fun _ _ z => z.elim
  exact q2.unhnd I6.ok
noncomputable def tTryN (tb : TSX) (th : THs) : TS := fun D σ H => tb D (fun cls σ' H' => th cls D σ' H') σ H
theorem ps_tryN {body : List Stmt} {h₀ : ExceptHandler} {hs : List ExceptHandler} {pos : Pos} {tb : TSX} {th : THs} (hb : PSsX false X body tb) (hh : PHs X (h₀ :: hs) th)
  (hex : X.ex = [] := by rfl) (hstk : ∃ o, X.stack = X.env :: o := by exact ⟨_, rfl⟩) (hfr : X.env.frame = some X.env.locals := by rfl) :
  PS X (.Try body (h₀ :: hs) [] [] pos) (tTryN tb th) := by
 intro pins s σ H D I h
 obtain ⟨outer, hstk⟩ := hstk
 refine wpAny_Try_except (wpAny_mono (hb pins s σ H D _ I h) (fun f s1 q => ?_) ?_)
 ·cases f with
  | next => exact wpAny_execs_nil q
  | ret v => exact q
  | brk => exact q
  | cont => exact q
 ·rintro ev s1 ⟨e, T, cls, a0, σ1, H1, rfl, I1, hx1, fe, fT, hT, q⟩
  obtain ⟨T, rfl⟩ : ∃ t, T = some t := by
   cases T with
   | none => exact absurd (hT rfl) Bool.false_ne_true
   | some t => exact ⟨t, rfl⟩
  have fT := fT T rfl
  have hf1 := fly_of I1 hx1
  have hA : X.A.frames = some (X.env :: outer) := by rw [I.ok.frames, hstk]
  have hf1' : Heap.FlyingW (PySem.W.hideAll s1.heap (e :: T :: frs X.stack)) (X.env :: outer) e cls a0 s1.heap := by
   have := hf1
   generalize PySem.W.hideAll s1.heap (e :: T :: frs X.stack) = B at this ⊢
   rw [hstk] at this
   exact this
  refine wpAny_looks_onW hA hfr hf1' fun h₄ hheld₄ hsm₄ => ?_
  refine wpAny_landsW hheld₄ fun h₅ hheld hsm₅' => ?_
  refine hh pins s1 σ1 H1 D e T cls a0 h₅ I1 fe fT ?_ (hsm₄.trans hsm₅') q
  generalize PySem.W.hideAll s1.heap (e :: T :: frs X.stack) = B at hheld ⊢
  rw [hstk]
  exact hheld
end
end L2
set_option maxHeartbeats 4000000
namespace L2
open PySem PySem.Spec PyProof.Rows
theorem FnOk.or {P : Program} {w : World} {K : PySem.W.Frag} {mg : Str → Option Value} {base : Heap} {CX : CXT} {k : Nat} {f : Addr} {fd : FuncData} {ps : List Str} {sp sp' : Sp} (F : FnOk P w K mg base CX k f fd ps sp) (G : FnOk P w K mg base CX k f fd ps sp') :
  FnOk P w K mg base CX k f fd ps (fun vs H Q E => sp vs H Q E ∨ sp' vs H Q E) :=
 ⟨fun vs H Q E q => q.elim (F.len vs H Q E) (G.len vs H Q E), fun A outer s H args us vs Q E hr he hb hv hs => hs.elim (F.run A outer s H args us vs Q E hr he hb hv) (G.run A outer s H args us vs Q E hr he hb hv)⟩
end L2
set_option maxHeartbeats 4000000
namespace L2
open PySem PySem.Spec PyProof.Rows
end L2
set_option maxHeartbeats 400000
namespace L2
open PySem PySem.Spec PyProof.Rows
end L2
set_option maxHeartbeats 1000000
namespace L2
open PySem PySem.Spec PyProof.Rows
end L2
set_option maxHeartbeats 1000000
namespace L2
open PySem PySem.Spec PyProof.Rows
end L2
set_option maxHeartbeats 4000000
namespace L2
open PySem PySem.Spec PyProof.Rows
end L2
set_option maxHeartbeats 4000000
namespace L2
open PySem PySem.Spec PyProof.Rows
theorem nolen_lr : typeLookup (.type "list_reverseiterator") "__len__" = pure none := by
 rw [typeLookup_type]
 rw [builtinLookup_eq_fast]
 kernel_rfl
theorem hint_lr : typeLookup (.type "list_reverseiterator") "__length_hint__" = pure (some (.builtin "list_reverseiterator.__length_hint__")) := by
 rw [typeLookup_type]
 rw [builtinLookup_eq_fast]
 kernel_rfl
section
variable {prog : Program} {w : World} {A : Around} {E : Value → Shared → Prop} {s : Shared}
theorem collect_rv {I : Addr} {fp wr : List Addr} {G : Array GenState → Array GenState → Prop} {n : Nat} {P : Nat → Value → Prop} {St : Nat → Shared → Prop} {Q : List Value → Shared → Prop}
  (W : WalksS prog w A.in1 I fp wr G n P St) (hT : ∀ i z, St i z → z.TypeIs (.ref I) "list_reverseiterator") (h0 : St 0 s) (hlt : ∀ b ∈ fp, b < s.heap.objs.size) (hI : I ∈ fp)
  (q : ∀ z acc, Moved wr G s z → ItemsOf P acc n → Q acc.toList z) (hn : n ≤ sizeLine) : wpAny (model prog w) A (collect (.ref I)) Q E s := by
 have nf : s.heap.objs.size ∉ fp := fun z => absurd (hlt _ z) (Nat.lt_irrefl _)
 have ni : s.heap.objs.size ≠ I := fun z => nf (by rw [z]; exact hI)
 unfold collect
 refine wpAny_bind ?_
 refine wpAny_runValue ?_
 refine codeAny_builtin F.entry_proto_collect ?_
 rw [Around.under_plainId F.plain_proto_collect _]
 refine wpAny_bind (m := newList []) ?_
 refine wpAny_newObj_type ?_
 refine wpAny_pure ?_
 refine ⟨plainId_quiet F.plain_list_iadd _, ?_⟩
 refine codeAny_builtin F.entry_list_iadd ?_
 rw [Around.under_plainId F.plain_list_iadd _]
 have k : ∀ b o, s.heap.get? b = some o → (s.heap.push { cls := .type "list", data := .seq ([] : List Value).toArray }).get? b = some o := fun b o e => Heap.get?_push_of_some _ e
 have h1 := W.frame 0 s _ s.toks h0 (Nat.le_refl _) fun b _ o e => k b o e
 have hS : (s.heap.push { cls := .type "list", data := .seq ([] : List Value).toArray }).get? s.heap.objs.size = some { cls := .type "list", data := .seq ([] : List Value).toArray } := Heap.get?_push_size _ rfl
 have ns : Builtin.List.listSameRef (.ref s.heap.objs.size) (.ref I) = false := by
  unfold Builtin.List.listSameRef
  simp [ni]
 show wpAny _ A.in1 (Builtin.List.listExtendWith (.ref s.heap.objs.size) (.ref I) (.ref s.heap.objs.size)) _ _ _
 unfold Builtin.List.listExtendWith
 refine wpAny_bind ?_
 refine wpAny_typeOf (hT 0 _ h1) ?_
 rw [if_neg (by rw [ns]; decide)]
 refine wpAny_bind ?_
 refine W.self 0 _ _ _ h1 ?_
 refine wpAny_bind ?_
 refine wpAny_holding ?_
 unfold Builtin.List.listLengthHint
 refine wpAny_bind ?_
 refine wpAny_specialOf (hT 0 _ h1) nolen_lr ?_
 refine wpAny_bind (m := specialOf (.ref I) (Str.ofString "__length_hint__")) ?_
 refine wpAny_specialOf (hT 0 _ h1) hint_lr ?_
 generalize hid : ("list_reverseiterator.__length_hint__" : String) = nmId
 (fail_if_success (clear hid nmId))
 wp_delta
 rw [show splitId nmId = some ("list_reverseiterator", "__length_hint__") by rw [← hid]; decide +kernel]
 subst hid
 refine wpAny_bind ?_
 refine wpAny_isInstance (b := true) (hT 0 _ h1) (by rw [isSubtype_type]; kernel_rfl) ?_
 refine wpAny_pure ?_
 rw [if_neg (by decide)]
 refine wpAny_pure ?_
 refine ⟨plainId_quiet F.plain_extend_loop _, ?_⟩
 refine codeAny_extend_loopS W hn _ nf _ n 0 _ _ _ rfl (Nat.zero_le _) h1 hS (ItemsOf.nil P) fun z acc c hm hz ha => ?_
 show wpAny _ A (load s.heap.objs.size >>= _) _ _ z
 refine wpAny_bind ?_
 refine wpAny_load hz ?_
 refine wpAny_pure ?_
 exact q z acc (Moved.drop_new (o := { cls := .type "list", data := .seq ([] : List Value).toArray }) (tk := s.toks) hm (Nat.le_refl _)) ha
theorem join_rv {I l : Addr} {its : List Value} {ys : List Str} {x : Str} {t : Tok} {Q : Value → Shared → Prop} (hh : A.handled = none) (hne : l ≠ I) (hit : s.heap.IsRevIter I l ((its.length : Int) - 1)) (hl : s.heap.IsList l its.toArray)
  (hi : StrsAre its ys) (hsep : x.length ≤ 16) (hw : (ys.map (·.length)).sum + ys.length ≤ 1048576)
  (q : ∀ h' t' k, (∀ b o, b ≠ I → s.heap.get? b = some o → h'.get? b = some o) → Q (.str (Txt.join x ys.reverse) t') { s with heap := h', toks := k }) : wpAny (model prog w) A (call (.builtin "str.join") [.str x t, .ref I]) Q E s := by
 have W := (Walks.listRev (prog := prog) (w := w) (A := A.in1.in1) hh I l hne its.toArray).toS
 have hT : ∀ i (z : Shared), (i ≤ its.toArray.size ∧ z.heap.IsRevIter I l ((its.toArray.size : Int) - 1 - (i : Int)) ∧ z.heap.IsList l its.toArray) → z.TypeIs (.ref I) "list_reverseiterator" := fun i z h => h.2.1.typeIs
 have h0 : 0 ≤ its.toArray.size ∧ s.heap.IsRevIter I l ((its.toArray.size : Int) - 1 - ((0 : Nat) : Int)) ∧ s.heap.IsList l its.toArray := ⟨Nat.zero_le _, by simpa using hit, hl⟩
 have hly : its.length = ys.length := hi.length
 refine wpAny_call ?_
 refine codeAny_call_builtin F.slot_str_join.plain F.entry_str_join ?_
 refine F.slot_str_join.check _ _ _ _ _ _ _ _ (typeIs_str _ _ _) (F.args_str_join_2 _ _) ?_
 rw [join_tree_other]
 refine wpAny_bind ?_
 refine wpAny_typeOf (hT 0 s h0) ?_
 show wpAny _ A.in1 ((pyIter (.ref I)).tryCatch _ >>= fun it => collect it >>= fun zs => joinTail x zs) _ _ s
 refine wpAny_bind ?_
 refine wpAny_tryCatch ?_
 refine W.of_in1.self 0 s _ _ h0 ?_
 refine wpAny_bind ?_
 have hlt : ∀ b ∈ [I, l], b < s.heap.objs.size := fun b hb => by
  rcases List.mem_cons.mp hb with z | z
  ·obtain ⟨o, e, _⟩ := hit.typeIs
   subst z
   exact Heap.lt_size e
  ·rw [List.mem_singleton.mp z]
   obtain ⟨o, e, _⟩ := hl
   exact Heap.lt_size e
 refine collect_rv W hT h0 hlt List.mem_cons_self (fun z acc hm ha => ?_) (by rw [List.size_toArray, sizeLine_eq]; omega)
 have ea : acc.toList = its.reverse := by
  refine List.ext_getElem? fun j => ?_
  have hz : acc.size = its.length := ha.1.trans List.size_toArray
  by_cases c : j < its.length
  ·have hj : j < acc.size := by omega
   have h2 := ha.2 j _ (Array.getElem?_eq_getElem hj)
   rw [Array.getElem?_toList, Array.getElem?_eq_getElem hj, List.getElem?_reverse c, ← h2]
   simp
  ·rw [List.getElem?_eq_none (by rw [Array.length_toList]; omega), List.getElem?_eq_none (by rw [List.length_reverse]; omega)]
 obtain ⟨ps, hps⟩ := exists_strValues its.reverse fun v hv => hi.all v (List.mem_reverse.mp hv)
 have ey : ps.map (·.1) = ys.reverse := by
  rw [← hi.strs, ← List.map_reverse, ← hps]
  unfold strValues
  rw [List.map_map]
  rfl
 rw [ea, ← hps]
 have ok : JoinOk x (ps.map (·.1)) = true := joinOk_of_weight (by rw [ey]; simpa using hw) hsep
 unfold JoinOk at ok
 rw [Bool.not_eq_true'] at ok
 have g : Gives (joinTail x (strValues ps)) (joinMade x ps) := by
  have g0 := gives_joinTail x ps ok
  rcases ps with _ | ⟨p, _ | ⟨p', r⟩⟩
  ·exact g0
  ·exact g0
  ·exact g0
 refine g prog w A (wants Q E) z (post_join ps ⟨joinFit_length ok, fun t' k => ?_⟩)
 rw [ey]
 obtain ⟨zh, zg, zd, zt, zo⟩ := z
 obtain ⟨m1, m2, m3, m4, m5⟩ := hm
 have m2 : zg = s.gens := m2
 have m3 : zd = s.drawn := m3
 have m4 : zo = s.os := m4
 subst m2 m3 m4
 exact q zh t' k fun b o hb e => m1 b o (fun z => hb (List.mem_singleton.mp z)) e
end
section
variable {X : Cx}
noncomputable def tJoinRev (K : PySem.W.Frag) (to : TE) (ta : TA) : TE := fun σ H Q => to σ H fun x H1 => ∃ sep, x = .str sep ∧ ta σ H1 fun vs H2 => ∃ a ys, vs = [.ref a] ∧ SqL K H2 a (List.map V.str ys) ∧ sep.length ≤ 16 ∧ (ys.map (·.length)).sum + ys.length ≤ 1048576 ∧ Q (.str (Txt.join sep ys.reverse)) H2
theorem pe_joinRev {o l : Expr} {to : TE} {ta : TA} {p1 apos cpos pos1 : Pos} (hg : Gl X "reversed") (hm : X.mg "reversed" = none) (hc : X.calm = true) (ho : PE X o to) (ha : PA X [l] ta)
  (hbase : attributeBase o "join" X.env (eval o X.env) = eval o X.env := by rfl)
  (hfew : ((backTo cpos (starEach [.Call (.Name "reversed" p1) [l] [] pos1] X.env)).all (fun x => !x.1) && (backToKw cpos (keywordEach [] X.env)).all (fun x => x.1.isSome)
   && decide ([Expr.Call (.Name "reversed" p1) [l] [] pos1].length + ([] : List Keyword).length + (if ([] : List Keyword).isEmpty then 0 else 1) < 30)) = true := by rfl)
  (hline : (apos.endLine == cpos.line) = true := by rfl) (hs : starEach [.Call (.Name "reversed" p1) [l] [] pos1] X.env = [(false, eval (.Call (.Name "reversed" p1) [l] [] pos1) X.env)] := by rfl) (hsl : starEach [l] X.env = [(false, eval l X.env)] := by rfl) :
  PE X (.Call (.Attribute o "join" apos) [.Call (.Name "reversed" p1) [l] [] pos1] [] cpos) (tJoinRev X.K to ta) := by
 intro pins s σ H Q I h
 refine wpAny_Call_method_late hbase hfew hline rfl (thn (ho pins s σ H _ I h) fun v s1 zz9 => ?_)
 obtain ⟨x, H1, I1, r1, q1⟩ := zz9
 obtain ⟨sep, rfl, q1⟩ := q1
 obtain ⟨h1, h2⟩ := tyV_is (T := "str") I1 r1 (by first | rfl | exact trivial)
 refine ⟨"str", "str.join", PySem.F.plainAttrs_str, PySem.F.slot_str_join, PySem.F.type_str_join, h1, h2, ?_⟩
 obtain ⟨t, rfl⟩ := r1
 rw [hs]
 refine Calls.callWith_builtin rfl (Calls.evalArgs_plain ?_)
 refine Calls.spliced_cons ?_
 refine Call_ (ld_blt I1 hg hm boot_reversed (PyProof.Rows.callWith_type1 (thn (ha pos1 pins s1 σ H1 _ I1 q1) fun us s2 zz36 => ?_) hsl rfl))
 obtain ⟨vs, H2, I2, r2, q2⟩ := zz36
 obtain ⟨a, ys, e, hq, w1, w2, q⟩ := q2
 subst e
 obtain ⟨u, rfl, ru⟩ := vals1 r2
 cases ru
 obtain ⟨its, rv, pl, _⟩ := I2.list hq
 refine call_reversed_list pl.isList ?_
 refine Calls.spliced_nil ?_
 have I3 : Inv X pins σ H2 { s2 with heap := s2.heap.push (revObj a ((its.toArray.size : Int) - 1)) } := I2.kept (t' := s2.toks) fun b o e => Heap.get?_push_of_some _ e
 have ne : a ≠ s2.heap.objs.size := fun z => by
  obtain ⟨o, e, _⟩ := pl.isList
  exact Nat.ne_of_lt (Heap.lt_size e) z
 have hl3 : (s2.heap.push (revObj a ((its.toArray.size : Int) - 1))).IsList a its.toArray := pl.isList.at fun o e => Heap.get?_push_of_some _ e
 have hit : (s2.heap.push (revObj a ((its.toArray.size : Int) - 1))).IsRevIter s2.heap.objs.size a ((its.length : Int) - 1) := by
  rw [show ((its.length : Int) - 1) = ((its.toArray.size : Int) - 1) by simp]
  exact ⟨_, Heap.get?_push_size _ rfl, rfl, rfl⟩
 refine join_rv (I2.ok.hd hc) ne hit hl3 (by simpa using strsAre_of rv) w1 w2 fun h' t' k hk => ?_
 refine ⟨.str _, H2, I2.kept (t' := k) fun b o e => hk b o (fun z => ?_) (Heap.get?_push_of_some _ e), ⟨_, rfl⟩, q⟩
 exact Nat.ne_of_lt (Heap.lt_size e) z
end
end L2
set_option maxHeartbeats 4000000
namespace L2
open PySem PySem.Spec PyProof.Rows
section
variable {X : Cx}
theorem op_inS : OpR X (compareOp .In) (fun x y H Q => ∃ a b, x = .str a ∧ y = .str b ∧ Q (.bl (Txt.contains b a)) H) := by
 intro pins s σ H x y v u Q I rx ry h
 obtain ⟨a, b, rfl, rfl, q⟩ := h
 obtain ⟨t, rfl⟩ := rx
 obtain ⟨t', rfl⟩ := ry
 exact PySem.SB.contains ⟨.bl _, H, I, rfl, q⟩
theorem op_notInS : OpR X (compareOp .NotIn) (fun x y H Q => ∃ a b, x = .str a ∧ y = .str b ∧ Q (.bl (!Txt.contains b a)) H) := by
 intro pins s σ H x y v u Q I rx ry h
 obtain ⟨a, b, rfl, rfl, q⟩ := h
 obtain ⟨t, rfl⟩ := rx
 obtain ⟨t', rfl⟩ := ry
 exact PySem.SB.notContains ⟨.bl _, H, I, rfl, q⟩
theorem call_isinstK (K : PySem.W.Frag) (h : X.K = K := by rfl) : CallR X (.builtin "isinstance") (fun xs H Q => ∃ x T t b, xs = [x, V.ty T] ∧ TyOf K H x t ∧ PySem.W.kitOne K t (.type T) = some b ∧ Q (V.bl b) H) := h ▸ call_isinst
noncomputable def jStr (te : TE) (t : TJ) : TJ := fun out σ H Q => te σ H fun v H1 => ∃ x : Str, v = .str x ∧ x.length ≤ sizeLine ∧ (out ++ x).length ≤ sizeLine ∧ t (out ++ x) σ H1 Q
theorem pj_str {e : Expr} {es : List Expr} {te : TE} {t : TJ} {pos : Pos} (he : PE X e te) (h : PJ X es t) : PJ X (.FormattedValue e (-1) none pos :: es) (jStr te t) := by
 intro out pins s σ H Q I hq
 refine joinParts_cons (FormattedValue_plain (thn (he pins s σ H _ I hq) fun u s1 zz9 => ?_))
 obtain ⟨v, H1, I1, r1, x, ev, hl, hz, q⟩ := zz9
 subst ev
 obtain ⟨tk, rfl⟩ := r1
 exact formatField_str (fun t' k => ⟨hz, h _ pins _ σ H1 Q (I1.tok _) q⟩) hl
end
end L2
set_option maxHeartbeats 4000000
namespace L2
open PySem PySem.Spec PyProof.Rows
theorem strs_of_keys {P : Program} {w : World} {kvs : List (Key × V)} {vs : List (Key × Value)} {ks : List Str} (rel : KV kvs vs) (hk : kvs.map (·.1) = ks.map Sum.inr) {us : List Value} (hl : us.length = vs.length)
  (hu : ∀ (j : Nat) (v : Value), us[j]? = some v → ∃ k x, vs[j]? = some (k, x) ∧ (mixKind P w).is k v = true) : StrsAre us ks := by
 have hkl : kvs.length = ks.length := by have := congrArg List.length hk; simpa using this
 have hvl : kvs.length = vs.length := rel.length
 have key : ∀ (j : Nat) (v : Value), us[j]? = some v → ∃ i t, ks[j]? = some i ∧ v = Value.str i t := fun j v hv => by
  obtain ⟨k, x, hx, hi⟩ := hu j v hv
  have e1 : (vs.map (·.1))[j]? = some k := by rw [List.getElem?_map, hx]; rfl
  have e2 : vs.map (·.1) = kvs.map (·.1) := by
   clear hk hl hu hkl hvl hx hi e1
   induction rel with
   | nil => rfl
   | cons r t ih => rw [List.map_cons, List.map_cons, ih, r.1]
  rw [e2, hk, List.getElem?_map] at e1
  cases q : ks[j]? with
  | none => rw [q] at e1; cases e1
  | some i =>
   rw [q] at e1
   have e3 : Sum.inr i = k := Option.some.inj e1
   subst e3
   have hi' : keyIs (Sum.inr i) v = true := hi
   rcases keyIs_shape hi' with ⟨_, _, e, _⟩ | ⟨x', t, e, rfl⟩
   ·cases e
   ·cases e; exact ⟨_, t, rfl, rfl⟩
 have gen : ∀ (us : List Value) (ks : List Str), us.length = ks.length → (∀ (j : Nat) (v : Value), us[j]? = some v → ∃ i t, ks[j]? = some i ∧ v = Value.str i t) → StrsAre us ks := by
  intro us
  induction us with
  | nil =>
   intro ks hl _
   cases ks with
   | nil => exact .nil
   | cons _ _ => simp at hl
  | cons u r ih =>
   intro ks hl h
   cases ks with
   | nil => simp at hl
   | cons i ks =>
    obtain ⟨i', t, e1, e2⟩ := h 0 u rfl
    have e1' : i = i' := by simpa using e1
    subst e1' e2
    exact .cons i t (ih ks (by simpa using hl) fun j v hv => h (j + 1) v (by simpa using hv))
 exact gen us ks (by omega) key
section
variable {X : Cx}
theorem call_sortedDS (hc : X.calm = true) : CallR X (.builtin "sorted") (fun xs H Q => ∃ (d : Addr) (kvs : List (Key × V)) (ks : List Str), xs = [.ref d] ∧ Rd H d (.dK kvs) ∧ kvs.map (·.1) = ks.map Sum.inr ∧ ks.length < 64 ∧
  ∀ (p : Addr) (out : List Str), H p = none → out.Perm ks → sortedS out = true → Q (.ref p) (upd H p (.lst (out.map V.str)))) := by
 intro pins s σ H xs us Q I r h
 obtain ⟨d, kvs, ks, rfl, hd, hk, h64, q⟩ := h
 obtain ⟨u, rfl, ru⟩ := vals1 r
 obtain rfl : u = Value.ref d := ru
 obtain ⟨z, hsys, vs, rel, dd⟩ := dk_rd I.hok hd
 obtain ⟨ep, hat⟩ := dd.dictAt
 have hlen : vs.length = ks.length := by have := congrArg List.length hk; rw [List.length_map, List.length_map] at this; have := rel.length; omega
 have hn : vs.length ≤ sizeLine := by rw [sizeLine_eq]; omega
 refine Calls.call_function_entry kind_sorted plain_sorted entry_sorted (args_sorted1 _) ?_
 unfold Builtin.«sorted»
 refine wpAny_bind (m := checkCount "sorted" 1 1 _) (wpAny_pure ?_)
 refine wpAny_bind (PySem.W.kdu_collect (A := X.A.in1) (PySem.W.kdl_dict (knd := mixKind X.prog X.w) (kvs := vs) (ep := ep) hsys) (I.ok.hd hc) hat hn fun h' tk acc hk' hacc => ?_)
 have hl : acc.toList.length = vs.length := by rw [Array.length_toList]; exact hacc.1
 have hI : StrsAre acc.toList ks := strs_of_keys (P := X.prog) (w := X.w) rel hk hl fun j v hv => hacc.2 j v (by rw [← Array.getElem?_toList]; exact hv)
 refine wpAny_bind (wpAny_newList ?_ (by rw [hl]; exact hn))
 have I1 : Inv X pins σ H { s with heap := h', toks := tk } := I.kept hk'
 have hoL : (h'.push { cls := .type "list", data := .seq acc.toList.toArray }).get? h'.objs.size = some (seqObj "list" acc.toList.toArray 0) := Heap.get?_push_size _ rfl
 refine wpAny_bind (wpAny_holding (wpAny_call_entry slot_list_sort ⟨_, hoL, rfl⟩ entry_list_sort (list_sort_treeK strKind_oneLt hoL hI.keysOf (fun v₁ v₂ rest e => keyKind_strs (by rw [← e]; exact hI)) (by omega) fun st' hp hs => ⟨_, rfl, ?_⟩) (args_list_sort _)))
 refine wpAny_pure ⟨_, rfl, ?_⟩
 obtain ⟨ns', a1, a2, a3⟩ := sorted_out_str hI hp hs
 generalize (arrOf st').map (·.2) = out at a1
 obtain ⟨e, he⟩ := sortedHeap_at (out := out) hoL
 have kp : ∀ b u, h'.get? b = some u → (sortedHeap (h'.push { cls := .type "list", data := .seq acc.toList.toArray }) h'.objs.size acc.toList out).get? b = some u := fun b u hb => by
  have hlt : b < h'.objs.size := Heap.lt_size hb
  rw [sortedHeap_old (Nat.ne_of_lt hlt) (by rw [Heap.size_push]; exact Nat.lt_succ_of_lt hlt)]
  exact Heap.get?_push_of_some _ hb
 have hv : Vals (ns'.map V.str) out.toList := by
  clear he kp
  generalize out.toList = l at a1
  clear a2 a3
  induction a1 with
  | nil => exact .nil
  | cons i t _ ih => exact .cons ⟨_, rfl⟩ ih
 refine ⟨.ref h'.objs.size, upd H h'.objs.size (.lst (ns'.map V.str)), I1.laid kp (Nat.le_refl _) ?_, rfl, q _ ns' I1.fresh a2 a3⟩
 refine ⟨?_, out.toList, e, hv, ?_⟩
 ·rw [List.length_map, a2.length_eq, sizeLine_eq]; omega
 ·rw [he]
theorem sl_str : SlR X (fun x lo hi H Q => ∃ z : Str, x = .str z ∧ z.length ≤ sizeLine ∧ Q (.str (Txt.slice z lo hi)) H) := by
 intro pins s σ H x v vl vu lo hi sl Q I rx hs pl pu h
 obtain ⟨z, rfl, hz, q⟩ := h
 obtain ⟨t, rfl⟩ := rx
 obtain ⟨o, h1, h2, h3⟩ := hs
 refine ⟨"str", _, F.slot_str_getitem.lookup, typeIs_str _ _ _, ?_⟩
 have fin : ∀ t' k, EP X pins σ Q (.str (Txt.slice z lo hi) t') { s with toks := k } := fun t' k => ⟨.str (Txt.slice z lo hi), H, I.tok _, ⟨_, rfl⟩, q⟩
 cases pl with
 | none =>
  cases pu with
  | none => exact wpAny_getItem_str_slice (l := none) (u := none) (st := none) ⟨o, h1, h2, h3⟩ rfl (post_val_or_str ⟨Nat.le_trans (Txt.slice_le z _ _) hz, fin⟩)
  | int j uj => exact wpAny_getItem_str_slice (l := none) (u := some (j, uj)) (st := none) ⟨o, h1, h2, h3⟩ rfl (post_val_or_str ⟨Nat.le_trans (Txt.slice_le z _ _) hz, fin⟩)
 | int i ui =>
  cases pu with
  | none => exact wpAny_getItem_str_slice (l := some (i, ui)) (u := none) (st := none) ⟨o, h1, h2, h3⟩ rfl (post_val_or_str ⟨Nat.le_trans (Txt.slice_le z _ _) hz, fin⟩)
  | int j uj => exact wpAny_getItem_str_slice (l := some (i, ui)) (u := some (j, uj)) (st := none) ⟨o, h1, h2, h3⟩ rfl (post_val_or_str ⟨Nat.le_trans (Txt.slice_le z _ _) hz, fin⟩)
noncomputable def Asc (x : Str) : Prop := ∀ c ∈ x.cps.toList, c < 128
theorem Asc.all {x : Str} (h : Asc x) : x.cps.all (· < 128) = true := by
 rw [← Array.all_toList, List.all_eq_true]
 exact fun c hc => decide_eq_true (h c hc)
theorem Asc.of {x : Str} (h : x.cps.all (· < 128) = true) : Asc x := by
 rw [← Array.all_toList, List.all_eq_true] at h
 exact fun c hc => of_decide_eq_true (h c hc)
theorem Asc.slice {x : Str} (h : Asc x) (lo hi : Option Int) : Asc (Txt.slice x lo hi) := by
 unfold Txt.slice
 split
 ·exact h
 ·intro c hc
  obtain ⟨i, _, hi⟩ := List.mem_filterMap.mp (show c ∈ List.filterMap (fun i => x.cps[i]?) _ from hc)
  exact h c (Array.mem_toList_iff.mpr (Array.mem_of_getElem? hi))
theorem Asc.app {x y : Str} (h : Asc x) (h' : Asc y) : Asc (x ++ y) := by
 intro c hc
 have : (x ++ y).cps.toList = x.cps.toList ++ y.cps.toList := Array.toList_append
 rw [this] at hc
 exact (List.mem_append.mp hc).elim (h c) (h' c)
theorem Asc.one {x : Str} (h : Asc x) {c i : Nat} (hc : x.cps[i]? = some c) : Asc ⟨#[c]⟩ := by
 intro d hd
 have : d = c := by simpa using hd
 subst this
 exact h d (Array.mem_toList_iff.mpr (Array.mem_of_getElem? hc))
theorem Asc.join {ys : List Str} (h : ∀ y ∈ ys, Asc y) : Asc (Txt.join (Str.ofString "") ys) := by
 intro c hc
 rw [join_cps] at hc
 obtain ⟨l, hl, hc⟩ := List.mem_flatten.mp hc
 obtain ⟨y, hy, rfl⟩ := List.mem_map.mp hl
 exact h y hy c hc
end
end L2
set_option maxHeartbeats 4000000
namespace L2
open PySem PySem.Spec PyProof.Rows
section
variable {X : Cx} {a b : Expr} {rest : List Expr} {pos : Pos} {ta tb : TE}
noncomputable def tOrS (ta tb : TE) : TE := fun σ H Q => ta σ H fun x H1 => ∃ z : Str, x = .str z ∧ z.length ≤ sizeLine ∧ (z.length = 0 → tb σ H1 Q) ∧ (z.length ≠ 0 → Q (.str z) H1)
theorem pe_orS (ha : PE X a ta) (hb : PE X (.BoolOp .Or (b :: rest) pos) tb) : PE X (.BoolOp .Or (a :: b :: rest) pos) (tOrS ta tb) := by
 intro pins s σ H Q I h
 refine BoolOp_or (thn (ha pins s σ H _ I h) fun v s1 zz9 => ?_)
 obtain ⟨x, H1, I1, r1, q1⟩ := zz9
 obtain ⟨z, rfl, hz, q1, q2⟩ := q1
 obtain ⟨t, rfl⟩ := r1
 have hl := line63
 have hs : sizeLine = 16777216 := sizeLine_eq
 refine PySem.P.truthy_str (by omega) ?_
 by_cases c : z.length = 0
 ·rw [show ((z.length : Int) != 0) = false by rw [c]; rfl]
  exact hb pins _ σ H1 Q (I1.tok _) (q1 c)
 ·rw [show ((z.length : Int) != 0) = true by simpa using c]
  exact ⟨.str z, H1, I1.tok _, ⟨t, rfl⟩, q2 c⟩
end
theorem Asc.num (i : Int) : Asc (Str.ofString (toString i)) := fun c hc => by
 refine Decidable.byContradiction fun h => ?_
 exact int_text_free' c ⟨by omega, by omega⟩ i hc
theorem asc_fold {sep : Str} (hs : Asc sep) : ∀ (l : List Str) (a : Array Nat), (∀ c ∈ a.toList, c < 128) → (∀ y ∈ l, Asc y) → ∀ c ∈ (l.foldl (fun acc p => acc ++ sep.cps ++ p.cps) a).toList, c < 128
 | [], a, ha, _, c, hc => ha c hc
 | y :: l, a, ha, hl, c, hc => by
  refine asc_fold hs l (a ++ sep.cps ++ y.cps) (fun d hd => ?_) (fun z hz => hl z (List.mem_cons_of_mem _ hz)) c hc
  rw [Array.toList_append, Array.toList_append] at hd
  rcases List.mem_append.mp hd with h | h
  ·rcases List.mem_append.mp h with h | h
   ·exact ha d h
   ·exact hs d h
  ·exact hl y List.mem_cons_self d h
theorem Asc.joinS {sep : Str} {ys : List Str} (hs : Asc sep) (h : ∀ y ∈ ys, Asc y) : Asc (Txt.join sep ys) := by
 unfold Txt.join Builtin.Str.glued
 cases ys with
 | nil => intro c hc; have hc : c ∈ ([] : List Nat) := hc; cases hc
 | cons y l => exact asc_fold hs l y.cps (h y List.mem_cons_self) fun z hz => h z (List.mem_cons_of_mem _ hz)
theorem Asc.ok {x : Str} (h : Asc x) : PyData.strOk x = true := by
 unfold PyData.strOk
 rw [← Array.all_toList, List.all_eq_true]
 exact fun c hc => decide_eq_true (Nat.lt_trans (h c hc) (by decide))
theorem DVs.strs {K : PySem.W.Frag} {H : Hp} : ∀ ns : List Str, DVs K H (ns.map V.str) (ns.map PyData.str)
 | [] => .nil
 | n :: r => .cons (.str n) (DVs.strs r)
theorem strs_lay : ∀ {ds : List Str}, (∀ x ∈ ds, Asc x) → PyData.canLayAll0 (ds.map PyData.str) = true ∧ PyData.depthAll (ds.map PyData.str) ≤ 1
 | [], _ => ⟨by simp [PyData.canLayAll0], by simp [PyData.depthAll]⟩
 | d :: ds, h => by
  obtain ⟨h1, h2⟩ := strs_lay (ds := ds) fun x hx => h x (List.mem_cons_of_mem _ hx)
  refine ⟨?_, ?_⟩
  ·simp only [List.map_cons, PyData.canLayAll0, h1, PyData.canLay0, (h d List.mem_cons_self).ok, Bool.and_self]
  ·simp only [List.map_cons, PyData.depthAll, PyData.depth]; omega
theorem shaped_strs {ds : List Str} (h : ∀ x ∈ ds, Asc x) : SeqAt.shaped (.list (ds.map PyData.str)) = true := by
 obtain ⟨h1, h2⟩ := strs_lay h
 unfold SeqAt.shaped
 rw [Bool.and_eq_true, decide_eq_true_eq]
 refine ⟨by simp only [PyData.canLay0]; exact h1, ?_⟩
 simp only [PyData.depth]
 omega
theorem fold_size {sep : Str} : ∀ (l : List Str) (a : Array Nat), (l.foldl (fun acc p => acc ++ sep.cps ++ p.cps) a).size = a.size + (l.map (·.length)).sum + l.length * sep.length
 | [], a => by simp
 | y :: l, a => by
  rw [List.foldl_cons, fold_size l, Array.size_append, Array.size_append, List.map_cons, List.sum_cons, List.length_cons, Nat.add_mul]
  show a.size + sep.length + y.length + _ + _ = _
  omega
theorem join_len (sep : Str) (ys : List Str) : (Txt.join sep ys).length ≤ (ys.map (·.length)).sum + ys.length * sep.length := by
 unfold Txt.join Builtin.Str.glued
 cases ys with
 | nil => exact Nat.zero_le _
 | cons y l =>
  show (l.foldl (fun acc p => acc ++ sep.cps ++ p.cps) y.cps).size ≤ _
  rw [fold_size, List.map_cons, List.sum_cons, List.length_cons, Nat.add_mul]
  show y.length + _ + _ ≤ _
  omega
theorem sum_leS {B : Nat} : ∀ {l : List Str}, (∀ x ∈ l, x.length ≤ B) → (l.map (·.length)).sum ≤ B * l.length
 | [], _ => Nat.le_refl _
 | x :: l, h => by
  have h1 := h x List.mem_cons_self
  have h2 := sum_leS (l := l) fun y hy => h y (List.mem_cons_of_mem _ hy)
  rw [List.map_cons, List.sum_cons, List.length_cons, Nat.mul_add]
  omega
theorem app_len (x y : Str) : (x ++ y).length = x.length + y.length := Array.size_append
end L2
set_option maxHeartbeats 4000000
set_option genInjectivity false
set_option genSizeOf false
namespace KT
open PySem L2
noncomputable def bmV : List Value := [.type "ValueError", .type "Exception", .type "BaseException", .type "object"]
theorem FBV : ExcBaseFacts "ValueError" "ValueError.__new__" "ValueError.__init__" bmV := PySem.F.excBase_ValueError
theorem map_some {α : Type} {f : α → V} {l : List α} {i : Nat} {y : V} (h : (l.map f)[i]? = some y) : ∃ q, l[i]? = some q ∧ y = f q := by
 rw [List.getElem?_map] at h
 cases e : l[i]? with
 | none => rw [e] at h; cases h
 | some q => rw [e] at h; cases h; exact ⟨q, rfl, rfl⟩
structure FT (K : PySem.W.Frag) (mg : Str → Option Value) (x : Str) (st : Stmt) (ps : List Str) (f : Addr) (d : FuncData) : Prop where
 F : Fun K x x st f d
 b : Binds K d ps []
 g : mg x = some (.ref f)
structure FM (K : PySem.W.Frag) (C : Addr) (x q : Str) (st : Stmt) (ps : List Str) (f : Addr) (d : FuncData) : Prop where
 F : Fun K x q st f d
 b : Binds K d ps []
 m : Meth K C x f
noncomputable def BA (q : Str) (st : Stmt) (ps : List Str) : Prop := ∀ (x : Str) (kV doc pm : Value) (an : Option Addr) (cdv ct : Value) (us : List Value), us.length = ps.length → bindArgs (PySem.W.fnOf x q (defArgs st) (defBody st) (defScope st) .none kV doc pm an cdv ct) ⟨us, []⟩ = pure (ps.zip us)
theorem len_two {α : Type} {us : List α} (e : us.length = 2) : ∃ a b, us = [a, b] := by
 obtain ⟨a, us, rfl⟩ := List.exists_cons_of_length_eq_add_one e
 obtain ⟨b, rfl⟩ := List.length_eq_one_iff.mp (Nat.succ.inj e)
 exact ⟨a, b, rfl⟩
theorem len_three {α : Type} {us : List α} (e : us.length = 3) : ∃ a b c, us = [a, b, c] := by
 obtain ⟨a, us, rfl⟩ := List.exists_cons_of_length_eq_add_one e
 obtain ⟨b, c, rfl⟩ := len_two (Nat.succ.inj e)
 exact ⟨a, b, c, rfl⟩
theorem ba1 {q : Str} {st : Stmt} {ps : List Str} (h : ∀ (x : Str) (kV doc pm : Value) (an : Option Addr) (cdv ct : Value) (a : Value), bindArgs (PySem.W.fnOf x q (defArgs st) (defBody st) (defScope st) .none kV doc pm an cdv ct) ⟨[a], []⟩ = pure (ps.zip [a])) (hl : ps.length = 1) : BA q st ps := fun x kV doc pm an cdv ct us e => by
 rw [hl] at e
 obtain ⟨a, rfl⟩ := List.length_eq_one_iff.mp e
 exact h x kV doc pm an cdv ct a
theorem ba2 {q : Str} {st : Stmt} {ps : List Str} (h : ∀ (x : Str) (kV doc pm : Value) (an : Option Addr) (cdv ct : Value) (a b : Value), bindArgs (PySem.W.fnOf x q (defArgs st) (defBody st) (defScope st) .none kV doc pm an cdv ct) ⟨[a, b], []⟩ = pure (ps.zip [a, b])) (hl : ps.length = 2) : BA q st ps := fun x kV doc pm an cdv ct us e => by
 rw [hl] at e
 obtain ⟨a, b, rfl⟩ := len_two e
 exact h x kV doc pm an cdv ct a b
theorem ba3 {q : Str} {st : Stmt} {ps : List Str} (h : ∀ (x : Str) (kV doc pm : Value) (an : Option Addr) (cdv ct : Value) (a b c : Value), bindArgs (PySem.W.fnOf x q (defArgs st) (defBody st) (defScope st) .none kV doc pm an cdv ct) ⟨[a, b, c], []⟩ = pure (ps.zip [a, b, c])) (hl : ps.length = 3) : BA q st ps := fun x kV doc pm an cdv ct us e => by
 rw [hl] at e
 obtain ⟨a, b, c, rfl⟩ := len_three e
 exact h x kV doc pm an cdv ct a b c
theorem ba4 {q : Str} {st : Stmt} {ps : List Str} (h : ∀ (x : Str) (kV doc pm : Value) (an : Option Addr) (cdv ct : Value) (a b c d : Value), bindArgs (PySem.W.fnOf x q (defArgs st) (defBody st) (defScope st) .none kV doc pm an cdv ct) ⟨[a, b, c, d], []⟩ = pure (ps.zip [a, b, c, d])) (hl : ps.length = 4) : BA q st ps := fun x kV doc pm an cdv ct us e => by
 rw [hl] at e
 obtain ⟨a, us, rfl⟩ := List.exists_cons_of_length_eq_add_one e
 obtain ⟨b, c, d, rfl⟩ := len_three (Nat.succ.inj e)
 exact h x kV doc pm an cdv ct a b c d
theorem ba5 {q : Str} {st : Stmt} {ps : List Str} (h : ∀ (x : Str) (kV doc pm : Value) (an : Option Addr) (cdv ct : Value) (a b c d e : Value), bindArgs (PySem.W.fnOf x q (defArgs st) (defBody st) (defScope st) .none kV doc pm an cdv ct) ⟨[a, b, c, d, e], []⟩ = pure (ps.zip [a, b, c, d, e])) (hl : ps.length = 5) : BA q st ps := fun x kV doc pm an cdv ct us e => by
 rw [hl] at e
 match us, e with
 | [a, b, c, d, e], _ => exact h x kV doc pm an cdv ct a b c d e
section
variable {K : PySem.W.Frag} {h : Heap} {mg : Str → Option Value} {C : Addr} {x q : Str} {st : Stmt} {ps : List Str} {f : Addr} {oc : Value} {od an : Option Addr} {sl : Array (Option Value)} {kV doc pm cd ct : Value}
theorem FT.of (X : K.In h) (G : h.Ns mainGlobals mg) (B : BA x st ps) (a : PySem.W.nsIn K mainGlobals x = some (some (.ref f))) (l : K.lookup f = some ⟨oc, od, .func (PySem.W.fnOf x x (defArgs st) (defBody st) (defScope st) .none kV doc pm an cd ct), sl⟩)
  (c : PySem.W.codeIn K cd x = true) (k : PySem.W.keepIn K (.ref f) = true) : FT K mg x st ps f (PySem.W.fnOf x x (defArgs st) (defBody st) (defScope st) .none kV doc pm an cd ct) := ⟨fun_mk l c k, (fun_mk l c k).binds (B x), PySem.W.mg_of X G a⟩
theorem FM.of (B : BA q st ps) (a : PySem.W.findIn K (.ref C) x = some (some (.ref f))) (i : PySem.W.isFn K (.ref f) = true) (l : K.lookup f = some ⟨oc, od, .func (PySem.W.fnOf x q (defArgs st) (defBody st) (defScope st) .none kV doc pm an cd ct), sl⟩)
  (c : PySem.W.codeIn K cd q = true) (k : PySem.W.keepIn K (.ref f) = true) : FM K C x q st ps f (PySem.W.fnOf x q (defArgs st) (defBody st) (defScope st) .none kV doc pm an cd ct) := ⟨fun_mk l c k, (fun_mk l c k).binds (B x), ⟨a, i, k⟩⟩
end
noncomputable def top (i : Nat) : Stmt := PySem.Challenge.pw_tentloops_k55_hall_names.main.body.getD i (.Pass ⟨0, 0, 0, 0⟩)
noncomputable abbrev s_cloth_of : Stmt := top 17
noncomputable abbrev s_spots_of : Stmt := top 18
noncomputable abbrev s_mates_of : Stmt := top 19
noncomputable abbrev s_Tent_init : Stmt := inClass (top 20) 0
noncomputable abbrev s_Tent_rows : Stmt := inClass (top 20) 1
noncomputable abbrev s_Tent_seams : Stmt := inClass (top 20) 3
noncomputable abbrev s_Tent_has_place : Stmt := inClass (top 20) 5
noncomputable abbrev s_Tent_look_place : Stmt := inClass (top 20) 6
noncomputable abbrev s_Tent_seam_at : Stmt := inClass (top 20) 7
noncomputable abbrev s_Tent_places : Stmt := inClass (top 20) 8
noncomputable abbrev s_Tent_mate : Stmt := inClass (top 20) 9
noncomputable abbrev s_Tent_sort_of : Stmt := inClass (top 20) 10
noncomputable abbrev s_crossable : Stmt := top 22
noncomputable abbrev s_follows : Stmt := top 23
noncomputable abbrev s_plain : Stmt := top 24
noncomputable abbrev s_look_thread : Stmt := top 25
noncomputable abbrev s_turned : Stmt := top 26
noncomputable abbrev s_tally : Stmt := top 28
noncomputable abbrev s_look_numbers : Stmt := top 29
noncomputable abbrev s_look_counts : Stmt := top 30
noncomputable abbrev s_sewn_seams : Stmt := top 32
noncomputable abbrev s_even_worths : Stmt := top 33
noncomputable abbrev s_made_of : Stmt := top 39
noncomputable abbrev s_is_name : Stmt := top 40
noncomputable abbrev s_figures : Stmt := top 41
noncomputable abbrev s_row_text : Stmt := top 42
noncomputable abbrev s_counts_text : Stmt := top 43
noncomputable abbrev s_Scene_init : Stmt := inClass (top 46) 0
noncomputable abbrev s_with_item : Stmt := top 47
noncomputable abbrev s_without_item : Stmt := top 48
noncomputable abbrev s_look_new_name : Stmt := top 49
noncomputable abbrev s_look_length : Stmt := top 50
noncomputable abbrev s_Hall_init : Stmt := inClass (top 51) 0
noncomputable abbrev s_Hall_enter : Stmt := inClass (top 51) 1
noncomputable abbrev s_Hall_lay : Stmt := inClass (top 51) 2
noncomputable abbrev s_Hall_pour : Stmt := inClass (top 51) 3
noncomputable abbrev s_Hall_lift : Stmt := inClass (top 51) 4
noncomputable abbrev s_Hall_back : Stmt := inClass (top 51) 7
noncomputable abbrev s_Hall_again : Stmt := inClass (top 51) 8
noncomputable abbrev s_Hall_deeds : Stmt := inClass (top 51) 9
noncomputable abbrev s_Hall_names : Stmt := inClass (top 51) 12
noncomputable abbrev s_Hall_families : Stmt := inClass (top 51) 13
noncomputable abbrev s_Hall_thread : Stmt := inClass (top 51) 14
noncomputable abbrev s_Hall_numbers : Stmt := inClass (top 51) 17
noncomputable abbrev s_l_numbers : Stmt := top 53
noncomputable abbrev s_l_cell : Stmt := top 54
noncomputable abbrev s_l_sewn : Stmt := top 55
noncomputable abbrev s_l_rows : Stmt := top 56
noncomputable abbrev s_l_tent : Stmt := top 57
noncomputable abbrev s_l_walk : Stmt := top 58
noncomputable abbrev s_l_thread : Stmt := top 59
noncomputable abbrev s_l_named : Stmt := top 60
noncomputable abbrev s_l_go : Stmt := top 61
noncomputable abbrev s_l_told : Stmt := top 62
noncomputable abbrev s_l_name : Stmt := top 63
noncomputable abbrev s_l_good : Stmt := top 64
noncomputable abbrev s_law : Stmt := top 65
structure Adr where
 (C_Tent C_Scene C_Hall f_cloth_of f_spots_of f_mates_of f_Tent_init f_Tent_rows f_Tent_seams f_Tent_has_place f_Tent_look_place f_Tent_seam_at f_Tent_places f_Tent_mate f_Tent_sort_of f_crossable f_follows f_plain f_look_thread f_turned f_tally f_look_numbers f_look_counts f_sewn_seams f_even_worths f_made_of f_is_name f_figures f_row_text f_counts_text f_Scene_init f_with_item f_without_item f_look_new_name f_look_length f_Hall_init f_Hall_enter f_Hall_lay f_Hall_pour f_Hall_lift f_Hall_back f_Hall_again f_Hall_deeds f_Hall_names f_Hall_families f_Hall_thread f_Hall_numbers f_l_numbers f_l_cell f_l_sewn f_l_rows f_l_tent f_l_walk f_l_thread f_l_named f_l_go f_l_told f_l_name f_l_good f_law E_NoPlace E_NoSeam E_NoThread E_NoTent E_BadName E_NoCounts E_Taken E_TentError E_TooMany E_Unknown : Addr)
 (d_cloth_of d_spots_of d_mates_of d_Tent_init d_Tent_rows d_Tent_seams d_Tent_has_place d_Tent_look_place d_Tent_seam_at d_Tent_places d_Tent_mate d_Tent_sort_of d_crossable d_follows d_plain d_look_thread d_turned d_tally d_look_numbers d_look_counts d_sewn_seams d_even_worths d_made_of d_is_name d_figures d_row_text d_counts_text d_Scene_init d_with_item d_without_item d_look_new_name d_look_length d_Hall_init d_Hall_enter d_Hall_lay d_Hall_pour d_Hall_lift d_Hall_back d_Hall_again d_Hall_deeds d_Hall_names d_Hall_families d_Hall_thread d_Hall_numbers d_l_numbers d_l_cell d_l_sewn d_l_rows d_l_tent d_l_walk d_l_thread d_l_named d_l_go d_l_told d_l_name d_l_good d_law : FuncData)
 (k_GREATEST_NAME k_SMALL_LETTERS k_LONGEST_NAME k_PART k_WRITTEN_AT_ONCE k_MOST_PLACES : Tok)
structure Txt (w : World) (K : PySem.W.Frag) (mg : Str → Option Value) (t : Adr) : Prop where
 gC_Tent : mg "Tent" = some (.ref t.C_Tent)
 cl_Tent : Cls K t.C_Tent
 a_Tent_cloths : NoAttr K t.C_Tent "cloths"
 a_Tent_names_at : NoAttr K t.C_Tent "names_at"
 a_Tent_spots : NoAttr K t.C_Tent "spots"
 a_Tent_mates : NoAttr K t.C_Tent "mates"
 gC_Scene : mg "Scene" = some (.ref t.C_Scene)
 cl_Scene : Cls K t.C_Scene
 a_Scene_tent : NoAttr K t.C_Scene "tent"
 a_Scene_threads : NoAttr K t.C_Scene "threads"
 a_Scene_pools : NoAttr K t.C_Scene "pools"
 a_Scene_worths : NoAttr K t.C_Scene "worths"
 gC_Hall : mg "Hall" = some (.ref t.C_Hall)
 cl_Hall : Cls K t.C_Hall
 a_Hall_began : NoAttr K t.C_Hall "began"
 a_Hall_scene : NoAttr K t.C_Hall "scene"
 a_Hall_standing : NoAttr K t.C_Hall "standing"
 a_Hall_undone : NoAttr K t.C_Hall "undone"
 p_cloth_of : FT K mg "cloth_of" s_cloth_of ["place"] t.f_cloth_of t.d_cloth_of
 p_spots_of : FT K mg "spots_of" s_spots_of ["names_at"] t.f_spots_of t.d_spots_of
 p_mates_of : FT K mg "mates_of" s_mates_of ["spots", "count"] t.f_mates_of t.d_mates_of
 p_Tent_init : FM K t.C_Tent "__init__" "Tent.__init__" s_Tent_init ["self", "rows"] t.f_Tent_init t.d_Tent_init
 p_Tent_rows : FM K t.C_Tent "rows" "Tent.rows" s_Tent_rows ["self"] t.f_Tent_rows t.d_Tent_rows
 p_Tent_seams : FM K t.C_Tent "seams" "Tent.seams" s_Tent_seams ["self"] t.f_Tent_seams t.d_Tent_seams
 p_Tent_has_place : FM K t.C_Tent "has_place" "Tent.has_place" s_Tent_has_place ["self", "place"] t.f_Tent_has_place t.d_Tent_has_place
 p_Tent_look_place : FM K t.C_Tent "look_place" "Tent.look_place" s_Tent_look_place ["self", "place"] t.f_Tent_look_place t.d_Tent_look_place
 p_Tent_seam_at : FM K t.C_Tent "seam_at" "Tent.seam_at" s_Tent_seam_at ["self", "place"] t.f_Tent_seam_at t.d_Tent_seam_at
 p_Tent_places : FM K t.C_Tent "places" "Tent.places" s_Tent_places ["self", "seam"] t.f_Tent_places t.d_Tent_places
 p_Tent_mate : FM K t.C_Tent "mate" "Tent.mate" s_Tent_mate ["self", "place"] t.f_Tent_mate t.d_Tent_mate
 p_Tent_sort_of : FM K t.C_Tent "sort_of" "Tent.sort_of" s_Tent_sort_of ["self", "seam"] t.f_Tent_sort_of t.d_Tent_sort_of
 p_crossable : FT K mg "crossable" s_crossable ["tent", "place"] t.f_crossable t.d_crossable
 p_follows : FT K mg "follows" s_follows ["tent", "ahead", "place"] t.f_follows t.d_follows
 p_plain : FT K mg "plain" s_plain ["tent", "word"] t.f_plain t.d_plain
 p_look_thread : FT K mg "look_thread" s_look_thread ["tent", "word"] t.f_look_thread t.d_look_thread
 p_turned : FT K mg "turned" s_turned ["word", "by"] t.f_turned t.d_turned
 p_tally : FT K mg "tally" s_tally ["tent", "word"] t.f_tally t.d_tally
 p_look_numbers : FT K mg "look_numbers" s_look_numbers ["tent", "counts"] t.f_look_numbers t.d_look_numbers
 p_look_counts : FT K mg "look_counts" s_look_counts ["tent", "counts"] t.f_look_counts t.d_look_counts
 p_sewn_seams : FT K mg "sewn_seams" s_sewn_seams ["tent"] t.f_sewn_seams t.d_sewn_seams
 p_even_worths : FT K mg "even_worths" s_even_worths ["tent"] t.f_even_worths t.d_even_worths
 p_made_of : FT K mg "made_of" s_made_of ["text", "signs"] t.f_made_of t.d_made_of
 p_is_name : FT K mg "is_name" s_is_name ["text"] t.f_is_name t.d_is_name
 p_figures : FT K mg "figures" s_figures ["number"] t.f_figures t.d_figures
 p_row_text : FT K mg "row_text" s_row_text ["words"] t.f_row_text t.d_row_text
 p_counts_text : FT K mg "counts_text" s_counts_text ["counts"] t.f_counts_text t.d_counts_text
 p_Scene_init : FM K t.C_Scene "__init__" "Scene.__init__" s_Scene_init ["self", "tent", "threads", "pools", "worths"] t.f_Scene_init t.d_Scene_init
 p_with_item : FT K mg "with_item" s_with_item ["table", "name", "value"] t.f_with_item t.d_with_item
 p_without_item : FT K mg "without_item" s_without_item ["table", "name"] t.f_without_item t.d_without_item
 p_look_new_name : FT K mg "look_new_name" s_look_new_name ["scene", "name"] t.f_look_new_name t.d_look_new_name
 p_look_length : FT K mg "look_length" s_look_length ["word"] t.f_look_length t.d_look_length
 p_Hall_init : FM K t.C_Hall "__init__" "Hall.__init__" s_Hall_init ["self", "rows"] t.f_Hall_init t.d_Hall_init
 p_Hall_enter : FM K t.C_Hall "enter" "Hall.enter" s_Hall_enter ["self", "text", "scene"] t.f_Hall_enter t.d_Hall_enter
 p_Hall_lay : FM K t.C_Hall "lay" "Hall.lay" s_Hall_lay ["self", "name", "word"] t.f_Hall_lay t.d_Hall_lay
 p_Hall_pour : FM K t.C_Hall "pour" "Hall.pour" s_Hall_pour ["self", "name", "counts"] t.f_Hall_pour t.d_Hall_pour
 p_Hall_lift : FM K t.C_Hall "lift" "Hall.lift" s_Hall_lift ["self", "name"] t.f_Hall_lift t.d_Hall_lift
 p_Hall_back : FM K t.C_Hall "back" "Hall.back" s_Hall_back ["self"] t.f_Hall_back t.d_Hall_back
 p_Hall_again : FM K t.C_Hall "again" "Hall.again" s_Hall_again ["self"] t.f_Hall_again t.d_Hall_again
 p_Hall_deeds : FM K t.C_Hall "deeds" "Hall.deeds" s_Hall_deeds ["self"] t.f_Hall_deeds t.d_Hall_deeds
 p_Hall_names : FM K t.C_Hall "names" "Hall.names" s_Hall_names ["self"] t.f_Hall_names t.d_Hall_names
 p_Hall_families : FM K t.C_Hall "families" "Hall.families" s_Hall_families ["self"] t.f_Hall_families t.d_Hall_families
 p_Hall_thread : FM K t.C_Hall "thread" "Hall.thread" s_Hall_thread ["self", "name"] t.f_Hall_thread t.d_Hall_thread
 p_Hall_numbers : FM K t.C_Hall "numbers" "Hall.numbers" s_Hall_numbers ["self"] t.f_Hall_numbers t.d_Hall_numbers
 p_l_numbers : FT K mg "_law_numbers" s_l_numbers ["_law_cell_here", "_law_many"] t.f_l_numbers t.d_l_numbers
 p_l_cell : FT K mg "_law_cell" s_l_cell ["_law_script", "_law_at"] t.f_l_cell t.d_l_cell
 p_l_sewn : FT K mg "_law_sewn" s_l_sewn ["_law_nums", "_law_many", "_law_share"] t.f_l_sewn t.d_l_sewn
 p_l_rows : FT K mg "_law_rows" s_l_rows ["_law_mates", "_law_start", "_law_step"] t.f_l_rows t.d_l_rows
 p_l_tent : FT K mg "_law_tent" s_l_tent ["_law_script"] t.f_l_tent t.d_l_tent
 p_l_walk : FT K mg "_law_walk" s_l_walk ["_law_mates", "_law_nums"] t.f_l_walk t.d_l_walk
 p_l_thread : FT K mg "_law_thread" s_l_thread ["_law_script", "_law_at", "_law_mates"] t.f_l_thread t.d_l_thread
 p_l_named : FT K mg "_law_named" s_l_named ["_law_rows_here", "_law_counts"] t.f_l_named t.d_l_named
 p_l_go : FT K mg "_law_go" s_l_go ["_law_hall", "_law_door", "_law_name_here", "_law_thing"] t.f_l_go t.d_l_go
 p_l_told : FT K mg "_law_told" s_l_told ["_law_hall", "_law_door", "_law_name_here", "_law_thing"] t.f_l_told t.d_l_told
 p_l_name : FT K mg "_law_name" s_l_name ["_law_cell_here"] t.f_l_name t.d_l_name
 p_l_good : FT K mg "_law_good" s_l_good ["_law_name_here"] t.f_l_good t.d_l_good
 p_law : FT K mg "law" s_law ["_law_script"] t.f_law t.d_law
 mk_Tent : Mk K t.C_Tent t.f_Tent_init
 mk_Scene : Mk K t.C_Scene t.f_Scene_init
 mk_Hall : Mk K t.C_Hall t.f_Hall_init
 c_GREATEST_NAME : mg "GREATEST_NAME" = some (.int 9999 t.k_GREATEST_NAME)
 c_SMALL_LETTERS : mg "SMALL_LETTERS" = some (.str (Str.ofString "abcdefghijklmnopqrstuvwxyz") t.k_SMALL_LETTERS)
 c_LONGEST_NAME : mg "LONGEST_NAME" = some (.int 8 t.k_LONGEST_NAME)
 c_PART : mg "PART" = some (.int 1000000000000000000000000000000000000000000000000000000000000 t.k_PART)
 c_WRITTEN_AT_ONCE : mg "WRITTEN_AT_ONCE" = some (.int 60 t.k_WRITTEN_AT_ONCE)
 c_MOST_PLACES : mg "MOST_PLACES" = some (.int 400 t.k_MOST_PLACES)
 bl : ∀ (s : Shared) (u : Value), BindsTo s t.d_law ⟨[u], []⟩ [("_law_script", u)]
 n_all : mg "all" = none
 n_any : mg "any" = none
 n_dict : mg "dict" = none
 n_enumerate : mg "enumerate" = none
 n_isinstance : mg "isinstance" = none
 n_len : mg "len" = none
 n_list : mg "list" = none
 n_max : mg "max" = none
 n_range : mg "range" = none
 n_reversed : mg "reversed" = none
 n_sorted : mg "sorted" = none
 n_str : mg "str" = none
 n_sum : mg "sum" = none
 n_tuple : mg "tuple" = none
 n_zip : mg "zip" = none
 gx_NoPlace : mg "NoPlace" = some (.ref t.E_NoPlace)
 x_NoPlace : ExcK K t.E_NoPlace bmV "ValueError.__new__"
 gx_NoSeam : mg "NoSeam" = some (.ref t.E_NoSeam)
 x_NoSeam : ExcK K t.E_NoSeam bmV "ValueError.__new__"
 gx_NoThread : mg "NoThread" = some (.ref t.E_NoThread)
 x_NoThread : ExcK K t.E_NoThread bmV "ValueError.__new__"
 gx_NoTent : mg "NoTent" = some (.ref t.E_NoTent)
 x_NoTent : ExcK K t.E_NoTent bmV "ValueError.__new__"
 gx_BadName : mg "BadName" = some (.ref t.E_BadName)
 x_BadName : ExcK K t.E_BadName bmV "ValueError.__new__"
 gx_NoCounts : mg "NoCounts" = some (.ref t.E_NoCounts)
 x_NoCounts : ExcK K t.E_NoCounts bmV "ValueError.__new__"
 gx_Taken : mg "Taken" = some (.ref t.E_Taken)
 x_Taken : ExcK K t.E_Taken bmV "ValueError.__new__"
 gx_TentError : mg "TentError" = some (.ref t.E_TentError)
 gx_TooMany : mg "TooMany" = some (.ref t.E_TooMany)
 x_TooMany : ExcK K t.E_TooMany bmV "ValueError.__new__"
 gx_Unknown : mg "Unknown" = some (.ref t.E_Unknown)
 x_Unknown : ExcK K t.E_Unknown bmV "ValueError.__new__"
 yx_TooMany_TooMany : PySem.W.exmOne K (.ref t.E_TooMany) (.ref t.E_TooMany) = some true
 yx_NoCounts_NoCounts : PySem.W.exmOne K (.ref t.E_NoCounts) (.ref t.E_NoCounts) = some true
 yx_NoThread_NoThread : PySem.W.exmOne K (.ref t.E_NoThread) (.ref t.E_NoThread) = some true
 yx_Unknown_Unknown : PySem.W.exmOne K (.ref t.E_Unknown) (.ref t.E_Unknown) = some true
 yx_Taken_Taken : PySem.W.exmOne K (.ref t.E_Taken) (.ref t.E_Taken) = some true
 yx_BadName_BadName : PySem.W.exmOne K (.ref t.E_BadName) (.ref t.E_BadName) = some true
 nx_NoCounts_TooMany : PySem.W.exmOne K (.ref t.E_NoCounts) (.ref t.E_TooMany) = some false
 nx_NoThread_TooMany : PySem.W.exmOne K (.ref t.E_NoThread) (.ref t.E_TooMany) = some false
 nx_NoThread_NoCounts : PySem.W.exmOne K (.ref t.E_NoThread) (.ref t.E_NoCounts) = some false
 nx_Unknown_TooMany : PySem.W.exmOne K (.ref t.E_Unknown) (.ref t.E_TooMany) = some false
 nx_Unknown_NoCounts : PySem.W.exmOne K (.ref t.E_Unknown) (.ref t.E_NoCounts) = some false
 nx_Unknown_NoThread : PySem.W.exmOne K (.ref t.E_Unknown) (.ref t.E_NoThread) = some false
 nx_Taken_TooMany : PySem.W.exmOne K (.ref t.E_Taken) (.ref t.E_TooMany) = some false
 nx_Taken_NoCounts : PySem.W.exmOne K (.ref t.E_Taken) (.ref t.E_NoCounts) = some false
 nx_Taken_NoThread : PySem.W.exmOne K (.ref t.E_Taken) (.ref t.E_NoThread) = some false
 nx_Taken_Unknown : PySem.W.exmOne K (.ref t.E_Taken) (.ref t.E_Unknown) = some false
 nx_BadName_TooMany : PySem.W.exmOne K (.ref t.E_BadName) (.ref t.E_TooMany) = some false
 nx_BadName_NoCounts : PySem.W.exmOne K (.ref t.E_BadName) (.ref t.E_NoCounts) = some false
 nx_BadName_NoThread : PySem.W.exmOne K (.ref t.E_BadName) (.ref t.E_NoThread) = some false
 nx_BadName_Unknown : PySem.W.exmOne K (.ref t.E_BadName) (.ref t.E_Unknown) = some false
 nx_BadName_Taken : PySem.W.exmOne K (.ref t.E_BadName) (.ref t.E_Taken) = some false
end KT
set_option maxHeartbeats 4000000
namespace KT
open PySem L2
theorem Same.add {H H1 : Hp} {p : Addr} {o : HO} (s : Same H H1) (hp : H p = none) : Same H (upd H1 p o) := fun b u e => by rw [upd_ne (ne_of_none e hp)]; exact s b u e
theorem Same.new {H : Hp} {p : Addr} {o : HO} (hp : H p = none) : Same H (upd H p o) := Same.add (Same.refl H) hp
theorem seq_post {t u : TS} {D : Ends} {σ : St} {H : Hp} (Post : St → Hp → Prop) (ht : ∀ nx : St → Hp → Prop, (∀ σ H, Post σ H → nx σ H) → t { D with nx := nx } σ H) (hu : ∀ σ H, Post σ H → u D σ H) : tSeq t u D σ H := ht (u D) hu
theorem seq_cut {t u : TS} {D : Ends} {σ : St} {H : Hp} (ht : ∀ nx : St → Hp → Prop, (∀ σ H, u D σ H → nx σ H) → t { D with nx := nx } σ H) : tSeq t u D σ H := ht (u D) fun _ _ h => h
theorem map_snoc (xs : List Int) (y : Int) : xs.map V.int ++ [V.int y] = (xs ++ [y]).map V.int := by simp
theorem getI {ns : List Int} {n : Nat} (h : n < ns.length) : (ns.map V.int)[n]? = some (V.int (ns.getD n 0)) := by
 rw [List.getElem?_map, List.getElem?_eq_getElem h, List.getD_eq_getElem?_getD, List.getElem?_eq_getElem h]
 rfl
noncomputable def cell (ns : List Int) (n : Int) : Int := if n < ns.length then ns.getD n.toNat 0 else if ns.length = 0 then 31 * n + 7 else ns.getD (n % ns.length).toNat 0 % 1000003 + 101 * n
noncomputable def sp_cell (K : PySem.W.Frag) : Sp := fun vs H Q _ => ∃ (a : Addr) (ns : List Int) (n : Int), vs = [.ref a, .int n] ∧ SqL K H a (ns.map V.int) ∧ ns.length ≤ 63 ∧ 0 ≤ n ∧ n < 1000000 ∧ Q (.int (cell ns n)) H
noncomputable def sp_numbers : Sp := fun vs H Q _ => ∃ (c : Int) (n : Nat), vs = [.int c, .int n] ∧ n ≤ 60 ∧ ∀ (p : Addr) (xs : List Int) (H' : Hp), Same H H' → H p = none → H' p = some (.lst (xs.map V.int)) → xs.length = n → (∀ x ∈ xs, 0 ≤ x ∧ x < 1009) → Q (.ref p) H'
section
variable {P : Program} {w : World} {K : PySem.W.Frag} {mg : Str → Option Value} {base : Heap} {t : Adr}
theorem sc_l_cell : FnScope ["_law_script", "_law_at"] ["_law_script", "_law_at"] (defScope s_l_cell) := ⟨rfl, rfl, rfl, by decide +kernel, rfl, by decide +kernel, by decide +kernel⟩
theorem ok_l_cell (T : Txt w K mg t) : FnOk P w K mg base (CXr P w) 1 t.f_l_cell t.d_l_cell ["_law_script", "_law_at"] (sp_cell K) := by
 refine T.p_l_cell.F.okR sc_l_cell (fun vs H Q E h => ?_) (fun cdv A outer s H vs Q E hr h => ?_)
 ·obtain ⟨a, ns, n, rfl, _⟩ := h
  rfl
 ·obtain ⟨a, ns, n, rfl, hS, hl, h0, h1, k⟩ := h
  refine ⟨_, (pss_cons (ps_if (pt_cmpR op_lt (pv 1) (pe_callB call_len_seq (by rfl) T.n_len PySem.boot_len (pa_cons (pv 0) pa_nil)) (nomark _)) (pss_one (ps_ret (pe_ix ix_list (pv 0) (pv 1) (fun _ _ => rfl)))) pss_nil)
   (pss_cons (ps_if (pt_cmpR op_eq (pe_callB call_len_seq (by rfl) T.n_len PySem.boot_len (pa_cons (pv 0) pa_nil)) pe_int (nomark _)) (pss_one (ps_ret (pe_op op_add (pe_op op_mul pe_int (pv 1)) pe_int))) pss_nil)
   (pss_one (ps_ret (pe_op op_add (pe_op op_mod (pe_ix ix_list (pv 0) (pe_op op_mod (pv 1) (pe_callB call_len_seq (by rfl) T.n_len PySem.boot_len (pa_cons (pv 0) pa_nil))) (fun _ _ => rfl)) pe_int) (pe_op op_mul pe_int (pv 1))))))), ?_⟩
  have el : ((ns.map V.int).length : Int) = ns.length := by simp
  refine ⟨_, rfl, _, rfl, a, _, rfl, .inl hS, _, _, rfl, rfl, _, rfl, ?_⟩
  rw [el]
  refine ite2 (fun h => ?_) (fun h => ?_)
  ·have h : n < ns.length := by simpa using h
   have e : cell ns n = ns.getD n.toNat 0 := if_pos h
   have en : n = (n.toNat : Int) := by omega
   have ei : atI (ns.map V.int) n = some (V.int (ns.getD n.toNat 0)) := by rw [en]; exact atI_nat (getI (n := n.toNat) (by omega))
   rw [e] at k
   exact ⟨_, rfl, _, rfl, a, _, _, _, rfl, rfl, hS, ei, k⟩
  ·have h : ¬ n < ns.length := by simpa using h
   have e : cell ns n = if ns.length = 0 then 31 * n + 7 else ns.getD (n % ns.length).toNat 0 % 1000003 + 101 * n := if_neg h
   refine ⟨_, rfl, a, _, rfl, .inl hS, rfl, _, rfl, ?_⟩
   rw [el]
   refine ite2 (fun g => ?_) (fun g => ?_)
   ·have g : ns.length = 0 := by simpa using g
    refine ⟨_, rfl, _, _, rfl, rfl, .inl ⟨by decide, by decide⟩, _, _, rfl, rfl, ?_⟩
    rw [if_pos g] at e
    rw [e] at k; exact k
   ·have g : ¬ ns.length = 0 := by simpa using g
    have gp : (0 : Int) < ns.length := by omega
    rw [if_neg g] at e
    have m0 := Int.emod_nonneg n (show (ns.length : Int) ≠ 0 by omega)
    have m1 := Int.emod_lt_of_pos n gp
    refine ⟨_, rfl, _, rfl, _, rfl, a, _, rfl, .inl hS, _, _, rfl, rfl, (by rw [el]; exact gp), a, _, _, _, rfl, rfl, hS, (?_ : atI _ _ = some (V.int (ns.getD (n % ns.length).toNat 0))), _, _, rfl, rfl, (by show (0 : Int) < 1000003; decide), _, rfl, _, _, rfl, rfl, .inl ⟨by decide, by decide⟩, _, _, rfl, rfl, ?_⟩
    ·rw [el]
     have en : n % (ns.length : Int) = ((n % (ns.length : Int)).toNat : Int) := by omega
     rw [en]
     exact atI_nat (getI (by omega))
    ·rw [e] at k; exact k
theorem sc_l_numbers : FnScope ["_law_cell_here", "_law_many", "_law_row", "_law_rest", "_law_seed"] ["_law_cell_here", "_law_many"] (defScope s_l_numbers) := ⟨rfl, rfl, rfl, by decide +kernel, rfl, by decide +kernel, by decide +kernel⟩
theorem ok_l_numbers (T : Txt w K mg t) : FnOk P w K mg base (CXr P w) 1 t.f_l_numbers t.d_l_numbers ["_law_cell_here", "_law_many"] sp_numbers := by
 refine T.p_l_numbers.F.okR sc_l_numbers (fun vs H Q E h => ?_) (fun cdv A outer s H vs Q E hr h => ?_)
 ·obtain ⟨c, n, rfl, _⟩ := h
  rfl
 ·obtain ⟨c, n, rfl, hn60, k⟩ := h
  refine ⟨_, (pss_cons (ps_set (i := 2) sc_l_numbers.nd rfl (Or.inl rfl) (pe_lst pa_nil))
   (pss_cons (ps_set (i := 3) sc_l_numbers.nd rfl (Or.inl rfl) (pe_op op_sub (pv 0) (pe_op op_pow pe_int pe_int)))
   (pss_cons (ps_while PassesOwn.never (PW.pt (pw_and (pt_cmpR op_gt (pv 3) pe_int (nomark _)) (pw_and1 (pt_cmpR op_lt (pe_callB call_len_seq (by rfl) T.n_len PySem.boot_len (pa_cons (pv 2) pa_nil)) (pv 1) (nomark _))))) (pss_cons (ps_expr (pe_bm PySem.F.plainAttrs_list PySem.F.slot_list_append PySem.F.type_list_append mt_append (pv 2) (pa_cons (pe_op op_mod (pv 3) pe_int) pa_nil)))
   (pss_one (ps_set (i := 3) sc_l_numbers.nd rfl (Or.inl rfl) (pe_op op_fdiv (pv 3) pe_int)))))
   (pss_cons (ps_set (i := 4) sc_l_numbers.nd rfl (Or.inl rfl) (pe_op op_mod (pv 0) pe_int))
   (pss_cons (ps_while PassesOwn.never (pt_cmpR op_lt (pe_callB call_len_seq (by rfl) T.n_len PySem.boot_len (pa_cons (pv 2) pa_nil)) (pv 1) (nomark _)) (pss_cons (ps_set (i := 4) sc_l_numbers.nd rfl (Or.inl rfl) (pe_op op_mod (pe_op op_add (pe_op op_add (pe_op op_mul (pv 4) pe_int) pe_int) (pe_callB call_len_seq (by rfl) T.n_len PySem.boot_len (pa_cons (pv 2) pa_nil))) pe_int))
   (pss_one (ps_expr (pe_bm PySem.F.plainAttrs_list PySem.F.slot_list_append PySem.F.type_list_append mt_append (pv 2) (pa_cons (pe_op op_mod (pe_op op_fdiv (pe_op op_mod (pe_op op_mul (pv 4) pe_int) pe_int) pe_int) pe_int) pa_nil))))))
   (pss_one (ps_ret (pv 2)))))))), ?_⟩
  refine ⟨Nat.zero_le _, fun r hr0 => ?_⟩
  refine ⟨_, rfl, _, _, rfl, rfl, ⟨by decide, by decide, by decide⟩, _, _, rfl, rfl, ?_⟩
  show tSeq (tWhile _ _) _ _ _ _
  refine seq_post (fun σ H1 => ∃ (xs : List Int) (rest : Int), σ = [some (.int c), some (.int n), some (.ref r), some (.int rest), none] ∧ Same H H1 ∧ H1 r = some (.lst (xs.map V.int)) ∧ xs.length ≤ n ∧ (∀ x ∈ xs, 0 ≤ x ∧ x < 1009)) (fun nx hnx => ?_) ?_
  ·refine ⟨fun m σ H1 => ∃ (xs : List Int) (rest : Int), m = n - xs.length ∧ σ = [some (.int c), some (.int n), some (.ref r), some (.int rest), none] ∧ Same H H1 ∧ H1 r = some (.lst (xs.map V.int)) ∧ xs.length ≤ n ∧ (∀ x ∈ xs, 0 ≤ x ∧ x < 1009),
    ⟨n, [], _, rfl, rfl, Same.new hr0, upd_same, Nat.zero_le _, fun x hx => absurd hx (by simp)⟩, ?_⟩
   rintro m σ H1 ⟨xs, rest, rfl, rfl, sm, h1, hl, hx⟩
   have el : ((xs.map V.int).length : Int) = xs.length := by simp
   refine ⟨_, rfl, _, _, rfl, rfl, _, rfl, ?_⟩
   refine ite2 (fun _ => ?_) (fun _ => ?_)
   ·refine ⟨_, rfl, r, _, rfl, .inl (SqL.of h1), _, rfl, _, _, rfl, rfl, _, rfl, ?_⟩
    rw [el]
    refine ite2 (fun g => ?_) (fun _ => ?_)
    ·have g : (xs.length : Int) < n := by simpa using g
     refine ⟨_, fun σ' H' h => h, ?_⟩
     refine ⟨_, rfl, .inl ⟨rfl, _, SqL.of h1⟩, _, rfl, _, _, rfl, rfl, (by show (0 : Int) < 1009; decide), r, _, _, rfl, rfl, h1, (by rw [List.length_map]; exact small1000 (by omega)), ?_⟩
     refine ⟨_, rfl, _, _, rfl, rfl, ⟨by decide, by decide⟩, ?_⟩
     refine ⟨n - (xs ++ [rest % 1009]).length, ?_, xs ++ [rest % 1009], _, rfl, rfl, Same.add sm hr0, ?_, ?_, ?_⟩
     ·rw [List.length_append, List.length_singleton]; omega
     ·rw [upd_same, ← map_snoc]
     ·rw [List.length_append, List.length_singleton]; omega
     ·intro x hm
      rcases List.mem_append.mp hm with z | z
      ·exact hx x z
      ·have : x = rest % 1009 := by simpa using z
       subst this
       omega
    ·exact hnx _ _ ⟨xs, rest, rfl, sm, h1, hl, hx⟩
   ·exact hnx _ _ ⟨xs, rest, rfl, sm, h1, hl, hx⟩
  rintro σ H1 ⟨xs, rest, rfl, sm, h1, hl, hx⟩
  refine ⟨_, rfl, _, _, rfl, rfl, (by show (0 : Int) < 2147483629; decide), ?_⟩
  show tSeq (tWhile _ _) _ _ _ _
  refine seq_post (fun σ H1 => ∃ (xs : List Int) (rest seed : Int), σ = [some (.int c), some (.int n), some (.ref r), some (.int rest), some (.int seed)] ∧ Same H H1 ∧ H1 r = some (.lst (xs.map V.int)) ∧ xs.length = n ∧ (∀ x ∈ xs, 0 ≤ x ∧ x < 1009)) (fun nx hnx => ?_) ?_
  ·refine ⟨fun m σ H1 => ∃ (xs : List Int) (rest seed : Int), m = n - xs.length ∧ σ = [some (.int c), some (.int n), some (.ref r), some (.int rest), some (.int seed)] ∧ Same H H1 ∧ H1 r = some (.lst (xs.map V.int)) ∧ xs.length ≤ n ∧ (∀ x ∈ xs, 0 ≤ x ∧ x < 1009),
    ⟨n - xs.length, xs, rest, _, rfl, rfl, sm, h1, hl, hx⟩, ?_⟩
   clear h1 hl hx sm xs rest
   rintro m σ H1 ⟨xs, rest, seed, rfl, rfl, sm, h1, hl, hx⟩
   have el : ((xs.map V.int).length : Int) = xs.length := by simp
   refine ⟨_, rfl, r, _, rfl, .inl (SqL.of h1), _, rfl, _, _, rfl, rfl, _, rfl, ?_⟩
   rw [el]
   refine ite2 (fun g => ?_) (fun g => ?_)
   ·have g : (xs.length : Int) < n := by simpa using g
    refine ⟨_, fun σ' H' h => h, ?_⟩
    refine ⟨_, rfl, _, _, rfl, rfl, .inr ⟨by decide, by decide⟩, _, _, rfl, rfl, _, rfl, r, _, rfl, .inl (SqL.of h1), _, _, rfl, rfl, _, _, rfl, rfl, (by show (0 : Int) < 2147483647; decide), ?_⟩
    obtain ⟨y, hy⟩ : ∃ y, y = (seed * 48271 + 12345 + ((xs.map V.int).length : Int)) % 2147483647 * 69621 % 2147483629 / 7 % 1009 := ⟨_, rfl⟩
    refine ⟨_, rfl, .inl ⟨rfl, _, SqL.of h1⟩, _, rfl, _, _, rfl, rfl, .inr ⟨by decide, by decide⟩, _, _, rfl, rfl, (by show (0 : Int) < 2147483629; decide), _, _, rfl, rfl, ⟨by decide, by decide⟩, _, _, rfl, rfl, (by show (0 : Int) < 1009; decide), r, _, _, rfl, rfl, h1, (by rw [List.length_map]; exact small1000 (by omega)), ?_⟩
    refine ⟨n - (xs ++ [y]).length, ?_, xs ++ [y], _, _, rfl, rfl, Same.add sm hr0, ?_, ?_, ?_⟩
    ·rw [List.length_append, List.length_singleton]; omega
    ·rw [upd_same, ← map_snoc, hy]
    ·rw [List.length_append, List.length_singleton]; omega
    ·intro x hm
     rcases List.mem_append.mp hm with z | z
     ·exact hx x z
     ·have : x = y := by simpa using z
      rw [this, hy]
      exact ⟨Int.emod_nonneg _ (by decide), Int.emod_lt_of_pos _ (by decide)⟩
   ·have g : ¬ (xs.length : Int) < n := by simpa using g
    exact hnx _ _ ⟨xs, rest, seed, rfl, sm, h1, by omega, hx⟩
  rintro σ H1 ⟨xs, rest, seed, rfl, sm, h1, hl, hx⟩
  exact ⟨_, rfl, k r xs H1 sm hr0 h1 hl hx⟩
noncomputable def sp_sewn (K : PySem.W.Frag) : Sp := fun vs H Q _ => ∃ (a : Addr) (xs : List Int) (n : Nat) (sh : Int), vs = [.ref a, .int n, .int sh] ∧ H a = some (.lst (xs.map V.int)) ∧ xs.length = 60 ∧ (∀ x ∈ xs, 0 ≤ x ∧ x < 1009) ∧ 1 ≤ n ∧ n ≤ 14 ∧
 ∀ (p : Addr) (M : List (Option Nat)) (H' : Hp), Same H H' → H p = none → H' p = some (.lst (M.map mV)) → M.length = 3 * n → (∀ (i j : Nat), M[i]? = some (some j) → M[j]? = some (some i) ∧ i ≠ j) → Q (.ref p) H'
theorem map_set {α : Type} (f : α → V) (l : List α) (i : Nat) (x : α) : (l.map f).set i (f x) = (l.set i x).map f := by rw [List.map_set]
theorem ixN_nat {n i : Nat} (h : i < n) : ixN n (i : Int) = some i := by
 unfold ixN
 simp
 omega
theorem er_map {α β : Type} (f : α → β) : ∀ (l : List α) (i : Nat), (l.map f).eraseIdx i = (l.eraseIdx i).map f
 | [], _ => rfl
 | _ :: _, 0 => rfl
 | a :: r, i + 1 => by rw [List.map_cons, List.eraseIdx_cons_succ, er_map f r i, List.eraseIdx_cons_succ, List.map_cons]
theorem natV (F : List Nat) (i : Nat) : (F.map fun (j : Nat) => V.int j)[i]? = (F[i]?).map fun (j : Nat) => V.int j := List.getElem?_map ..
theorem sc_l_sewn : FnScope ["_law_nums", "_law_many", "_law_share", "_law_mates", "_law_free", "_law_at", "_law_one", "_law_pick", "_law_other"] ["_law_nums", "_law_many", "_law_share"] (defScope s_l_sewn) := ⟨rfl, rfl, rfl, by decide +kernel, rfl, by decide +kernel, by decide +kernel⟩
theorem ok_l_sewn (T : Txt w K mg t) : FnOk P w K mg base (CXr P w) 1 t.f_l_sewn t.d_l_sewn ["_law_nums", "_law_many", "_law_share"] (sp_sewn K) := by
 refine T.p_l_sewn.F.okR sc_l_sewn (fun vs H Q E h => ?_) (fun cdv A outer s H vs Q E hr h => ?_)
 ·obtain ⟨a, xs, n, sh, rfl, _⟩ := h
  rfl
 ·obtain ⟨a, xs, n, sh, rfl, ha, hl, hx, h1, h2, k⟩ := h
  refine ⟨_, (pss_cons (ps_set (i := 3) sc_l_sewn.nd rfl (Or.inl rfl) (pe_op op_rep (pe_lst (pa_cons pe_non pa_nil)) (pe_op op_mul pe_int (pv 1))))
   (pss_cons (ps_set (i := 4) sc_l_sewn.nd rfl (Or.inl rfl) (pe_listRange rfl T.n_list rfl T.n_range rfl (pa_cons (pe_op op_mul pe_int (pv 1)) pa_nil)))
   (pss_cons (ps_set (i := 5) sc_l_sewn.nd rfl (Or.inl rfl) pe_int)
   (pss_cons (ps_while PassesOwn.never (pt_cmpR op_gt (pe_callB call_len_seq (by rfl) T.n_len PySem.boot_len (pa_cons (pv 4) pa_nil)) pe_int (nomark _)) (pss_cons (ps_set (i := 6) sc_l_sewn.nd rfl (Or.inl rfl) (pe_bm PySem.F.plainAttrs_list PySem.F.slot_list_pop PySem.F.type_list_pop mt_popAt (pv 4) (pa_cons pe_int pa_nil)))
   (pss_cons (ps_set (i := 7) sc_l_sewn.nd rfl (Or.inl rfl) (pe_ix ix_list (pv 0) (pv 5) (fun _ _ => rfl)))
   (pss_cons (ps_set (i := 5) sc_l_sewn.nd rfl (Or.inl rfl) (pe_op op_add (pv 5) pe_int))
   (pss_one (ps_if (pt_cmpR op_ge (pe_op op_mod (pv 7) pe_int) (pv 2) (nomark _)) (pss_cons (ps_set (i := 8) sc_l_sewn.nd rfl (Or.inl rfl) (pe_bm PySem.F.plainAttrs_list PySem.F.slot_list_pop PySem.F.type_list_pop mt_popAt (pv 4) (pa_cons (pe_op op_mod (pe_op op_fdiv (pv 7) pe_int) (pe_callB call_len_seq (by rfl) T.n_len PySem.boot_len (pa_cons (pv 4) pa_nil))) pa_nil)))
   (pss_cons (ps_asg (pv 8) (pg_sub (pv 3) (pv 6) set_list))
   (pss_one (ps_asg (pv 6) (pg_sub (pv 3) (pv 8) set_list))))) pss_nil))))))
   (pss_one (ps_ret (pv 3))))))), ?_⟩
  refine ⟨(by show 1 ≤ sizeLine; decide), fun q hq => ?_⟩
  refine ⟨_, rfl, _, _, rfl, rfl, .inl ⟨by decide, by decide⟩, q, _, _, rfl, rfl, upd_same, (by omega), (by omega), ?_, fun m hm => ?_⟩
  ·have : (3 * (n : Int)).toNat = 3 * n := by omega
   show 1 * (3 * (n : Int)).toNat ≤ sizeLine
   rw [this, sizeLine_eq]; omega
  have eN : (3 * (n : Int)).toNat = 3 * n := by omega
  have eM : (List.replicate (3 * (n : Int)).toNat [V.non]).flatten = (List.replicate (3 * n) (none : Option Nat)).map mV := by
   rw [eN, List.flatten_replicate_singleton, List.map_replicate]
   rfl
  refine ⟨_, rfl, _, _, rfl, rfl, .inl ⟨by decide, by decide⟩, 3 * n, (congrArg (fun z => [V.int z]) (by omega : (3 * (n : Int)) = ((3 * n : Nat) : Int))), by omega, fun f hf => ?_⟩
  have hfm : f ≠ m := fun z => by rw [z, upd_same] at hf; cases hf
  have hm0 : H m = none := by
   have : m ≠ q := fun z => by rw [z, upd_same] at hm; cases hm
   rw [upd_ne this] at hm; exact hm
  have hf0 : H f = none := by
   rw [upd_ne hfm] at hf
   have : f ≠ q := fun z => by rw [z, upd_same] at hf; cases hf
   rw [upd_ne this] at hf; exact hf
  have sm0 : Same H (upd (upd (upd H q (.lst [.non])) m (.lst (List.replicate (3 * (n : Int)).toNat [V.non]).flatten)) f (.lst ((List.range (3 * n)).map fun (i : Nat) => V.int i))) := Same.add (Same.add (Same.new hq) hm0) hf0
  show tSeq (tWhile _ _) _ _ _ _
  refine seq_post (fun σ H1 => ∃ (M : List (Option Nat)) (v4 v5 v6 v7 v8 : Option V), σ = [some (.ref a), some (.int n), some (.int sh), some (.ref m), v4, v5, v6, v7, v8] ∧ Same H H1 ∧ H1 m = some (.lst (M.map mV)) ∧ M.length = 3 * n ∧ ∀ (i j : Nat), M[i]? = some (some j) → M[j]? = some (some i) ∧ i ≠ j) (fun nx hnx => ?_) ?_
  ·refine ⟨fun c σ H1 => ∃ (F : List Nat) (M : List (Option Nat)) (at' : Nat) (v6 v7 v8 : Option V), c = F.length ∧ σ = [some (.ref a), some (.int n), some (.int sh), some (.ref m), some (.ref f), some (.int at'), v6, v7, v8] ∧ Same H H1 ∧ H1 m = some (.lst (M.map mV)) ∧ H1 f = some (.lst (F.map fun (i : Nat) => V.int i)) ∧ SewOk (3 * n) F M ∧ at' + F.length ≤ 3 * n,
    ⟨_, List.range (3 * n), List.replicate (3 * n) none, 0, none, none, none, rfl, rfl, sm0, ?_, upd_same, SewOk.start _, by simp⟩, ?_⟩
   ·rw [upd_ne hfm.symm, upd_same, eM]
   rintro c σ H1 ⟨F, M, at', v6, v7, v8, rfl, rfl, sm, g1, g2, hs, hat⟩
   refine ⟨_, rfl, f, _, rfl, .inl (SqL.of g2), _, _, rfl, rfl, _, rfl, ?_⟩
   rw [List.length_map]
   refine ite2 (fun g => ?_) (fun g => ?_)
   ·have g : 1 < F.length := by have := of_decide_eq_true g; omega
    obtain ⟨one, F', rfl⟩ : ∃ one F', F = one :: F' := by
     cases F with
     | nil => simp at g
     | cons a b => exact ⟨a, b, rfl⟩
    rw [List.length_cons] at g hat
    refine ⟨_, fun σ' H' h => h, ?_⟩
    refine ⟨_, rfl, .inl ⟨rfl, _, SqL.of g2⟩, f, _, 0, 0, V.int one, rfl, rfl, g2, by decide, by decide, (by simp [seqIndex?]), rfl, ?_⟩
    have e0 : ((one :: F').map fun (i : Nat) => V.int i).eraseIdx 0 = F'.map fun (i : Nat) => V.int i := rfl
    rw [e0]
    have g2' : (upd H1 f (.lst (F'.map fun (i : Nat) => V.int i))) f = some (.lst (F'.map fun (i : Nat) => V.int i)) := upd_same
    have g1' : (upd H1 f (.lst (F'.map fun (i : Nat) => V.int i))) m = some (.lst (M.map mV)) := by rw [upd_ne hfm.symm]; exact g1
    have sm' : Same H (upd H1 f (.lst (F'.map fun (i : Nat) => V.int i))) := Same.add sm hf0
    generalize upd H1 f (.lst (F'.map fun (i : Nat) => V.int i)) = H2 at g1' g2' sm' ⊢
    have hpick : at' < xs.length := by omega
    refine ⟨_, rfl, _, rfl, a, _, _, _, rfl, rfl, SqL.of (sm' _ _ ha), atI_nat (getI hpick), ?_⟩
    obtain ⟨p0, p1⟩ := hx _ (List.getElem_mem hpick)
    have ep : xs.getD at' 0 = xs[at'] := by rw [List.getD_eq_getElem?_getD, List.getElem?_eq_getElem hpick]; rfl
    rw [ep]
    generalize xs[at'] = pick at p0 p1 ⊢
    refine ⟨_, rfl, _, _, rfl, rfl, ?_⟩
    refine ⟨_, rfl, _, _, rfl, rfl, (by show (0 : Int) < 7; decide), _, rfl, _, _, rfl, rfl, _, rfl, ?_⟩
    refine ite2 (fun _ => ?_) (fun _ => ?_)
    ·-- other = free.pop(..)
     have hF : (0 : Int) < F'.length := by omega
     have k0 := Int.emod_nonneg (pick / 7) (show (F'.length : Int) ≠ 0 by omega)
     have k1 := Int.emod_lt_of_pos (pick / 7) hF
     obtain ⟨kk, hkk⟩ : ∃ kk : Nat, pick / 7 % (F'.length : Int) = kk := ⟨_, (Int.toNat_of_nonneg k0).symm⟩
     have hkl : kk < F'.length := by omega
     refine ⟨_, rfl, .inl ⟨rfl, _, SqL.of g2'⟩, _, rfl, _, _, rfl, rfl, ⟨by decide, by decide⟩, _, rfl, f, _, rfl, .inl (SqL.of g2'), _, _, rfl, rfl, (by rw [List.length_map]; exact hF), f, _, _, kk, V.int F'[kk], rfl, rfl, g2', ?_, ?_, ?_, ?_, ?_⟩
     ·rw [List.length_map, hkk]; omega
     ·rw [List.length_map, hkk]; omega
     ·rw [List.length_map, hkk]; simp [seqIndex?]; omega
     ·rw [natV, List.getElem?_eq_getElem hkl]; rfl
     have e1 : (F'.map fun (i : Nat) => V.int i).eraseIdx kk = (F'.eraseIdx kk).map fun (i : Nat) => V.int i := by rw [er_map]
     rw [e1]
     have hp := hs.pair (List.getElem?_eq_getElem hkl)
     have l1 : one < M.length := by rw [hs.len]; exact (hs.free one List.mem_cons_self).1
     have l2 : F'[kk] < M.length := by rw [hs.len]; exact (hs.free _ (List.mem_cons_of_mem _ (List.getElem_mem hkl))).1
     have g1'' : (upd H2 f (.lst ((F'.eraseIdx kk).map fun (i : Nat) => V.int i))) m = some (.lst (M.map mV)) := by rw [upd_ne hfm.symm]; exact g1'
     refine ⟨_, rfl, _, rfl, _, rfl, m, _, _, one, rfl, rfl, g1'', (by rw [List.length_map]; exact ixN_nat l1), ?_⟩
     refine ⟨_, rfl, _, rfl, _, rfl, m, _, _, F'[kk], rfl, rfl, upd_same, (by rw [List.length_set, List.length_map]; exact ixN_nat l2), ?_⟩
     refine ⟨(F'.eraseIdx kk).length, ?_, F'.eraseIdx kk, (M.set one (some F'[kk])).set F'[kk] (some one), at' + 1, _, _, _, rfl, rfl, Same.add (Same.add (Same.add sm' hf0) hm0) hm0, ?_, ?_, hp, ?_⟩
     ·rw [List.length_eraseIdx_of_lt hkl, List.length_cons]; omega
     ·rw [upd_same]
      show some (HO.lst (((M.map mV).set one (mV (some F'[kk]))).set F'[kk] (mV (some one)))) = _
      rw [map_set, map_set]
     ·rw [upd_ne hfm, upd_ne hfm, upd_same]
     ·rw [List.length_eraseIdx_of_lt hkl]; omega
    ·exact ⟨F'.length, by rw [List.length_cons]; omega, F', M, at' + 1, _, _, _, rfl, rfl, sm', g1', g2', hs.skip, by omega⟩
   ·exact hnx _ _ ⟨M, _, _, _, _, _, rfl, sm, g1, hs.len, hs.inv⟩
  rintro σ H1 ⟨M, v4, v5, v6, v7, v8, rfl, sm, g1, hl', hi'⟩
  exact ⟨_, rfl, k m M H1 sm hm0 g1 hl' hi'⟩
end
end KT
set_option maxHeartbeats 4000000
namespace KT
open PySem L2
theorem loop_range {lo : Int} {n : Nat} {g : TG} {tt : TT} {tb : TB} {R : St → Hp → Prop} {σ : St} {H : Hp} (Pv : Nat → St → Hp → Prop) (h0 : Pv 0 σ H)
  (hs : ∀ (i : Nat) σ H, i < n → Pv i σ H → g (.int (lo + i)) σ H fun σ2 H2 => tt σ2 H2 fun b H3 => if b = true then tb σ2 H3 (Pv (i + 1)) else Pv (i + 1) σ2 H3) (hd : ∀ σ H, Pv n σ H → R σ H) : LoopR (Itr lo n) g tt tb R σ H := by
 refine ⟨fun i m σ H => m = n - i ∧ i ≤ n ∧ Pv i σ H, ⟨n, by simp, Nat.zero_le _, h0⟩, ?_⟩
 rintro i m σ H ⟨rfl, hi, p⟩
 by_cases hlt : i < n
 ·refine .inr ⟨hlt, Pv (i + 1), fun σ' H' p' => ⟨n - (i + 1), by omega, rfl, hlt, p'⟩, fun x H' y => ?_⟩
  obtain ⟨e, y⟩ := y
  subst e y
  exact hs i σ _ hlt p
 ·have e : i = n := by omega
  subst e
  exact .inl ⟨Nat.le_refl _, hd σ H p⟩
theorem loop_list {K : PySem.W.Frag} {a : Addr} {xs : List V} {g : TG} {tt : TT} {tb : TB} {R : St → Hp → Prop} {σ : St} {H : Hp} (Pv : Nat → St → Hp → Prop) (h0 : Pv 0 σ H) (hl : ∀ i σ H, i ≤ xs.length → Pv i σ H → SqL K H a xs)
  (hs : ∀ (i : Nat) x σ H, xs[i]? = some x → Pv i σ H → g x σ H fun σ2 H2 => tt σ2 H2 fun b H3 => if b = true then tb σ2 H3 (Pv (i + 1)) else Pv (i + 1) σ2 H3) (hd : ∀ σ H, Pv xs.length σ H → R σ H) : LoopR (Itl K a) g tt tb R σ H := by
 refine ⟨fun i m σ H => m = xs.length - i ∧ i ≤ xs.length ∧ Pv i σ H, ⟨xs.length, by simp, Nat.zero_le _, h0⟩, ?_⟩
 rintro i m σ H ⟨rfl, hi, p⟩
 have q := hl i σ H hi p
 by_cases hlt : i < xs.length
 ·refine .inr ⟨⟨xs, xs[i], q, by simp [hlt]⟩, Pv (i + 1), fun σ' H' p' => ⟨xs.length - (i + 1), by omega, rfl, hlt, p'⟩, fun x H' y => ?_⟩
  obtain ⟨e, y⟩ := y
  subst e
  exact hs i x σ _ (y xs q) p
 ·have e : i = xs.length := by omega
  subst e
  exact .inl ⟨⟨xs, q, Nat.le_refl _⟩, hd σ H p⟩
theorem loop_tup {K : PySem.W.Frag} {a : Addr} {xs : List V} {g : TG} {tt : TT} {tb : TB} {R : St → Hp → Prop} {σ : St} {H : Hp} (Pv : Nat → St → Hp → Prop) (h0 : Pv 0 σ H) (hl : ∀ i σ H, i ≤ xs.length → Pv i σ H → SqT K H a xs)
  (hs : ∀ (i : Nat) x σ H, xs[i]? = some x → Pv i σ H → g x σ H fun σ2 H2 => tt σ2 H2 fun b H3 => if b = true then tb σ2 H3 (Pv (i + 1)) else Pv (i + 1) σ2 H3) (hd : ∀ σ H, Pv xs.length σ H → R σ H) : LoopR (Itt K a) g tt tb R σ H := by
 refine ⟨fun i m σ H => m = xs.length - i ∧ i ≤ xs.length ∧ Pv i σ H, ⟨xs.length, by simp, Nat.zero_le _, h0⟩, ?_⟩
 rintro i m σ H ⟨rfl, hi, p⟩
 have q := hl i σ H hi p
 by_cases hlt : i < xs.length
 ·refine .inr ⟨⟨xs, xs[i], q, by simp [hlt]⟩, Pv (i + 1), fun σ' H' p' => ⟨xs.length - (i + 1), by omega, rfl, hlt, p'⟩, fun x H' y => ?_⟩
  obtain ⟨e, y⟩ := y
  subst e
  exact hs i x σ _ (y xs q) p
 ·have e : i = xs.length := by omega
  subst e
  exact .inl ⟨⟨xs, q, Nat.le_refl _⟩, hd σ H p⟩
noncomputable def row3 (ns : List Int) (k : Nat) : List V := [.int (ns.getD (3 * k) 0), .int (ns.getD (3 * k + 1) 0), .int (ns.getD (3 * k + 2) 0)]
noncomputable def RowsAt (H : Hp) (r : Addr) (ns : List Int) : Prop := ∃ ts : List Addr, H r = some (.lst (ts.map V.ref)) ∧ ns.length = 3 * ts.length ∧ ∀ (k : Nat) (t : Addr), ts[k]? = some t → H t = some (.tup (row3 ns k))
theorem RowsAt.same {H H' : Hp} {r : Addr} {ns : List Int} (h : RowsAt H r ns) (s : Same H H') : RowsAt H' r ns := by
 obtain ⟨ts, h1, h2, h3⟩ := h
 exact ⟨ts, s _ _ h1, h2, fun k t e => s _ _ (h3 k t e)⟩
noncomputable def sp_rows : Sp := fun vs H Q _ => ∃ (a : Addr) (M : List (Option Nat)) (n : Nat) (st sp : Int), vs = [.ref a, .int st, .int sp] ∧ H a = some (.lst (M.map mV)) ∧ M.length = 3 * n ∧ 1 ≤ n ∧ n ≤ 14 ∧ (∀ (i j : Nat), M[i]? = some (some j) → M[j]? = some (some i) ∧ i ≠ j) ∧ sp ∈ steps ∧
 ∀ (p : Addr) (H' : Hp), Same H H' → H p = none → RowsAt H' p (flat M st sp) → Q (.ref p) H'
theorem steps_small {t : Int} (h : t ∈ steps) : -(2 ^ 64) < t ∧ t < 2 ^ 64 := by
 simp only [steps, List.mem_cons, List.not_mem_nil, or_false] at h
 rcases h with rfl | rfl | rfl | rfl | rfl | rfl | rfl | rfl <;> decide
theorem mV_get {M : List (Option Nat)} {i : Nat} (h : i < M.length) : atI (M.map mV) (0 + (i : Int)) = some (mV M[i]) := by
 rw [Int.zero_add]
 exact atI_nat (by rw [List.getElem?_map, List.getElem?_eq_getElem h]; rfl)
section
variable {P : Program} {w : World} {K : PySem.W.Frag} {mg : Str → Option Value} {base : Heap} {t : Adr}
theorem sc_l_rows : FnScope ["_law_mates", "_law_start", "_law_step", "_law_flat", "_law_at", "_law_mate"] ["_law_mates", "_law_start", "_law_step"] (defScope s_l_rows) := ⟨rfl, rfl, rfl, by decide +kernel, rfl, by decide +kernel, by decide +kernel⟩
theorem ok_l_rows (T : Txt w K mg t) : FnOk P w K mg base (CXr P w) 1 t.f_l_rows t.d_l_rows ["_law_mates", "_law_start", "_law_step"] sp_rows := by
 refine T.p_l_rows.F.okR sc_l_rows (fun vs H Q E h => ?_) (fun cdv A outer s H vs Q E hr h => ?_)
 ·obtain ⟨a, M, n, st, sp, rfl, _⟩ := h
  rfl
 ·obtain ⟨a, M, n, st, sp, rfl, ha, hM, h1, h2, hi, hsp, k⟩ := h
  refine ⟨_, (pss_cons (ps_set (i := 3) sc_l_rows.nd rfl (Or.inr rfl) (pe_lst pa_nil))
   (pss_cons (ps_for PassesOwn.never rfl (pi_range1 rfl T.n_range (pa_cons (pe_callB call_len_seq (by rfl) T.n_len PySem.boot_len (pa_cons (pv 0) pa_nil)) pa_nil)) (pg_name (i := 4) sc_l_rows.nd rfl (Or.inl rfl)) (pss_cons (ps_set (i := 5) sc_l_rows.nd rfl (Or.inl rfl) (pe_ix ix_list (pv 0) (pv 4) (fun _ _ => rfl)))
   (pss_one (ps_if (PW.pt (pw_and (pt_cmpR op_notN (pv 5) pe_non (nomark _)) (pw_and1 (pt_cmpR op_lt (pv 5) (pv 4) (nomark _))))) (pss_one (ps_expr (pe_bm PySem.F.plainAttrs_list PySem.F.slot_list_append PySem.F.type_list_append mt_append (pv 3) (pa_cons (pe_ix ix_list (pv 3) (pv 5) (fun _ _ => rfl)) pa_nil)))) (pss_one (ps_expr (pe_bm PySem.F.plainAttrs_list PySem.F.slot_list_append PySem.F.type_list_append mt_append (pv 3) (pa_cons (pe_op op_mod (pe_op op_add (pv 1) (pe_op op_mul (pv 2) (pv 4))) pe_int) pa_nil))))))))
   (pss_one (ps_ret (pe_compG (ts := ["_law_k"]) (fv := [("_law_flat", 3)]) ⟨rfl, by decide +kernel, by decide +kernel, blkFree (by rfl), ⟨⟨rfl, rfl, Or.inl rfl⟩, trivial⟩⟩ rfl (pi_range1 rfl T.n_range (pa_cons (pe_op op_fdiv (pe_callB call_len_seq (by rfl) T.n_len PySem.boot_len (pa_cons (pv 0) pa_nil)) pe_int) pa_nil)) (fun _ _ _ _ => (pg_name (i := 0) (show List.Nodup (["_law_k", "_law_flat"] : List Str) from by decide +kernel) rfl (Or.inl rfl) (Or.inr rfl))) (fun _ _ _ _ => pts_nil) (fun _ _ _ => rfl) (fun _ _ _ _ _ _ => pb_emit (pe_tup (pa_cons (pe_ix (ix_listK K) (pv 1) (pe_op op_mul pe_int (pv 0)) (fun _ _ => rfl)) (pa_cons (pe_ix (ix_listK K) (pv 1) (pe_op op_add (pe_op op_mul pe_int (pv 0)) pe_int) (fun _ _ => rfl)) (pa_cons (pe_ix (ix_listK K) (pv 1) (pe_op op_add (pe_op op_mul pe_int (pv 0)) pe_int) (fun _ _ => rfl)) pa_nil)))))))))), ?_⟩
  refine ⟨Nat.zero_le _, fun f hf => ?_⟩
  have eL : (((M.map mV).length : Nat) : Int).toNat = M.length := by simp
  have ha1 : (upd H f (.lst [])) a = some (.lst (M.map mV)) := by rw [upd_ne (ne_of_none ha hf)]; exact ha
  dsimp only [gName]
  show tSeq (tFor _ _ _) _ _ _ _
  refine seq_post (fun σ H1 => ∃ (v4 v5 : Option V), σ = [some (.ref a), some (.int st), some (.int sp), some (.ref f), v4, v5] ∧ Same H H1 ∧ H1 f = some (.lst ((flat M st sp).map V.int))) (fun nx hnx => ?_) ?_
  ·refine ⟨_, rfl, a, _, rfl, .inl (SqL.of ha1), _, rfl, by omega, by rw [List.length_map]; omega, ?_⟩
   rw [eL]
   refine for_range (n := M.length) (fun i σ H1 => ∃ (v4 v5 : Option V), σ = [some (.ref a), some (.int st), some (.int sp), some (.ref f), v4, v5] ∧ Same H H1 ∧ H1 f = some (.lst (((List.range i).map fun i => nm st sp (rep M i)).map V.int))) ⟨none, none, rfl, Same.new hf, upd_same⟩ ?_ ?_
   ·rintro i σ H1 hlt ⟨v4, v5, rfl, sm, hfl⟩
    refine ⟨_, rfl, _, rfl, a, _, _, _, rfl, rfl, SqL.of (sm _ _ ha), mV_get hlt, ?_⟩
    have fin : ∀ x : Int, x = nm st sp (rep M i) → (upd H1 f (.lst (((List.range i).map fun i => nm st sp (rep M i)).map V.int ++ [V.int x]))) f = some (.lst (((List.range (i + 1)).map fun i => nm st sp (rep M i)).map V.int)) := fun x hx => by
     rw [upd_same, hx, List.range_succ]
     simp
    have hlen : (((List.range i).map fun i => nm st sp (rep M i)).map V.int).length < sizeLine := by
     rw [List.length_map, List.length_map, List.length_range]; exact small1000 (by omega)
    refine ⟨_, rfl, rfl, _, rfl, ?_⟩
    cases e : M[i] with
    | none =>
     have er : rep M i = i := by unfold rep; rw [List.getElem?_eq_getElem hlt, e]
     refine iteF ?_
     refine iteF ?_
     refine ⟨_, rfl, .inl ⟨rfl, _, SqL.of hfl⟩, _, rfl, _, rfl, _, rfl, _, _, rfl, rfl, .inl (steps_small hsp), _, _, rfl, rfl, _, _, rfl, rfl, (by show (0 : Int) < 10000; decide), f, _, _, rfl, rfl, hfl, hlen, ?_⟩
     exact ⟨_, _, rfl, Same.add sm hf, fin _ (by rw [er]; unfold nm; rw [Int.zero_add])⟩
    | some j =>
     have hMi : M[i]? = some (some j) := by rw [List.getElem?_eq_getElem hlt, e]
     refine iteT ?_
     refine ⟨_, rfl, _, rfl, _, _, rfl, rfl, _, rfl, ?_⟩
     refine ite2 (fun g => ?_) (fun g => ?_)
     ·have g : j < i := by have := of_decide_eq_true g; omega
      have er : rep M i = j := by unfold rep; rw [hMi]; exact if_pos g
      have erj : rep M j = j := by unfold rep; rw [(hi i j hMi).1]; exact if_neg (by omega)
      have ej : atI (((List.range i).map fun i => nm st sp (rep M i)).map V.int) (j : Int) = some (V.int (nm st sp (rep M i))) := by
       refine atI_nat ?_
       rw [List.getElem?_map, List.getElem?_map, List.getElem?_range g, er]
       show some (V.int (nm st sp (rep M j))) = _
       rw [erj]
      refine ⟨_, rfl, .inl ⟨rfl, _, SqL.of hfl⟩, _, rfl, _, rfl, f, _, _, _, rfl, rfl, SqL.of hfl, ej, f, _, _, rfl, rfl, hfl, hlen, ?_⟩
      exact ⟨_, _, rfl, Same.add sm hf, fin _ rfl⟩
     ·have g : ¬ j < i := by
       have : ¬ ((j : Int) < 0 + (i : Int)) := fun z => g (decide_eq_true z)
       omega
      have er : rep M i = i := by unfold rep; rw [hMi]; exact if_neg g
      refine ⟨_, rfl, .inl ⟨rfl, _, SqL.of hfl⟩, _, rfl, _, rfl, _, rfl, _, _, rfl, rfl, .inl (steps_small hsp), _, _, rfl, rfl, _, _, rfl, rfl, (by show (0 : Int) < 10000; decide), f, _, _, rfl, rfl, hfl, hlen, ?_⟩
      exact ⟨_, _, rfl, Same.add sm hf, fin _ (by rw [er]; unfold nm; rw [Int.zero_add])⟩
   ·rintro σ H1 ⟨v4, v5, rfl, sm, hfl⟩
    exact hnx _ _ ⟨v4, v5, rfl, sm, hfl⟩
  rintro σ H1 ⟨v4, v5, rfl, sm, hfl⟩
  refine ⟨_, rfl, a, _, rfl, .inl (SqL.of (sm _ _ ha)), _, _, rfl, rfl, ⟨by decide, by decide⟩, _, rfl, by rw [List.length_map]; omega, by rw [List.length_map]; omega, fun D hD => ?_⟩
  have eD : ((((M.map mV).length : Nat) : Int) / 3).toNat = n := by rw [List.length_map, hM]; omega
  have hD0 : H D = none := sm.free hD
  have hfD : f ≠ D := fun z => by rw [z] at hfl; rw [hD] at hfl; cases hfl
  have hlf : (flat M st sp).length = 3 * n := by unfold flat; simp [hM]
  show LoopR (Itr 0 ((((M.map mV).length : Nat) : Int) / 3).toNat) _ _ _ _ _ _
  rw [eD]
  refine loop_range (fun i σ H2 => ∃ (ts : List Addr) (v : Option V), σ = [v, some (.ref f)] ∧ Same H H2 ∧ H2 D = some (.lst (ts.map V.ref)) ∧ ts.length = i ∧ H2 f = some (.lst ((flat M st sp).map V.int)) ∧ ∀ (k : Nat) (t : Addr), ts[k]? = some t → H2 t = some (.tup (row3 (flat M st sp) k)))
   ⟨[], none, rfl, Same.add sm hD0, upd_same, rfl, by rw [upd_ne hfD]; exact hfl, fun k t z => by simp at z⟩ ?_ ?_
  ·rintro i σ H2 hlt ⟨ts, v, rfl, sm2, g1, hl2, g2, g3⟩
   have at' : ∀ (c : Nat) (z : Int), c < 3 → z = 3 * (0 + (i : Int)) + c → atI ((flat M st sp).map V.int) z = some (V.int ((flat M st sp).getD (3 * i + c) 0)) := fun c z hc hz => by
    have e : z = ((3 * i + c : Nat) : Int) := by omega
    rw [e]
    exact atI_nat (getI (by omega))
   dsimp only [gName, tYes]
   rw [if_pos rfl]
   refine ⟨_, rfl, _, rfl, _, _, rfl, rfl, .inl ⟨by decide, by decide⟩, f, _, _, _, rfl, rfl, SqL.of g2, at' 0 _ (by decide) (by simp), ?_⟩
   refine ⟨_, rfl, _, rfl, _, _, rfl, rfl, .inl ⟨by decide, by decide⟩, _, _, rfl, rfl, f, _, _, _, rfl, rfl, SqL.of g2, at' 1 _ (by decide) rfl, ?_⟩
   refine ⟨_, rfl, _, rfl, _, _, rfl, rfl, .inl ⟨by decide, by decide⟩, _, _, rfl, rfl, f, _, _, _, rfl, rfl, SqL.of g2, at' 2 _ (by decide) rfl, ?_⟩
   refine ⟨(by show 3 ≤ sizeLine; decide), fun q hq => ?_⟩
   have hqD : q ≠ D := fun z => by rw [z, g1] at hq; cases hq
   have hqf : q ≠ f := fun z => by rw [z, g2] at hq; cases hq
   have hq0 : H q = none := sm2.free hq
   refine ⟨_, by rw [upd_ne (Ne.symm hqD)]; exact g1, (by rw [List.length_map]; exact small1000 (by omega)), ts ++ [q], _, rfl, Same.add (Same.add sm2 hq0) hD0, ?_, ?_, ?_, ?_⟩
   ·rw [upd_same]; simp
   ·rw [List.length_append, List.length_singleton, hl2]
   ·rw [upd_ne hfD, upd_ne (Ne.symm hqf)]; exact g2
   ·intro k t z
    by_cases hk : k < ts.length
    ·rw [List.getElem?_append_left hk] at z
     have g := g3 k t z
     rw [upd_ne (fun e => by rw [e, g1] at g; cases g), upd_ne (ne_of_none g hq)]
     exact g
    ·have hk2 : k = ts.length := by
      have := (List.getElem?_eq_some_iff.mp z).1
      rw [List.length_append, List.length_singleton] at this
      omega
     subst hk2
     have : t = q := by simpa using z.symm
     subst this
     rw [upd_ne hqD, upd_same, hl2]
     rfl
  ·rintro σ H2 ⟨ts, v, rfl, sm2, g1, hl2, g2, g3⟩
   exact k D H2 sm2 hD0 ⟨ts, g1, by rw [hlf, hl2], g3⟩
end
end KT
set_option maxHeartbeats 4000000
namespace KT
open PySem L2
theorem at4 {i : Int} (h0 : 0 ≤ i) (h1 : i < 4) : ∃ sh : Int, atI [V.int 0, V.int 0, V.int 1, V.int 3] i = some (V.int sh) := by
 obtain rfl | rfl | rfl | rfl : i = 0 ∨ i = 1 ∨ i = 2 ∨ i = 3 := by omega
 all_goals exact ⟨_, rfl⟩
theorem at8 {i : Int} (h0 : 0 ≤ i) (h1 : i < 8) : ∃ sp : Int, sp ∈ steps ∧ atI [V.int 1, V.int 3, V.int 7, V.int 9, V.int 37, V.int 1009, V.int 3333, V.int 9999] i = some (V.int sp) := by
 obtain rfl | rfl | rfl | rfl | rfl | rfl | rfl | rfl : i = 0 ∨ i = 1 ∨ i = 2 ∨ i = 3 ∨ i = 4 ∨ i = 5 ∨ i = 6 ∨ i = 7 := by omega
 all_goals exact ⟨_, by decide, rfl⟩
noncomputable def sp_tent (K : PySem.W.Frag) : Sp := fun vs H Q _ => ∃ (a : Addr) (ns : List Int), vs = [.ref a] ∧ SqL K H a (ns.map V.int) ∧ ns.length ≤ 63 ∧
 ∀ (p m r : Addr) (M : List (Option Nat)) (nms : List Int) (H' : Hp), Same H H' → H' p = some (.tup [.ref m, .ref r]) → H' m = some (.lst (M.map mV)) → RowsAt H' r nms → TD M nms → M.length ≤ 42 → H m = none → H r = none → Q (.ref p) H'
section
variable {P : Program} {w : World} {K : PySem.W.Frag} {mg : Str → Option Value} {base : Heap} {t : Adr}
theorem sc_l_tent : FnScope ["_law_script", "_law_head", "_law_many", "_law_names", "_law_share", "_law_mates", "_law_step"] ["_law_script"] (defScope s_l_tent) := ⟨rfl, rfl, rfl, by decide +kernel, rfl, by decide +kernel, by decide +kernel⟩
theorem ok_l_tent (T : Txt w K mg t) : FnOk P w K mg base (CXr P w) 2 t.f_l_tent t.d_l_tent ["_law_script"] (sp_tent K) := by
 refine T.p_l_tent.F.okR sc_l_tent (fun vs H Q E h => ?_) (fun cdv A outer s H vs Q E hr h => ?_)
 ·obtain ⟨a, ns, rfl, _⟩ := h
  rfl
 ·obtain ⟨a, ns, rfl, hS, hl, k⟩ := h
  refine ⟨_, (pss_cons (ps_set (i := 1) sc_l_tent.nd rfl (Or.inl rfl) (pe_call (ok_l_cell T) (hr.mono (by decide)) rfl T.p_l_cell.g T.p_l_cell.F.kp T.p_l_cell.b .nil passR (pa_cons (pv 0) (pa_cons pe_int pa_nil))))
   (pss_cons (ps_set (i := 2) sc_l_tent.nd rfl (Or.inl rfl) (pe_op op_add pe_int (pe_op op_mod (pv 1) pe_int)))
   (pss_cons (ps_if (pt_cmpR op_eq (pe_op op_mod (pe_op op_fdiv (pv 1) pe_int) pe_int) pe_int (nomark _)) (pss_one (ps_set (i := 2) sc_l_tent.nd rfl (Or.inl rfl) (pe_op op_add pe_int (pe_op op_mod (pe_op op_fdiv (pv 1) pe_int) pe_int)))) pss_nil)
   (pss_cons (ps_set (i := 3) sc_l_tent.nd rfl (Or.inl rfl) (pe_call (ok_l_cell T) (hr.mono (by decide)) rfl T.p_l_cell.g T.p_l_cell.F.kp T.p_l_cell.b .nil passR (pa_cons (pv 0) (pa_cons pe_int pa_nil))))
   (pss_cons (ps_set (i := 4) sc_l_tent.nd rfl (Or.inl rfl) (pe_ix ix_tup (pe_tup (pa_cons pe_int (pa_cons pe_int (pa_cons pe_int (pa_cons pe_int pa_nil))))) (pe_op op_mod (pv 3) pe_int) (fun _ _ => rfl)))
   (pss_cons (ps_set (i := 5) sc_l_tent.nd rfl (Or.inl rfl) (pe_call (ok_l_sewn T) (hr.mono (by decide)) rfl T.p_l_sewn.g T.p_l_sewn.F.kp T.p_l_sewn.b .nil passR (pa_cons (pe_call (ok_l_numbers T) (hr.mono (by decide)) rfl T.p_l_numbers.g T.p_l_numbers.F.kp T.p_l_numbers.b .nil passR (pa_cons (pe_call (ok_l_cell T) (hr.mono (by decide)) rfl T.p_l_cell.g T.p_l_cell.F.kp T.p_l_cell.b .nil passR (pa_cons (pv 0) (pa_cons pe_int pa_nil))) (pa_cons pe_int pa_nil))) (pa_cons (pv 2) (pa_cons (pv 4) pa_nil)))))
   (pss_cons (ps_set (i := 6) sc_l_tent.nd rfl (Or.inl rfl) (pe_ix ix_tup (pe_tup (pa_cons pe_int (pa_cons pe_int (pa_cons pe_int (pa_cons pe_int (pa_cons pe_int (pa_cons pe_int (pa_cons pe_int (pa_cons pe_int pa_nil))))))))) (pe_op op_mod (pe_op op_fdiv (pv 3) pe_int) pe_int) (fun _ _ => rfl)))
   (pss_one (ps_ret (pe_tup (pa_cons (pv 5) (pa_cons (pe_call (ok_l_rows T) (hr.mono (by decide)) rfl T.p_l_rows.g T.p_l_rows.F.kp T.p_l_rows.b .nil passR (pa_cons (pv 5) (pa_cons (pe_op op_mod (pe_op op_fdiv (pv 3) pe_int) pe_int) (pa_cons (pv 6) pa_nil)))) pa_nil)))))))))))), ?_⟩
  refine ⟨_, rfl, a, ns, 0, rfl, hS, hl, by decide, by decide, ?_⟩
  generalize cell ns 0 = hd
  refine ⟨_, rfl, _, _, rfl, rfl, (by show (0 : Int) < 6; decide), _, _, rfl, rfl, ?_⟩
  dsimp only [gName]
  show tSeq (tIfS _ _ _) _ _ _ _
  refine seq_post (fun σ H1 => ∃ n : Nat, 1 ≤ n ∧ n ≤ 14 ∧ σ = [some (.ref a), some (.int hd), some (.int n), none, none, none, none] ∧ H1 = H) (fun nx hnx => ?_) ?_
  ·refine ⟨_, rfl, _, _, rfl, rfl, ⟨by decide, by decide⟩, _, _, rfl, rfl, (by show (0 : Int) < 9; decide), rfl, _, rfl, ?_⟩
   refine ite2 (fun _ => ?_) (fun _ => ?_)
   ·refine ⟨_, rfl, _, _, rfl, rfl, ⟨by decide, by decide⟩, _, _, rfl, rfl, (by show (0 : Int) < 8; decide), _, _, rfl, rfl, ?_⟩
    have e : (7 + hd / 54 % 8 : Int) = ((7 + (hd / 54 % 8).toNat : Nat) : Int) := by omega
    exact hnx _ _ ⟨7 + (hd / 54 % 8).toNat, by omega, by omega, by rw [← e]; rfl, rfl⟩
   ·have e : (1 + hd % 6 : Int) = ((1 + (hd % 6).toNat : Nat) : Int) := by omega
    exact hnx _ _ ⟨1 + (hd % 6).toNat, by omega, by omega, by rw [← e]; rfl, rfl⟩
  rintro σ H1 ⟨n, n1, n2, rfl, rfl⟩
  refine ⟨_, rfl, a, ns, 2, rfl, hS, hl, by decide, by decide, ?_⟩
  generalize cell ns 2 = nam
  refine ⟨(by show 4 ≤ sizeLine; decide), fun q hq => ?_⟩
  have m4 : 0 ≤ nam % 4 ∧ nam % 4 < 4 := by omega
  obtain ⟨sh, esh⟩ := at4 m4.1 m4.2
  refine ⟨_, rfl, _, _, rfl, rfl, (by show (0 : Int) < 4; decide), q, _, _, _, rfl, rfl, SqT.of upd_same, esh, ?_⟩
  have s1 : Same H1 (upd H1 q (.tup [V.int 0, V.int 0, V.int 1, V.int 3])) := Same.new hq
  refine ⟨_, rfl, a, ns, 1, rfl, s1.seq hS, hl, by decide, by decide, ?_⟩
  refine ⟨_, 60, rfl, by decide, fun p xs H2 s2 hp h2 h60 hx => ?_⟩
  refine ⟨_, rfl, _, rfl, p, xs, n, sh, rfl, h2, h60, hx, n1, n2, fun m M H3 s3 hm hM hlen hinv => ?_⟩
  have s13 : Same H1 H3 := (s1.trans s2).trans s3
  have hm0 : H1 m = none := (s1.trans s2).free hm
  refine ⟨(by show 8 ≤ sizeLine; decide), fun q2 hq2 => ?_⟩
  have m8 : 0 ≤ nam / 4 % 8 ∧ nam / 4 % 8 < 8 := by omega
  obtain ⟨sp, hsp, esp⟩ := at8 m8.1 m8.2
  refine ⟨_, rfl, _, _, rfl, rfl, ⟨by decide, by decide⟩, _, _, rfl, rfl, (by show (0 : Int) < 8; decide), q2, _, _, _, rfl, rfl, SqT.of upd_same, esp, ?_⟩
  have s14 : Same H1 (upd H3 q2 (.tup [V.int 1, V.int 3, V.int 7, V.int 9, V.int 37, V.int 1009, V.int 3333, V.int 9999])) := Same.add s13 (s13.free hq2)
  have hM4 : (upd H3 q2 (.tup [V.int 1, V.int 3, V.int 7, V.int 9, V.int 37, V.int 1009, V.int 3333, V.int 9999])) m = some (.lst (M.map mV)) := by rw [upd_ne (ne_of_none hM hq2)]; exact hM
  refine ⟨_, rfl, _, rfl, _, rfl, _, _, rfl, rfl, ⟨by decide, by decide⟩, _, _, rfl, rfl, (by show (0 : Int) < 10000; decide), _, rfl, m, M, n, _, sp, rfl, hM4, hlen, n1, n2, hinv, hsp, fun r H5 s5 hr5 hrow => ?_⟩
  refine ⟨(by show 2 ≤ sizeLine; decide), fun p5 hp5 => ?_⟩
  have s15 := s14.trans s5
  have hr0 : H1 r = none := s14.free hr5
  refine k p5 m r M _ _ (Same.add s15 (s15.free hp5)) upd_same ?_ (hrow.same (Same.new hp5)) (td_flat n1 n2 hlen hinv hsp) (by omega) hm0 hr0
  rw [upd_ne (ne_of_none (s5 _ _ hM4) hp5)]
  exact s5 _ _ hM4
end
end KT
set_option maxHeartbeats 4000000
namespace KT
open PySem L2
noncomputable def spk (ns : List Int) (n : Nat) (f : Int → Addr) : List (Key × V) := (keys ns n).map fun x => ((Sum.inl x : Key), V.ref (f x))
structure SpotsF (H : Hp) (ns : List Int) (n : Nat) (f : Int → Addr) : Prop where
 inj : ∀ x ∈ keys ns n, ∀ y ∈ keys ns n, f x = f y → x = y
 at' : ∀ x ∈ keys ns n, H (f x) = some (.lst ((pl ns n x).map nV))
noncomputable def sp_spots_of : Sp := fun vs H Q _ => ∃ (a : Addr) (M : List (Option Nat)) (ns : List Int), vs = [.ref a] ∧ H a = some (.lst (ns.map V.int)) ∧ TD M ns ∧ ns.length ≤ 120 ∧
 ∀ (d : Addr) (f : Int → Addr) (H' : Hp), Same H H' → H d = none → H' d = some (.dK (spk ns ns.length f)) → SpotsF H' ns ns.length f → (∀ x ∈ keys ns ns.length, H (f x) = none) → Q (.ref d) H'
section
variable {P : Program} {w : World} {K : PySem.W.Frag} {mg : Str → Option Value} {base : Heap} {t : Adr}
theorem sc_spots_of : FnScope ["names_at", "spots", "place", "name"] ["names_at"] (defScope s_spots_of) := ⟨rfl, rfl, rfl, by decide +kernel, rfl, by decide +kernel, by decide +kernel⟩
theorem ok_spots_of (T : Txt w K mg t) : FnOk P w K mg base (CXr P w) 1 t.f_spots_of t.d_spots_of ["names_at"] sp_spots_of := by
 refine T.p_spots_of.F.okR sc_spots_of (fun vs H Q E h => ?_) (fun cdv A outer s H vs Q E hr h => ?_)
 ·obtain ⟨a, M, ns, rfl, _⟩ := h
  rfl
 ·obtain ⟨a, M, ns, rfl, ha, td, hl, k⟩ := h
  have hu := hu_of hr
  refine ⟨_, (pss_cons (ps_set (i := 1) sc_spots_of.nd rfl (Or.inl rfl) pe_dnewK)
   (pss_cons (ps_for PassesOwn.never rfl (pi_enum rfl T.n_enumerate (pa_cons (pv 0) pa_nil)) (pg_tup rfl (pgs_cons (pg_name (i := 2) sc_spots_of.nd rfl (Or.inl rfl)) (pgs_cons (pg_name (i := 3) sc_spots_of.nd rfl (Or.inl rfl)) pgs_nil))) (pss_cons (ps_if (PW.pt (pw_or (pt_cmpR op_lt (pv 3) pe_int (nomark _)) (pw_or1 (pt_cmpR op_gt (pv 3) (pe_glob (v := .int 9999) rfl T.c_GREATEST_NAME ⟨_, rfl⟩) (nomark _))))) pss_never pss_nil)
   (pss_cons (ps_expr (pe_bm PySem.F.plainAttrs_list PySem.F.slot_list_append PySem.F.type_list_append mt_append (pe_dsetd (pv 1) (pv 3) (pe_lst pa_nil) ⟨rfl, rfl, rfl, rfl⟩) (pa_cons (pv 2) pa_nil)))
   (pss_one (ps_if (pt_cmpR op_gt (pe_callB call_len_seq (by rfl) T.n_len PySem.boot_len (pa_cons (pe_dget hu (pv 1) (pv 3) (fun _ _ => rfl)) pa_nil)) pe_int (nomark _)) pss_never pss_nil)))))
   (pss_one (ps_ret (pv 1))))), ?_⟩
  intro d hd
  have hda : a ≠ d := ne_of_none ha hd
  dsimp only [gName]
  show tSeq (tFor _ _ _) _ _ _ _
  refine seq_post (fun σ H1 => ∃ (f : Int → Addr) (v2 v3 : Option V), σ = [some (.ref a), some (.ref d), v2, v3] ∧ Same H H1 ∧ H1 d = some (.dK (spk ns ns.length f)) ∧ SpotsF H1 ns ns.length f ∧ ∀ x ∈ keys ns ns.length, H (f x) = none) (fun nx hnx => ?_) ?_
  ·refine ⟨_, rfl, a, rfl, ⟨_, SqL.of (by rw [upd_ne hda]; exact ha)⟩, ?_⟩
   have el : (ns.map V.int).length = ns.length := by simp
   refine for_enum (xs := ns.map V.int) (fun i σ H1 => ∃ (f : Int → Addr) (v2 v3 : Option V), σ = [some (.ref a), some (.ref d), v2, v3] ∧ Same H H1 ∧ H1 d = some (.dK (spk ns i f)) ∧ SpotsF H1 ns i f ∧ ∀ x ∈ keys ns i, H (f x) = none)
    ⟨fun _ => 0, none, none, rfl, Same.new hd, upd_same, ⟨fun x hx => by simp [keys] at hx, fun x hx => by simp [keys] at hx⟩, fun x hx => by simp [keys] at hx⟩ ?_ ?_ ?_
   ·rintro i σ H1 _ ⟨f, v2, v3, rfl, sm, _⟩
    exact SqL.of (sm _ _ ha)
   ·rintro i x0 σ H1 q hx hq ⟨f, v2, v3, rfl, sm, hd1, sf, hf0⟩
    have hi : i < ns.length := by rw [← el]; exact (List.getElem?_eq_some_iff.mp hx).1
    obtain ⟨x, hx'⟩ : ∃ x, ns[i]? = some x := ⟨_, List.getElem?_eq_getElem hi⟩
    obtain rfl : x0 = V.int x := by rw [List.getElem?_map, hx'] at hx; exact (Option.some.inj hx).symm
    refine ⟨q, _, rfl, SqT.of upd_same, rfl, _, _, rfl, _, _, rfl, rfl, ?_⟩
    obtain ⟨x0, x1⟩ := td.rng i x hx'
    refine ⟨_, rfl, _, _, rfl, rfl, _, rfl, ?_⟩
    rw [decide_eq_false (by omega : ¬ x < 0)]
    refine iteF ?_
    refine ⟨_, rfl, _, _, rfl, rfl, _, rfl, ?_⟩
    rw [decide_eq_false (by omega : ¬ x > 9999)]
    refine iteF ?_
    have hdq : d ≠ q := ne_of_none hd1 hq
    have hd2 : (upd H1 q (.tup [.int i, .int x])) d = some (.dK (spk ns i f)) := by rw [upd_ne hdq]; exact hd1
    dsimp only [tNext]
    show tSeq (tDrop _) _ _ _ _
    refine seq_post (fun σ H2 => ∃ (f : Int → Addr), σ = [some (.ref a), some (.ref d), some (.int i), some (.int x)] ∧ Same H H2 ∧ H2 d = some (.dK (spk ns (i + 1) f)) ∧ SpotsF H2 ns (i + 1) f ∧ ∀ x ∈ keys ns (i + 1), H (f x) = none) (fun nx2 hnx2 => ?_) ?_
    ·refine ⟨_, rfl, d, rfl, .inl ⟨_, .inl hd2⟩, _, rfl, Nat.zero_le _, fun l hl' => ?_⟩
     obtain ⟨hlq, hl1⟩ := upd_none hl'
     have hdl : d ≠ l := ne_of_none hd1 hl1
     have hd3 : (upd (upd H1 q (.tup [.int i, .int x])) l (.lst [])) d = some (.dK (spk ns i f)) := by rw [upd_ne hdl]; exact hd2
     have hlk : (spk ns i f).length < sizeLine := by unfold spk; rw [List.length_map]; exact small1000 (by have := keys_len ns i; omega)
     have hq0 : H q = none := sm.free hq
     have hl0 : H l = none := sm.free hl1
     have smq : Same H (upd (upd H1 q (.tup [.int i, .int x])) l (.lst [])) := Same.add (Same.add sm hq0) hl0
     have hp2 : (pl ns i x).length < sizeLine := small1000 (by have := pl_le2 td i x; omega)
     have old : ∀ b u, H1 b = some u → (upd (upd H1 q (.tup [.int i, .int x])) l (.lst [])) b = some u := fun b u e => by rw [upd_ne (ne_of_none e hl1), upd_ne (ne_of_none e hq)]; exact e
     refine ⟨spk ns i f, Sum.inl x, hd3, hlk, rfl, fun v hv => ?_, fun hv => ?_⟩
     ·-- the name stands already
      have hx2 : x ∈ keys ns i := by
       unfold spk at hv
       rw [val_map] at hv
       by_cases c : x ∈ keys ns i
       ·exact c
       ·rw [if_neg c] at hv; cases hv
      obtain rfl : v = V.ref (f x) := by
       unfold spk at hv
       rw [val_map, if_pos hx2] at hv
       exact (Option.some.inj hv).symm
      have ek : keys ns (i + 1) = keys ns i := by rw [keys_step hx', if_pos hx2]
      have hfx := old _ _ (sf.at' x hx2)
      refine ⟨.inl ⟨rfl, _, SqL.of hfx⟩, _, rfl, f x, _, _, rfl, rfl, hfx, by rw [List.length_map]; exact hp2, hnx2 _ _ ⟨f, rfl, Same.add smq (hf0 x hx2), ?_, ⟨?_, ?_⟩, ?_⟩⟩
      ·have : d ≠ f x := fun z => by rw [← z, hd3] at hfx; cases hfx
       rw [upd_ne this, hd3]
       unfold spk
       rw [ek]
      ·rw [ek]; exact sf.inj
      ·intro y hy
       rw [ek] at hy
       by_cases c : y = x
       ·subst c
        rw [upd_same, pl_same hx', List.map_append]
        rfl
       ·have : f y ≠ f x := fun z => c (sf.inj y hy x hx2 z)
        rw [upd_ne this, old _ _ (sf.at' y hy), pl_other (by rw [hx']; intro z; cases z; exact c rfl)]
      ·rw [ek]; exact hf0
     ·-- a new name
      have hx2 : x ∉ keys ns i := by
       intro c
       unfold spk at hv
       rw [val_map, if_pos c] at hv
       cases hv
      have ek : keys ns (i + 1) = keys ns i ++ [x] := by rw [keys_step hx', if_neg hx2]
      have ep : putK (spk ns i f) (Sum.inl x) (V.ref l) = spk ns (i + 1) (fun y => if y = x then l else f y) := by
       unfold spk
       rw [put_new hx2, ek, List.map_append]
       congr 1
       ·apply List.map_congr_left
        intro y hy
        dsimp only
        rw [if_neg (fun (z : y = x) => hx2 (z ▸ hy))]
       ·simp
      rw [ep]
      have hl4 : (upd (upd (upd H1 q (.tup [.int i, .int x])) l (.lst [])) d (.dK (spk ns (i + 1) (fun y => if y = x then l else f y)))) l = some (.lst []) := by rw [upd_ne (Ne.symm hdl), upd_same]
      refine ⟨.inl ⟨rfl, _, SqL.of hl4⟩, _, rfl, l, _, _, rfl, rfl, hl4, by decide, hnx2 _ _ ⟨fun y => if y = x then l else f y, rfl, Same.add (Same.add smq hd) hl0, ?_, ⟨?_, ?_⟩, ?_⟩⟩
      ·rw [upd_ne hdl, upd_same]
      ·intro y hy z hz e
       rw [ek, List.mem_append, List.mem_singleton] at hy hz
       by_cases c1 : y = x
       ·by_cases c2 : z = x
        ·rw [c1, c2]
        ·have hz' := hz.resolve_right c2
         simp only [c1, c2, if_true, if_false] at e
         exact absurd (sf.at' z hz') (by rw [← e, hl1]; intro w; cases w)
       ·have hy' := hy.resolve_right c1
        by_cases c2 : z = x
        ·simp only [c1, c2, if_true, if_false] at e
         exact absurd (sf.at' y hy') (by rw [e, hl1]; intro w; cases w)
        ·have hz' := hz.resolve_right c2
         simp only [c1, c2, if_false] at e
         exact sf.inj y hy' z hz' e
      ·intro y hy
       rw [ek, List.mem_append, List.mem_singleton] at hy
       by_cases c : y = x
       ·subst c
        simp only [if_true]
        rw [upd_same, pl_same hx', pl_nil hx2]
        rfl
       ·have hy' := hy.resolve_right c
        have e1 := sf.at' y hy'
        have n1 : f y ≠ l := ne_of_none e1 hl1
        have n2 : f y ≠ d := fun z => by rw [z, hd1] at e1; cases e1
        simp only [c, if_false]
        rw [upd_ne n1, upd_ne n2, old _ _ e1, pl_other (by rw [hx']; intro z; cases z; exact c rfl)]
      ·intro y hy
       rw [ek, List.mem_append, List.mem_singleton] at hy
       by_cases c : y = x
       ·simp only [c, if_true]; exact hl0
       ·simp only [c, if_false]; exact hf0 y (hy.resolve_right c)
    rintro σ H2 ⟨f', rfl, sm2, hd4, sf2, hf2⟩
    have hx3 : x ∈ keys ns (i + 1) := keys_mem.mpr ⟨i, by omega, hx'⟩
    have hg : valV (spk ns (i + 1) f') (Sum.inl x) = some (V.ref (f' x)) := by unfold spk; rw [val_map, if_pos hx3]
    refine ⟨_, rfl, _, rfl, d, _, rfl, ?_, f' x, _, rfl, .inl (SqL.of (sf2.at' x hx3)), _, _, rfl, rfl, _, rfl, ?_⟩
    ·exact .inl ⟨_, Sum.inl x, .inl hd4, rfl, hg.symm⟩
    have h2 := pl_le2 td (i + 1) x
    rw [decide_eq_false (by rw [List.length_map]; omega : ¬ ((((pl ns (i + 1) x).map nV).length : Nat) : Int) > 2)]
    refine iteF ?_
    exact ⟨f', _, _, rfl, sm2, hd4, sf2, hf2⟩
   ·rintro σ H1 ⟨f, v2, v3, rfl, sm, hd1, sf, hf0⟩
    rw [el] at hd1 sf hf0
    exact hnx _ _ ⟨f, v2, v3, rfl, sm, hd1, sf, hf0⟩
  rintro σ H1 ⟨f, v2, v3, rfl, sm, hd1, sf, hf0⟩
  exact ⟨_, rfl, k d f H1 sm hd hd1 sf hf0⟩
noncomputable def sp_mates_of : Sp := fun vs H Q _ => ∃ (d : Addr) (M : List (Option Nat)) (ns : List Int) (f : Int → Addr), vs = [.ref d, .int ns.length] ∧ H d = some (.dK (spk ns ns.length f)) ∧ SpotsF H ns ns.length f ∧ TD M ns ∧ ns.length ≤ 120 ∧
 ∀ (m : Addr) (o : Obj) (H' : Hp), (∀ b u, b ≠ d → H b = some u → H' b = some u) → H m = none → H' m = some (.lst (M.map mV)) → H' d = some (.frz o (.dK (spk ns ns.length f))) → Q (.ref m) H'
theorem sc_mates_of : FnScope ["spots", "count", "mates", "pair"] ["spots", "count"] (defScope s_mates_of) := ⟨rfl, rfl, rfl, by decide +kernel, rfl, by decide +kernel, by decide +kernel⟩
theorem ok_mates_of (T : Txt w K mg t) : FnOk P w K mg base (CXr P w) 1 t.f_mates_of t.d_mates_of ["spots", "count"] sp_mates_of := by
 refine T.p_mates_of.F.okR sc_mates_of (fun vs H Q E h => ?_) (fun cdv A outer s H vs Q E hr h => ?_)
 ·obtain ⟨d, M, ns, f, rfl, _⟩ := h
  rfl
 ·obtain ⟨d, M, ns, f, rfl, hd, sf, td, hl, k⟩ := h
  refine ⟨_, (pss_cons (ps_set (i := 2) sc_mates_of.nd rfl (Or.inl rfl) (pe_op op_rep (pe_lst (pa_cons pe_non pa_nil)) (pv 1)))
   (pss_cons (ps_for PassesOwn.never rfl (pi_vals (pv 0) ⟨rfl, rfl, rfl⟩) (pg_name (i := 3) sc_mates_of.nd rfl (Or.inl rfl)) (pss_one (ps_if (pt_cmpR op_eq (pe_callB call_len_seq (by rfl) T.n_len PySem.boot_len (pa_cons (pv 3) pa_nil)) pe_int (nomark _)) (pss_cons (ps_asg (pe_ix ix_list (pv 3) pe_int (fun _ _ => rfl)) (pg_sub (pv 2) (pe_ix ix_list (pv 3) pe_int (fun _ _ => rfl)) set_list))
   (pss_one (ps_asg (pe_ix ix_list (pv 3) pe_int (fun _ _ => rfl)) (pg_sub (pv 2) (pe_ix ix_list (pv 3) pe_int (fun _ _ => rfl)) set_list)))) pss_nil)))
   (pss_one (ps_ret (pv 2))))), ?_⟩
  refine ⟨(by show 1 ≤ sizeLine; decide), fun q hq => ?_⟩
  refine ⟨_, rfl, q, _, _, rfl, rfl, upd_same, by omega, by omega, ?_, fun m hm => ?_⟩
  ·have : ((ns.length : Nat) : Int).toNat = ns.length := by omega
   show 1 * ((ns.length : Nat) : Int).toNat ≤ sizeLine
   rw [this, sizeLine_eq]; omega
  obtain ⟨hmq, hm0⟩ := upd_none hm
  have eM : (List.replicate ((ns.length : Nat) : Int).toNat [V.non]).flatten = (part M ns []).map mV := by
   have : ((ns.length : Nat) : Int).toNat = M.length := by rw [← td.len]; omega
   rw [this, List.flatten_replicate_singleton, part_nil td, List.map_replicate]
   rfl
  rw [eM]
  have hdm : d ≠ m := ne_of_none hd hm0
  have hdq : d ≠ q := ne_of_none hd hq
  dsimp only [gName]
  show tSeq (tFor _ _ _) _ _ _ _
  refine seq_post (fun σ H1 => ∃ (o : Obj) (v : Option V), σ = [some (.ref d), some (.int ns.length), some (.ref m), v] ∧ (∀ b u, b ≠ d → H b = some u → H1 b = some u) ∧ H1 m = some (.lst (M.map mV)) ∧ H1 d = some (.frz o (.dK (spk ns ns.length f)))) (fun nx hnx => ?_) ?_
  ·refine ⟨_, rfl, d, _, rfl, .inl ⟨by rw [upd_ne hdm, upd_ne hdq]; exact hd, fun o => ?_⟩⟩
   refine for_vals (fun j σ H1 => ∃ (v : Option V), σ = [some (.ref d), some (.int ns.length), some (.ref m), v] ∧ (∀ b u, b ≠ d → H b = some u → H1 b = some u) ∧ H1 m = some (.lst ((part M ns ((keys ns ns.length).take j)).map mV)) ∧ H1 d = some (.frz o (.dK (spk ns ns.length f))))
    ⟨none, rfl, fun b u hb e => ?_, ?_, upd_same⟩ ?_ ?_ ?_
   ·rw [upd_ne hb, upd_ne (ne_of_none e hm0), upd_ne (ne_of_none e hq)]; exact e
   ·rw [upd_ne (Ne.symm hdm), upd_same]
    rfl
   ·rintro j σ H1 _ ⟨v, rfl, old, h1, h2⟩
    exact h2
   ·rintro j k0 x0 σ H1 hk ⟨v, rfl, old, h1, h2⟩
    obtain ⟨x, hx, rfl⟩ : ∃ x, (keys ns ns.length)[j]? = some x ∧ x0 = V.ref (f x) := by
     unfold spk at hk
     rw [List.getElem?_map] at hk
     cases e : (keys ns ns.length)[j]? with
     | none => rw [e] at hk; cases hk
     | some x => rw [e] at hk; cases hk; exact ⟨x, rfl, rfl⟩
    have hm1 : x ∈ keys ns ns.length := List.mem_of_getElem? hx
    have et : (keys ns ns.length).take (j + 1) = (keys ns ns.length).take j ++ [x] := by
     rw [List.take_add_one, hx]; rfl
    have hfx := sf.at' x hm1
    have hfd : f x ≠ d := fun z => by rw [z, hd] at hfx; cases hfx
    have hf1 := old _ _ hfd hfx
    dsimp only [gName]
    refine ⟨_, rfl, f x, _, rfl, .inl (SqL.of hf1), rfl, _, rfl, ?_⟩
    rcases pl_cases td hm1 with ⟨a, e, ea, ma⟩ | ⟨a, b, hab, e, ea, eb, ma, mb⟩
    ·rw [e] at hf1 ⊢
     refine iteF ?_
     refine ⟨_, rfl, old, ?_, h2⟩
     rw [et, part_rim td e ma]
     exact h1
    ·rw [e] at hf1 ⊢
     refine iteT ?_
     have la : a < (part M ns ((keys ns ns.length).take j)).length := by rw [part_len]; exact (List.getElem?_eq_some_iff.mp ma).1
     have lb : b < (part M ns ((keys ns ns.length).take j)).length := by rw [part_len]; exact (List.getElem?_eq_some_iff.mp mb).1
     have hfm : f x ≠ m := ne_of_none hfx hm0
     refine ⟨_, rfl, f x, _, _, _, rfl, rfl, SqL.of hf1, rfl, ?_⟩
     refine ⟨_, rfl, _, rfl, f x, _, _, _, rfl, rfl, SqL.of hf1, rfl, m, _, _, a, rfl, rfl, h1, (by rw [List.length_map]; exact ixN_nat la), ?_⟩
     have hf2 : (upd H1 m (.lst (((part M ns ((keys ns ns.length).take j)).map mV).set a (nV b)))) (f x) = some (.lst ([a, b].map nV)) := by rw [upd_ne hfm]; exact hf1
     refine ⟨_, rfl, f x, _, _, _, rfl, rfl, SqL.of hf2, rfl, ?_⟩
     refine ⟨_, rfl, _, rfl, f x, _, _, _, rfl, rfl, SqL.of hf2, rfl, m, _, _, b, rfl, rfl, upd_same, (by rw [List.length_set, List.length_map]; exact ixN_nat lb), ?_⟩
     refine ⟨_, rfl, fun c u hc ec => ?_, ?_, ?_⟩
     ·have : c ≠ m := ne_of_none ec hm0
      rw [upd_ne this, upd_ne this]
      exact old c u hc ec
     ·rw [upd_same, et, part_sewn td e hab ma mb]
      show some (HO.lst ((((part M ns ((keys ns ns.length).take j)).map mV).set a (mV (some b))).set b (mV (some a)))) = _
      rw [map_set, map_set]
     ·rw [upd_ne hdm, upd_ne hdm]; exact h2
   ·rintro σ H1 ⟨v, rfl, old, h1, h2⟩
    refine hnx _ _ ⟨o, v, rfl, old, ?_, h2⟩
    have : (keys ns ns.length).take (spk ns ns.length f).length = keys ns ns.length := by
     unfold spk; rw [List.length_map, List.take_length]
    rw [this, part_all td] at h1
    exact h1
  rintro σ H1 ⟨o, v, rfl, old, h1, h2⟩
  exact ⟨_, rfl, k m o H1 old hm0 h1 h2⟩
end
end KT
set_option maxHeartbeats 4000000
namespace KT
open PySem L2
noncomputable def tflds (cl na sp mt : Addr) : List (Str × V) := putF "mates" (.ref mt) (putF "spots" (.ref sp) (putF "names_at" (.ref na) (putF "cloths" (.ref cl) [])))
theorem len_putF (f : Str) (v : V) : ∀ fs : List (Str × V), (putF f v fs).length ≤ fs.length + 1
 | [] => by simp [putF]
 | (g, x) :: r => by
  have := len_putF f v r
  unfold putF
  split
  ·simp
  ·simp only [List.length_cons]; omega
theorem s_cn : ¬ ("cloths" : Str) = "names_at" := by decide
theorem s_cs : ¬ ("cloths" : Str) = "spots" := by decide
theorem s_cm : ¬ ("cloths" : Str) = "mates" := by decide
theorem s_ns : ¬ ("names_at" : Str) = "spots" := by decide
theorem s_nm : ¬ ("names_at" : Str) = "mates" := by decide
theorem s_sm : ¬ ("spots" : Str) = "mates" := by decide
theorem fl_cloths (cl na sp mt : Addr) : (tflds cl na sp mt).lookup ("cloths" : Str) = some (.ref cl) := by
 unfold tflds; rw [lookup_putF, if_neg s_cm, lookup_putF, if_neg s_cs, lookup_putF, if_neg s_cn, lookup_putF, if_pos rfl]
theorem fl_names (cl na sp mt : Addr) : (tflds cl na sp mt).lookup ("names_at" : Str) = some (.ref na) := by
 unfold tflds; rw [lookup_putF, if_neg s_nm, lookup_putF, if_neg s_ns, lookup_putF, if_pos rfl]
theorem fl_spots (cl na sp mt : Addr) : (tflds cl na sp mt).lookup ("spots" : Str) = some (.ref sp) := by
 unfold tflds; rw [lookup_putF, if_neg s_sm, lookup_putF, if_pos rfl]
theorem fl_mates (cl na sp mt : Addr) : (tflds cl na sp mt).lookup ("mates" : Str) = some (.ref mt) := by
 unfold tflds; rw [lookup_putF, if_pos rfl]
theorem fl_none (cl na sp mt : Addr) {m : Str} (h : m ≠ "cloths" ∧ m ≠ "names_at" ∧ m ≠ "spots" ∧ m ≠ "mates" := by decide) : (tflds cl na sp mt).lookup m = none := by
 obtain ⟨h1, h2, h3, h4⟩ := h
 unfold tflds; rw [lookup_putF, if_neg h4, lookup_putF, if_neg h3, lookup_putF, if_neg h2, lookup_putF, if_neg h1]; rfl
structure TentB (C : Addr) (H : Hp) (p : Addr) (M : List (Option Nat)) (ns : List Int) (dx cl na sp mt : Addr) (o : Obj) (f : Int → Addr) : Prop where
 ins : H p = some (.ins C dx (tflds cl na sp mt))
 rows : RowsAt H cl ns
 names : H na = some (.lst (ns.map V.int))
 spots : H sp = some (.frz o (.dK (spk ns ns.length f)))
 mates : H mt = some (.lst (M.map mV))
 at' : ∀ x ∈ keys ns ns.length, H (f x) = some (.lst ((pl ns ns.length x).map nV))
noncomputable def TentAt (C : Addr) (H : Hp) (p : Addr) (M : List (Option Nat)) (ns : List Int) : Prop := ∃ dx cl na sp mt o f, TentB C H p M ns dx cl na sp mt o f
theorem TentAt.same {C : Addr} {H H' : Hp} {p : Addr} {M : List (Option Nat)} {ns : List Int} (h : TentAt C H p M ns) (s : Same H H') : TentAt C H' p M ns := by
 obtain ⟨dx, cl, na, sp, mt, o, f, b⟩ := h
 exact ⟨dx, cl, na, sp, mt, o, f, s _ _ b.ins, b.rows.same s, s _ _ b.names, s _ _ b.spots, s _ _ b.mates, fun x hx => s _ _ (b.at' x hx)⟩
theorem take_row {ns : List Int} {k n : Nat} (h : ns.length = 3 * n) (hk : k < n) : (ns.take (3 * k)).map V.int ++ row3 ns k = (ns.take (3 * (k + 1))).map V.int := by
 have e : ns.take (3 * (k + 1)) = ns.take (3 * k) ++ [ns.getD (3 * k) 0, ns.getD (3 * k + 1) 0, ns.getD (3 * k + 2) 0] := by
  have l0 : 3 * k < ns.length := by omega
  have l1 : 3 * k + 1 < ns.length := by omega
  have l2 : 3 * k + 2 < ns.length := by omega
  have g : ∀ i, i < ns.length → ns[i]? = some (ns.getD i 0) := fun i hi => by rw [List.getD_eq_getElem?_getD, List.getElem?_eq_getElem hi]; rfl
  rw [show 3 * (k + 1) = 3 * k + 1 + 1 + 1 by omega, List.take_add_one, List.take_add_one, List.take_add_one, g _ l0, g _ l1, g _ l2, List.append_assoc, List.append_assoc]
  rfl
 rw [e, List.map_append]
 rfl
noncomputable def sp_Tent_init (C : Addr) : Sp := fun vs H Q _ => ∃ (p r dx : Addr) (M : List (Option Nat)) (ns : List Int), vs = [.ref p, .ref r] ∧ H p = some (.ins C dx []) ∧ RowsAt H r ns ∧ TD M ns ∧ ns.length ≤ 120 ∧
 ∀ (H' : Hp), (∀ b u, b ≠ p → H b = some u → H' b = some u) → TentAt C H' p M ns → Q .non H'
section
variable {P : Program} {w : World} {K : PySem.W.Frag} {mg : Str → Option Value} {base : Heap} {t : Adr}
theorem sc_Tent_init : FnScope ["self", "rows"] ["self", "rows"] (defScope s_Tent_init) := ⟨rfl, rfl, rfl, by decide +kernel, rfl, by decide +kernel, by decide +kernel⟩
theorem ok_Tent_init (T : Txt w K mg t) : FnOk P w K mg base (CXr P w) 2 t.f_Tent_init t.d_Tent_init ["self", "rows"] (sp_Tent_init t.C_Tent) := by
  refine T.p_Tent_init.F.okR sc_Tent_init (fun vs H Q E h => ?_) (fun cdv A outer s H vs Q E hr h => ?_)
  · obtain ⟨p, r, dx, M, ns, rfl, _⟩ := h
    rfl
  · obtain ⟨p, r, dx, M, ns, rfl, hp, ⟨ts, hr1, hr2, hr3⟩, td, hl, k⟩ := h
    refine ⟨_, (pss_cons (ps_if (pt_not (pt_truth (pv 1) (fun _ => rfl))) pss_never pss_nil)
      (pss_cons (ps_fld (pv 0) (pe_compG (ts := ["row"]) (fv := []) ⟨rfl, by decide +kernel, by decide +kernel, blkFree (by rfl), trivial⟩ rfl (pi_list (pv 1)) (fun _ _ _ _ => (pg_name (i := 0) (show List.Nodup (["row"] : List Str) from by decide +kernel) rfl (Or.inl rfl) (Or.inr rfl))) (fun _ _ _ _ => pts_nil) (fun _ _ _ => rfl) (fun _ _ _ _ _ _ => pb_emit (pe_callTy (call_tuple_ofK K) (by rfl) T.n_tuple PySem.Pv.boot_tuple (pa_cons (pv 0) pa_nil)))) rfl)
      (pss_cons (ps_fld (pv 0) (pe_compG (ts := ["row", "name"]) (fv := []) ⟨rfl, by decide +kernel, by decide +kernel, blkFree (by rfl), trivial⟩ rfl (pi_list (pe_fld (pv 0) rfl)) (fun _ _ _ _ => (pg_name (i := 0) (show List.Nodup (["row", "name"] : List Str) from by decide +kernel) rfl (Or.inl rfl) (Or.inr rfl))) (fun _ _ _ _ => pts_nil) (fun _ _ _ => rfl) (fun _ _ _ _ _ _ => pb_gen rfl rfl (pi_tupK K (pv 0)) (pg_name (i := 1) (show List.Nodup (["row", "name"] : List Str) from by decide +kernel) rfl (Or.inl rfl) (Or.inr rfl)) pts_nil (pv 1))) rfl)
      (pss_cons (ps_fld (pv 0) (pe_call (ok_spots_of T) (hr.mono (by decide)) rfl T.p_spots_of.g T.p_spots_of.F.kp T.p_spots_of.b .nil passR (pa_cons (pe_fld (pv 0) rfl) pa_nil)) rfl)
      (pss_one (ps_fld (pv 0) (pe_call (ok_mates_of T) (hr.mono (by decide)) rfl T.p_mates_of.g T.p_mates_of.F.kp T.p_mates_of.b .nil passR (pa_cons (pe_fld (pv 0) rfl) (pa_cons (pe_callB call_len_seq (by rfl) T.n_len PySem.boot_len (pa_cons (pe_fld (pv 0) rfl) pa_nil)) pa_nil))) rfl)))))), ?_⟩
    obtain ⟨n, n1, n2, hn⟩ := td.n
    have hnn : ns.length = 3 * n := by rw [td.len, hn]
    have htn : ts.length = n := by omega
    have hrp : r ≠ p := fun z => by rw [z, hp] at hr1; cases hr1
    refine ⟨_, rfl, true, .inl ⟨_, SqL.of hr1, ?_⟩, ?_⟩
    · cases ts with
      | nil => simp at htn; omega
      | cons _ _ => rfl
    refine iteF ?_
    dsimp only [tNext]
    refine ⟨_, rfl, r, rfl, ⟨_, SqL.of hr1⟩, fun D hD => ?_⟩
    have hDp : D ≠ p := fun z => by rw [z, hp] at hD; cases hD
    refine loop_list (xs := ts.map V.ref) (fun i σ H1 => ∃ (v : Option V), σ = [v] ∧ Same H H1 ∧ H1 D = some (.lst ((ts.take i).map V.ref))) ⟨none, rfl, Same.new hD, upd_same⟩ ?_ ?_ ?_
    · rintro i σ H1 _ ⟨v, rfl, sm, h1⟩
      exact SqL.of (sm _ _ hr1)
    · rintro i x σ H1 hx ⟨v, rfl, sm, h1⟩
      dsimp only [gName, tYes]
      rw [if_pos rfl]
      obtain ⟨tt, ht, rfl⟩ := map_some hx
      refine ⟨_, rfl, tt, _, rfl, .inr ⟨SqT.of (sm _ _ (hr3 i tt ht)), _, h1, (by rw [List.length_map, List.length_take]; exact small1000 (by omega)), _, rfl, Same.add sm hD, ?_⟩⟩
      rw [upd_same, List.take_add_one, ht, List.map_append]
      rfl
    rintro σ H1 ⟨v, rfl, sm1, h1⟩
    rw [List.length_map, List.take_length] at h1
    have hp1 := sm1 _ _ hp
    refine ⟨_, rfl, p, _, dx, _, rfl, hp1, T.cl_Tent, T.a_Tent_cloths, by decide, ?_⟩
    have old2 : ∀ b u, b ≠ p → H b = some u → (upd H1 p (.ins t.C_Tent dx (putF "cloths" (.ref D) []))) b = some u := fun b u hb e => by rw [upd_ne hb]; exact sm1 b u e
    have hD2 : (upd H1 p (.ins t.C_Tent dx (putF "cloths" (.ref D) []))) D = some (.lst (ts.map V.ref)) := by rw [upd_ne hDp]; exact h1
    have hp2 : (upd H1 p (.ins t.C_Tent dx (putF "cloths" (.ref D) []))) p = some (.ins t.C_Tent dx (putF "cloths" (.ref D) [])) := upd_same
    have ht2 : ∀ (k : Nat) (q : Addr), ts[k]? = some q → (upd H1 p (.ins t.C_Tent dx (putF "cloths" (.ref D) []))) q = some (.tup (row3 ns k)) := fun k q e => by
      have e1 := hr3 k q e
      have : q ≠ p := fun z => by rw [z, hp] at e1; cases e1
      exact old2 q _ this e1
    generalize upd H1 p (.ins t.C_Tent dx (putF "cloths" (.ref D) [])) = H2 at old2 hD2 hp2 ht2 ⊢
    refine ⟨_, rfl, p, _, dx, _, _, rfl, hp2, T.cl_Tent, T.a_Tent_cloths, rfl, D, rfl, ⟨_, SqL.of hD2⟩, fun N hN => ?_⟩
    have hND : N ≠ D := fun z => by rw [z, hD2] at hN; cases hN
    have hNp : N ≠ p := fun z => by rw [z, hp2] at hN; cases hN
    refine loop_list (xs := ts.map V.ref) (fun i σ H3 => ∃ (v v' : Option V), σ = [v, v'] ∧ Same H2 H3 ∧ H3 N = some (.lst ((ns.take (3 * i)).map V.int))) ⟨none, none, rfl, Same.new hN, upd_same⟩ ?_ ?_ ?_
    · rintro i σ H3 _ ⟨v, v', rfl, sm, h3⟩
      exact SqL.of (sm _ _ hD2)
    · rintro i x σ H3 hx ⟨v, v', rfl, sm, h3⟩
      dsimp only [gName, tYes]
      rw [if_pos rfl]
      obtain ⟨tt, ht, rfl⟩ := map_some hx
      have hi : i < n := by rw [← htn]; exact (List.getElem?_eq_some_iff.mp ht).1
      refine ⟨_, rfl, tt, rfl, ⟨_, SqT.of (sm _ _ (ht2 i tt ht))⟩, ?_⟩
      refine loop_tup (xs := row3 ns i) (fun j σ H4 => ∃ (v' : Option V), σ = [some (.ref tt), v'] ∧ Same H2 H4 ∧ H4 N = some (.lst ((ns.take (3 * i)).map V.int ++ (row3 ns i).take j))) ⟨v', rfl, sm, by rw [h3, List.take_zero, List.append_nil]⟩ ?_ ?_ ?_
      · rintro j σ H4 _ ⟨v', rfl, sm, h4⟩
        exact SqT.of (sm _ _ (ht2 i tt ht))
      · rintro j x σ H4 hx ⟨v', rfl, sm, h4⟩
        dsimp only [gName, tYes]
        rw [if_pos rfl]
        refine ⟨_, rfl, _, h4, ?_, _, rfl, Same.add sm hN, ?_⟩
        · rw [List.length_append, List.length_map, List.length_take, List.length_take]
          exact small1000 (by have : (row3 ns i).length = 3 := rfl; omega)
        · rw [upd_same, List.take_add_one, hx, ← List.append_assoc]
          rfl
      · rintro σ H4 ⟨v', rfl, sm, h4⟩
        refine ⟨_, _, rfl, sm, ?_⟩
        rw [h4, List.take_length, take_row hnn hi]
    rintro σ H3 ⟨v, v', rfl, sm3, h3⟩
    have eall : ns.take (3 * (ts.map V.ref).length) = ns := by rw [List.length_map, htn, ← hnn, List.take_length]
    rw [eall] at h3
    have hp3 := sm3 _ _ hp2
    refine ⟨_, rfl, p, _, dx, _, rfl, hp3, T.cl_Tent, T.a_Tent_names_at, (by have h1 := len_putF "cloths" (.ref D) []; simp only [List.length_nil] at h1; omega), ?_⟩
    have old4 : ∀ b u, b ≠ p → H2 b = some u → (upd H3 p (.ins t.C_Tent dx (putF "names_at" (.ref N) (putF "cloths" (.ref D) [])))) b = some u := fun b u hb e => by rw [upd_ne hb]; exact sm3 b u e
    have hN4 : (upd H3 p (.ins t.C_Tent dx (putF "names_at" (.ref N) (putF "cloths" (.ref D) [])))) N = some (.lst (ns.map V.int)) := by rw [upd_ne hNp]; exact h3
    have hp4 : (upd H3 p (.ins t.C_Tent dx (putF "names_at" (.ref N) (putF "cloths" (.ref D) [])))) p = some (.ins t.C_Tent dx (putF "names_at" (.ref N) (putF "cloths" (.ref D) []))) := upd_same
    generalize upd H3 p (.ins t.C_Tent dx (putF "names_at" (.ref N) (putF "cloths" (.ref D) []))) = H4 at old4 hN4 hp4 ⊢
    have lk1 : (putF "names_at" (.ref N) (putF "cloths" (.ref D) [])).lookup ("names_at" : Str) = some (.ref N) := by rw [lookup_putF, if_pos rfl]
    refine ⟨_, rfl, p, _, dx, _, _, rfl, hp4, T.cl_Tent, T.a_Tent_names_at, lk1, N, M, ns, rfl, hN4, td, hl, fun d f H5 sm5 hd5 hd5' sf hf0 => ?_⟩
    have hp5 := sm5 _ _ hp4
    refine ⟨_, rfl, p, _, dx, _, rfl, hp5, T.cl_Tent, T.a_Tent_spots, (by have h1 := len_putF "cloths" (.ref D) []; have h2 := len_putF "names_at" (.ref N) (putF "cloths" (.ref D) []); simp only [List.length_nil] at h1; omega), ?_⟩
    have hdp : d ≠ p := fun z => by rw [z, hp4] at hd5; cases hd5
    have hfp : ∀ x ∈ keys ns ns.length, f x ≠ p := fun x hx z => by have := hf0 x hx; rw [z, hp4] at this; cases this
    have old6 : ∀ b u, b ≠ p → H4 b = some u → (upd H5 p (.ins t.C_Tent dx (putF "spots" (.ref d) (putF "names_at" (.ref N) (putF "cloths" (.ref D) []))))) b = some u := fun b u hb e => by rw [upd_ne hb]; exact sm5 b u e
    have hp6 : (upd H5 p (.ins t.C_Tent dx (putF "spots" (.ref d) (putF "names_at" (.ref N) (putF "cloths" (.ref D) []))))) p = some (.ins t.C_Tent dx (putF "spots" (.ref d) (putF "names_at" (.ref N) (putF "cloths" (.ref D) [])))) := upd_same
    have hd6 : (upd H5 p (.ins t.C_Tent dx (putF "spots" (.ref d) (putF "names_at" (.ref N) (putF "cloths" (.ref D) []))))) d = some (.dK (spk ns ns.length f)) := by rw [upd_ne hdp]; exact hd5'
    have sf6 : SpotsF (upd H5 p (.ins t.C_Tent dx (putF "spots" (.ref d) (putF "names_at" (.ref N) (putF "cloths" (.ref D) []))))) ns ns.length f := ⟨sf.inj, fun x hx => by rw [upd_ne (hfp x hx)]; exact sf.at' x hx⟩
    generalize upd H5 p (.ins t.C_Tent dx (putF "spots" (.ref d) (putF "names_at" (.ref N) (putF "cloths" (.ref D) [])))) = H6 at old6 hp6 hd6 sf6 ⊢
    have lk2 : (putF "spots" (.ref d) (putF "names_at" (.ref N) (putF "cloths" (.ref D) []))).lookup ("spots" : Str) = some (.ref d) := by rw [lookup_putF, if_pos rfl]
    have lk3 : (putF "spots" (.ref d) (putF "names_at" (.ref N) (putF "cloths" (.ref D) []))).lookup ("names_at" : Str) = some (.ref N) := by rw [lookup_putF, if_neg s_ns, lookup_putF, if_pos rfl]
    have hN6 := old6 _ _ hNp hN4
    have eln : (((ns.map V.int).length : Nat) : Int) = (ns.length : Nat) := by rw [List.length_map]
    refine ⟨_, rfl, p, _, dx, _, _, rfl, hp6, T.cl_Tent, T.a_Tent_spots, lk2, _, rfl, p, _, dx, _, _, rfl, hp6, T.cl_Tent, T.a_Tent_names_at, lk3, N, _, rfl, .inl (SqL.of hN6), d, M, ns, f, (by rw [eln]; rfl), hd6, sf6, td, hl, fun m o H7 old7 hm7 hmm hdd => ?_⟩
    have hpd : p ≠ d := Ne.symm hdp
    have hp7 := old7 _ _ hpd hp6
    refine ⟨_, rfl, p, _, dx, _, rfl, hp7, T.cl_Tent, T.a_Tent_mates, (by have h1 := len_putF "cloths" (.ref D) []; have h2 := len_putF "names_at" (.ref N) (putF "cloths" (.ref D) []); have h3 := len_putF "spots" (.ref d) (putF "names_at" (.ref N) (putF "cloths" (.ref D) [])); simp only [List.length_nil] at h1; omega), ?_⟩
    have hmp : m ≠ p := fun z => by rw [z, hp6] at hm7; cases hm7
    have dN : N ≠ d := fun z => by rw [z, hd6] at hN6; cases hN6
    have old8 : ∀ b u, b ≠ p → b ≠ d → H6 b = some u → (upd H7 p (.ins t.C_Tent dx (tflds D N d m))) b = some u := fun b u hb hbd e => by rw [upd_ne hb]; exact old7 b u hbd e
    have old46 : ∀ b u, b ≠ p → H4 b = some u → H6 b = some u ∧ b ≠ d := fun b u hb e => ⟨old6 b u hb e, fun z => by rw [z, hd5] at e; cases e⟩
    have old28 : ∀ b u, b ≠ p → H2 b = some u → (upd H7 p (.ins t.C_Tent dx (tflds D N d m))) b = some u := fun b u hb e => by
      obtain ⟨e6, hbd⟩ := old46 b u hb (old4 b u hb e)
      exact old8 b u hb hbd e6
    refine k _ (fun b u hb e => old28 b u hb (old2 b u hb e)) ⟨dx, D, N, d, m, o, f, upd_same, ⟨ts, old28 _ _ hDp hD2, by omega, fun k q e => ?_⟩, ?_, ?_, ?_, ?_⟩
    · have e1 := ht2 k q e
      exact old28 q _ (fun z => by rw [z, hp2] at e1; cases e1) e1
    · exact old8 _ _ hNp dN hN6
    · rw [upd_ne hdp]; exact hdd
    · rw [upd_ne hmp]; exact hmm
    · intro x hx
      have e1 := sf6.at' x hx
      exact old8 _ _ (hfp x hx) (fun z => by rw [z, hd6] at e1; cases e1) e1
end
end KT
set_option maxHeartbeats 4000000
namespace KT
open PySem L2
noncomputable def sortOf (ns : List Int) (x : Int) : Str := match pl ns ns.length x with
 | [a, b] => if a / 3 = b / 3 then "locked" else "free"
 | _ => "rim"
noncomputable def sp_cloth_of : Sp := fun vs H Q _ => ∃ p : Int, vs = [.int p] ∧ Q (.int (p / 3)) H
noncomputable def sp_Tent_rows (C : Addr) : Sp := fun vs H Q _ => ∃ (p : Addr) (M : List (Option Nat)) (ns : List Int), vs = [.ref p] ∧ TentAt C H p M ns ∧
 ∀ (l : Addr) (ts : List Addr), H l = none → ns.length = 3 * ts.length → (∀ (k : Nat) (t : Addr), ts[k]? = some t → H t = some (.tup (row3 ns k))) → Q (.ref l) (upd H l (.lst (ts.map V.ref)))
noncomputable def sp_Tent_seams (C : Addr) : Sp := fun vs H Q _ => ∃ (p : Addr) (M : List (Option Nat)) (ns : List Int), vs = [.ref p] ∧ TentAt C H p M ns ∧ ns.length < 64 ∧
 ∀ (l : Addr) (out : List Int), H l = none → out.Perm (keys ns ns.length) → out.Pairwise (· ≤ ·) → Q (.ref l) (upd H l (.lst (out.map V.int)))
noncomputable def sp_Tent_has_place (C : Addr) : Sp := fun vs H Q _ => ∃ (p : Addr) (M : List (Option Nat)) (ns : List Int) (x : Int), vs = [.ref p, .int x] ∧ TentAt C H p M ns ∧ Q (.bl (decide (0 ≤ x ∧ x < ns.length))) H
noncomputable def sp_Tent_look_place (C EP : Addr) : Sp := fun vs H Q E => ∃ (p : Addr) (M : List (Option Nat)) (ns : List Int) (x : Int), vs = [.ref p, .int x] ∧ TentAt C H p M ns ∧ (0 ≤ x ∧ x < ns.length → Q .non H) ∧ (¬ (0 ≤ x ∧ x < ns.length) → E (.ref EP) none H)
noncomputable def sp_Tent_mate (C EP : Addr) : Sp := fun vs H Q E => ∃ (p : Addr) (M : List (Option Nat)) (ns : List Int) (x : Int), vs = [.ref p, .int x] ∧ TentAt C H p M ns ∧ M.length = ns.length ∧ (∀ (i : Nat) (y : Option Nat), x = i → M[i]? = some y → Q (mV y) H) ∧ (¬ (0 ≤ x ∧ x < ns.length) → E (.ref EP) none H)
noncomputable def sp_Tent_places (C ES : Addr) : Sp := fun vs H Q E => ∃ (p : Addr) (M : List (Option Nat)) (ns : List Int) (x : Int), vs = [.ref p, .int x] ∧ TentAt C H p M ns ∧ (x ∈ keys ns ns.length → ∀ l, H l = none → Q (.ref l) (upd H l (.lst ((pl ns ns.length x).map nV)))) ∧ (x ∉ keys ns ns.length → E (.ref ES) none H)
noncomputable def sp_Tent_sort_of (C ES : Addr) : Sp := fun vs H Q E => ∃ (p : Addr) (M : List (Option Nat)) (ns : List Int) (x : Int), vs = [.ref p, .int x] ∧ TentAt C H p M ns ∧ TD M ns ∧ (x ∈ keys ns ns.length → ∀ H', Same H H' → Q (.str (sortOf ns x)) H') ∧ (x ∉ keys ns ns.length → E (.ref ES) none H)
section
variable {P : Program} {w : World} {K : PySem.W.Frag} {mg : Str → Option Value} {base : Heap} {t : Adr}
theorem sc_cloth_of : FnScope ["place"] ["place"] (defScope s_cloth_of) := ⟨rfl, rfl, rfl, by decide +kernel, rfl, by decide +kernel, by decide +kernel⟩
theorem ok_cloth_of (T : Txt w K mg t) : FnOk P w K mg base (CXr P w) 1 t.f_cloth_of t.d_cloth_of ["place"] sp_cloth_of := by
 refine T.p_cloth_of.F.okR sc_cloth_of (fun vs H Q E h => ?_) (fun cdv A outer s H vs Q E hr h => ?_)
 ·obtain ⟨p, rfl, _⟩ := h
  rfl
 ·obtain ⟨p, rfl, k⟩ := h
  refine ⟨_, (pss_one (ps_ret (pe_op op_fdiv (pv 0) pe_int))), ?_⟩
  exact ⟨_, rfl, _, _, rfl, rfl, ⟨by decide, by decide⟩, k⟩
theorem sc_Tent_rows : FnScope ["self"] ["self"] (defScope s_Tent_rows) := ⟨rfl, rfl, rfl, by decide +kernel, rfl, by decide +kernel, by decide +kernel⟩
theorem ok_Tent_rows (T : Txt w K mg t) : FnOk P w K mg base (CXr P w) 1 t.f_Tent_rows t.d_Tent_rows ["self"] (sp_Tent_rows t.C_Tent) := by
 refine T.p_Tent_rows.F.okR sc_Tent_rows (fun vs H Q E h => ?_) (fun cdv A outer s H vs Q E hr h => ?_)
 ·obtain ⟨p, M, ns, rfl, _⟩ := h
  rfl
 ·obtain ⟨p, M, ns, rfl, ⟨dx, cl, na, sp, mt, o, f, b⟩, k⟩ := h
  refine ⟨_, (pss_one (ps_ret (pe_callTy call_list_of (by rfl) T.n_list PySem.Pv.boot_list (pa_cons (pe_fld (pv 0) rfl) pa_nil)))), ?_⟩
  obtain ⟨ts, h1, h2, h3⟩ := b.rows
  exact ⟨_, rfl, p, _, dx, _, _, rfl, b.ins, T.cl_Tent, T.a_Tent_cloths, fl_cloths .., cl, _, rfl, .inl (SqL.of h1), fun l hl => k l ts hl h2 h3⟩
theorem sc_Tent_seams : FnScope ["self"] ["self"] (defScope s_Tent_seams) := ⟨rfl, rfl, rfl, by decide +kernel, rfl, by decide +kernel, by decide +kernel⟩
theorem ok_Tent_seams (T : Txt w K mg t) : FnOk P w K mg base (CXr P w) 1 t.f_Tent_seams t.d_Tent_seams ["self"] (sp_Tent_seams t.C_Tent) := by
 refine T.p_Tent_seams.F.okR sc_Tent_seams (fun vs H Q E h => ?_) (fun cdv A outer s H vs Q E hr h => ?_)
 ·obtain ⟨p, M, ns, rfl, _⟩ := h
  rfl
 ·obtain ⟨p, M, ns, rfl, ⟨dx, cl, na, sp, mt, o, f, b⟩, h64, k⟩ := h
  refine ⟨_, (pss_one (ps_ret (pe_callB (call_sortedD rfl) (by rfl) T.n_sorted PyProof.Rows.boot_sorted (pa_cons (pe_fld (pv 0) rfl) pa_nil)))), ?_⟩
  refine ⟨_, rfl, p, _, dx, _, _, rfl, b.ins, T.cl_Tent, T.a_Tent_spots, fl_spots .., sp, _, keys ns ns.length, rfl, .inr ⟨o, b.spots⟩, ?_, by have := keys_len ns ns.length; omega, k⟩
  unfold spk; rw [List.map_map]; rfl
theorem sc_Tent_has_place : FnScope ["self", "place"] ["self", "place"] (defScope s_Tent_has_place) := ⟨rfl, rfl, rfl, by decide +kernel, rfl, by decide +kernel, by decide +kernel⟩
theorem ok_Tent_has_place (T : Txt w K mg t) : FnOk P w K mg base (CXr P w) 1 t.f_Tent_has_place t.d_Tent_has_place ["self", "place"] (sp_Tent_has_place t.C_Tent) := by
 refine T.p_Tent_has_place.F.okR sc_Tent_has_place (fun vs H Q E h => ?_) (fun cdv A outer s H vs Q E hr h => ?_)
 ·obtain ⟨p, M, ns, x, rfl, _⟩ := h
  rfl
 ·obtain ⟨p, M, ns, x, rfl, ⟨dx, cl, na, sp, mt, o, f, b⟩, k⟩ := h
  refine ⟨_, (pss_one (ps_ret (pe_chain op_le op_lt pe_int (pv 1) (pe_callB call_len_seq (by rfl) T.n_len PySem.boot_len (pa_cons (pe_fld (pv 0) rfl) pa_nil))))), ?_⟩
  refine ⟨_, rfl, _, _, rfl, rfl, _, rfl, ?_⟩
  refine ite2 (fun h => ?_) (fun h => ?_)
  ·have h : 0 ≤ x := of_decide_eq_true h
   refine ⟨_, rfl, p, _, dx, _, _, rfl, b.ins, T.cl_Tent, T.a_Tent_names_at, fl_names .., na, _, rfl, .inl (SqL.of b.names), _, _, rfl, rfl, ?_⟩
   have : decide (x < (((ns.map V.int).length : Nat) : Int)) = decide (0 ≤ x ∧ x < (ns.length : Int)) := by rw [List.length_map]; simp [h]
   show Q (V.bl (decide (x < (((ns.map V.int).length : Nat) : Int)))) H
   rw [this]; exact k
  ·have h : ¬ 0 ≤ x := fun z => h (decide_eq_true z)
   have : decide (0 ≤ x ∧ x < (ns.length : Int)) = false := decide_eq_false fun z => h z.1
   rw [this] at k; exact k
theorem sc_Tent_look_place : FnScope ["self", "place"] ["self", "place"] (defScope s_Tent_look_place) := ⟨rfl, rfl, rfl, by decide +kernel, rfl, by decide +kernel, by decide +kernel⟩
theorem ok_Tent_look_place (T : Txt w K mg t) : FnOk P w K mg base (CXr P w) 2 t.f_Tent_look_place t.d_Tent_look_place ["self", "place"] (sp_Tent_look_place t.C_Tent t.E_NoPlace) := by
 refine T.p_Tent_look_place.F.okX sc_Tent_look_place (fun vs H Q E h => ?_) (fun cdv A outer s H vs Q E hr h => ?_)
 ·obtain ⟨p, M, ns, x, rfl, _⟩ := h
  rfl
 ·obtain ⟨p, M, ns, x, rfl, ta, k1, k2⟩ := h
  obtain ⟨dx, cl, na, sp, mt, o, f, b⟩ := id ta
  refine ⟨_, (pssx_one (psx_if (pt_not (pt_val (pe_meth (pv 0) T.cl_Tent T.p_Tent_has_place.m (ok_Tent_has_place T) (hr.mono (by decide)) T.p_Tent_has_place.b .nil passR (pa_cons (pv 1) pa_nil)))) (pssx_one (psx_raise T.x_NoPlace FBV rfl T.gx_NoPlace rfl (pa_cons pe_str pa_nil))) pssx_nil)), ?_⟩
  refine ⟨_, rfl, p, dx, _, rfl, b.ins, fl_none _ _ _ _, _, rfl, p, M, ns, x, rfl, ta, _, rfl, ?_⟩
  by_cases c : 0 ≤ x ∧ x < (ns.length : Int)
  ·rw [decide_eq_true c]
   exact iteF (k1 c)
  ·rw [decide_eq_false c]
   exact iteT ⟨by decide, k2 c⟩
theorem sc_Tent_mate : FnScope ["self", "place"] ["self", "place"] (defScope s_Tent_mate) := ⟨rfl, rfl, rfl, by decide +kernel, rfl, by decide +kernel, by decide +kernel⟩
theorem ok_Tent_mate (T : Txt w K mg t) : FnOk P w K mg base (CXr P w) 3 t.f_Tent_mate t.d_Tent_mate ["self", "place"] (sp_Tent_mate t.C_Tent t.E_NoPlace) := by
 refine T.p_Tent_mate.F.okX sc_Tent_mate (fun vs H Q E h => ?_) (fun cdv A outer s H vs Q E hr h => ?_)
 ·obtain ⟨p, M, ns, x, rfl, _⟩ := h
  rfl
 ·obtain ⟨p, M, ns, x, rfl, ta, hlen, k1, k2⟩ := h
  obtain ⟨dx, cl, na, sp, mt, o, f, b⟩ := id ta
  refine ⟨_, (pssx_cons (psx_expr (pex_meth (pv 0) T.cl_Tent T.p_Tent_look_place.m (ok_Tent_look_place T) (hr.mono (by decide)) T.p_Tent_look_place.b .nil (pa_cons (pv 1) pa_nil)))
   (pssx_one (psx_of (ps_ret (pe_ix ix_list (pe_fld (pv 0) rfl) (pv 1) (fun _ _ => rfl)))))), ?_⟩
  refine ⟨_, rfl, p, dx, _, rfl, b.ins, fl_none _ _ _ _, _, rfl, p, M, ns, x, rfl, ta, fun c => ?_, k2⟩
  have hi : x.toNat < M.length := by omega
  obtain ⟨y, hy⟩ : ∃ y, M[x.toNat]? = some y := ⟨_, List.getElem?_eq_getElem hi⟩
  have ex : x = (x.toNat : Int) := by omega
  refine ⟨_, rfl, p, _, dx, _, _, rfl, b.ins, T.cl_Tent, T.a_Tent_mates, fl_mates .., _, rfl, mt, _, _, _, rfl, rfl, SqL.of b.mates, (by rw [ex]; exact map_at hy), k1 _ _ ex hy⟩
theorem sc_Tent_places : FnScope ["self", "seam"] ["self", "seam"] (defScope s_Tent_places) := ⟨rfl, rfl, rfl, by decide +kernel, rfl, by decide +kernel, by decide +kernel⟩
theorem ok_Tent_places (T : Txt w K mg t) : FnOk P w K mg base (CXr P w) 1 t.f_Tent_places t.d_Tent_places ["self", "seam"] (sp_Tent_places t.C_Tent t.E_NoSeam) := by
 refine T.p_Tent_places.F.okX sc_Tent_places (fun vs H Q E h => ?_) (fun cdv A outer s H vs Q E hr h => ?_)
 ·obtain ⟨p, M, ns, x, rfl, _⟩ := h
  rfl
 ·obtain ⟨p, M, ns, x, rfl, ta, k1, k2⟩ := h
  obtain ⟨dx, cl, na, sp, mt, o, f, b⟩ := id ta
  have hu := hu_of hr
  refine ⟨_, (pssx_cons (psx_if (pt_cmp (pc_dnotin hu (pv 1) (pe_fld (pv 0) rfl)) (by with_unfolding_all rfl)) (pssx_one (psx_raise T.x_NoSeam FBV rfl T.gx_NoSeam rfl (pa_cons pe_str pa_nil))) pssx_nil)
   (pssx_one (psx_of (ps_ret (pe_callTy call_list_of (by rfl) T.n_list PySem.Pv.boot_list (pa_cons (pe_dget hu (pe_fld (pv 0) rfl) (pv 1) (fun _ _ => rfl)) pa_nil)))))), ?_⟩
  have hg : DGet H sp (.int x) (if x ∈ keys ns ns.length then some (V.ref (f x)) else none) := .inl ⟨_, Sum.inl x, .inr ⟨o, b.spots⟩, rfl, by unfold spk; rw [val_map]⟩
  refine ⟨_, rfl, _, rfl, p, _, dx, _, _, rfl, b.ins, T.cl_Tent, T.a_Tent_spots, fl_spots .., sp, _, rfl, hg, _, rfl, ?_⟩
  by_cases c : x ∈ keys ns ns.length
  ·rw [if_pos c] at hg ⊢
   refine iteF ?_
   exact ⟨_, rfl, p, _, dx, _, _, rfl, b.ins, T.cl_Tent, T.a_Tent_spots, fl_spots .., _, rfl, sp, _, rfl, hg, f x, _, rfl, .inl (SqL.of (b.at' x c)), k1 c⟩
  ·rw [if_neg c] at hg ⊢
   exact iteT ⟨by decide, k2 c⟩
theorem sc_Tent_sort_of : FnScope ["self", "seam", "spots"] ["self", "seam"] (defScope s_Tent_sort_of) := ⟨rfl, rfl, rfl, by decide +kernel, rfl, by decide +kernel, by decide +kernel⟩
theorem ok_Tent_sort_of (T : Txt w K mg t) : FnOk P w K mg base (CXr P w) 2 t.f_Tent_sort_of t.d_Tent_sort_of ["self", "seam"] (sp_Tent_sort_of t.C_Tent t.E_NoSeam) := by
 refine T.p_Tent_sort_of.F.okX sc_Tent_sort_of (fun vs H Q E h => ?_) (fun cdv A outer s H vs Q E hr h => ?_)
 ·obtain ⟨p, M, ns, x, rfl, _⟩ := h
  rfl
 ·obtain ⟨p, M, ns, x, rfl, ta, td, k1, k2⟩ := h
  obtain ⟨dx, cl, na, sp, mt, o, f, b⟩ := id ta
  refine ⟨_, (pssx_cons (psx_set (i := 2) sc_Tent_sort_of.nd rfl (Or.inl rfl) (pex_meth (pv 0) T.cl_Tent T.p_Tent_places.m (ok_Tent_places T) (hr.mono (by decide)) T.p_Tent_places.b .nil (pa_cons (pv 1) pa_nil)))
   (pssx_cons (psx_of (ps_if (pt_cmpR op_eq (pe_callB call_len_seq (by rfl) T.n_len PySem.boot_len (pa_cons (pv 2) pa_nil)) pe_int (nomark _)) (pss_one (ps_ret pe_str)) pss_nil))
   (pssx_cons (psx_of (ps_if (pt_cmpR op_eq (pe_call (ok_cloth_of T) (hr.mono (by decide)) rfl T.p_cloth_of.g T.p_cloth_of.F.kp T.p_cloth_of.b .nil passR (pa_cons (pe_ix ix_list (pv 2) pe_int (fun _ _ => rfl)) pa_nil)) (pe_call (ok_cloth_of T) (hr.mono (by decide)) rfl T.p_cloth_of.g T.p_cloth_of.F.kp T.p_cloth_of.b .nil passR (pa_cons (pe_ix ix_list (pv 2) pe_int (fun _ _ => rfl)) pa_nil)) (nomark _)) (pss_one (ps_ret pe_str)) pss_nil))
   (pssx_one (psx_of (ps_ret pe_str)))))), ?_⟩
  refine ⟨_, rfl, p, dx, _, rfl, b.ins, fl_none _ _ _ _, _, rfl, p, M, ns, x, rfl, ta, fun c l hl => ?_, k2⟩
  have k1' := k1 c _ (Same.new (o := .lst ((pl ns ns.length x).map nV)) hl)
  refine ⟨_, rfl, l, _, rfl, .inl (SqL.of upd_same), rfl, _, rfl, ?_⟩
  rcases pl_cases td c with ⟨a, e, _⟩ | ⟨a, b', hab, e, _⟩
  ·rw [e] at k1' ⊢
   refine iteT ?_
   have : sortOf ns x = "rim" := by unfold sortOf; rw [e]
   rw [this] at k1'
   exact k1'
  ·rw [e] at k1' ⊢
   refine iteF ?_
   refine ⟨_, rfl, l, _, _, _, rfl, rfl, SqL.of upd_same, rfl, _, rfl, _, rfl, l, _, _, _, rfl, rfl, SqL.of upd_same, rfl, _, rfl, rfl, _, rfl, ?_⟩
   by_cases q : a / 3 = b' / 3
   ·have : sortOf ns x = "locked" := by unfold sortOf; rw [e]; exact if_pos q
    rw [this] at k1'
    rw [decide_eq_true (by congr 1; omega)]
    exact iteT k1'
   ·have : sortOf ns x = "free" := by unfold sortOf; rw [e]; exact if_neg q
    rw [this] at k1'
    rw [decide_eq_false (fun z => q (by injection z; omega))]
    exact iteF k1'
end
end KT
set_option maxHeartbeats 4000000
namespace KT
open PySem L2
theorem sort_cases {M : List (Option Nat)} {ns : List Int} (td : TD M ns) {x : Int} (hx : x ∈ keys ns ns.length) :
  (sortOf ns x = "rim" ∧ ∃ a, pl ns ns.length x = [a] ∧ M[a]? = some none) ∨ (sortOf ns x = "locked" ∧ ∃ a b, a < b ∧ pl ns ns.length x = [a, b] ∧ M[a]? = some (some b) ∧ a / 3 = b / 3) ∨ (sortOf ns x = "free" ∧ ∃ a b, a < b ∧ pl ns ns.length x = [a, b] ∧ M[a]? = some (some b) ∧ a / 3 ≠ b / 3) := by
 rcases pl_cases td hx with ⟨a, e, _, ma⟩ | ⟨a, b, hab, e, _, _, ma, _⟩
 ·exact .inl ⟨by unfold sortOf; rw [e], a, e, ma⟩
 ·by_cases c : a / 3 = b / 3
  ·exact .inr (.inl ⟨by unfold sortOf; rw [e]; exact if_pos c, a, b, hab, e, ma, c⟩)
  ·exact .inr (.inr ⟨by unfold sortOf; rw [e]; exact if_neg c, a, b, hab, e, ma, c⟩)
theorem t_lr : ¬ (("locked" : Str)) = "rim" := by decide
theorem t_fr : ¬ (("free" : Str)) = "rim" := by decide
theorem str_ne {x y : Str} (h : ¬ x = y) : decide (V.str x = V.str y) = false := decide_eq_false fun z => h (by injection z)
end KT
set_option maxHeartbeats 4000000
namespace KT
open PySem L2
theorem row_at {H : Hp} {r : Addr} {ns : List Int} {i : Nat} {x : Int} (h : RowsAt H r ns) (hx : ns[i]? = some x) : ∃ ts : List Addr, ∃ q, H r = some (.lst (ts.map V.ref)) ∧ ts[i / 3]? = some q ∧ H q = some (.tup (row3 ns (i / 3))) ∧ (row3 ns (i / 3))[i % 3]? = some (V.int x) := by
 obtain ⟨ts, h1, h2, h3⟩ := h
 have hi : i < ns.length := (List.getElem?_eq_some_iff.mp hx).1
 have hk : i / 3 < ts.length := by omega
 refine ⟨ts, ts[i / 3], h1, List.getElem?_eq_getElem hk, h3 _ _ (List.getElem?_eq_getElem hk), ?_⟩
 have g : ∀ j, ns[j]? = some x → ns.getD j 0 = x := fun j hj => by rw [List.getD_eq_getElem?_getD, hj]; rfl
 have hm : i % 3 = 0 ∨ i % 3 = 1 ∨ i % 3 = 2 := by omega
 rcases hm with m | m | m
 ·have : 3 * (i / 3) = i := by omega
  rw [m]; show some (V.int (ns.getD (3 * (i / 3)) 0)) = _; rw [this, g i hx]
 ·have : 3 * (i / 3) + 1 = i := by omega
  rw [m]; show some (V.int (ns.getD (3 * (i / 3) + 1) 0)) = _; rw [this, g i hx]
 ·have : 3 * (i / 3) + 2 = i := by omega
  rw [m]; show some (V.int (ns.getD (3 * (i / 3) + 2) 0)) = _; rw [this, g i hx]
theorem div3 (i : Nat) : (i : Int) / 3 = ((i / 3 : Nat) : Int) := by omega
theorem mod3 (i : Nat) : (i : Int) % 3 = ((i % 3 : Nat) : Int) := by omega
noncomputable def sp_law (K : PySem.W.Frag) : Sp := fun vs H Q _ => ∃ (a : Addr) (ns : List Int), vs = [.ref a] ∧ SqL K H a (ns.map V.int) ∧ ns.length ≤ 63 ∧ ∀ H', Q (.bl true) H'
theorem sp_law_start {K : PySem.W.Frag} {H : Hp} {a : Addr} {ns : List Int} (hl : ns.length ≤ 63) (hS : SqL K H a (ns.map V.int)) : sp_law K [.ref a] H (fun v _ => v = .bl true) fun _ _ _ => False := ⟨a, ns, rfl, hS, hl, fun _ => rfl⟩
theorem RowsAt.copy {H : Hp} {r l : Addr} {ns : List Int} {ts : List Addr} (h1 : H r = some (.lst (ts.map V.ref))) (h2 : ns.length = 3 * ts.length) (h3 : ∀ (k : Nat) (t : Addr), ts[k]? = some t → H t = some (.tup (row3 ns k))) (hl : H l = none) : RowsAt (upd H l (.lst (ts.map V.ref))) l ns :=
 ⟨ts, upd_same, h2, fun k q e => by rw [upd_ne (ne_of_none (h3 k q e) hl)]; exact h3 k q e⟩
theorem tent_new {H1 : Hp} {r l x dx C : Addr} {ns : List Int} {ts : List Addr} (g1 : H1 r = some (.lst (ts.map V.ref))) (g2 : ns.length = 3 * ts.length) (g3 : ∀ (k : Nat) (t : Addr), ts[k]? = some t → H1 t = some (.tup (row3 ns k)))
  (hl1 : H1 l = none) (hx : upd H1 l (.lst (ts.map V.ref)) x = none) (hdx : upd H1 l (.lst (ts.map V.ref)) dx = none) :
  RowsAt (upd (upd (upd H1 l (.lst (ts.map V.ref))) dx (.own x)) x (.ins C dx [])) l ns ∧ Same (upd H1 l (.lst (ts.map V.ref))) (upd (upd (upd H1 l (.lst (ts.map V.ref))) dx (.own x)) x (.ins C dx [])) := by
 have s : Same (upd H1 l (.lst (ts.map V.ref))) (upd (upd (upd H1 l (.lst (ts.map V.ref))) dx (.own x)) x (.ins C dx [])) := Same.add (Same.new hdx) hx
 exact ⟨(RowsAt.copy g1 g2 g3 hl1).same s, s⟩
theorem sorted_eq {a b c : List Int} (h1 : a.Perm c) (h2 : b.Perm c) (s1 : a.Pairwise (· ≤ ·)) (s2 : b.Pairwise (· ≤ ·)) : a = b :=
 (h1.trans h2.symm).eq_of_pairwise (fun x y _ _ h1 h2 => Int.le_antisymm h1 h2) s1 s2
end KT
set_option maxHeartbeats 4000000
namespace KT
open PySem L2
noncomputable def tp (v : Nat × Nat) : HO := .tup [V.int v.1, V.int v.2]
noncomputable def wD (ks : List Int) (ad : Int → Addr) : List (Key × V) := ks.map fun x => ((Sum.inl x : Key), V.ref (ad x))
noncomputable def WAt (H : Hp) (d : Addr) (ks : List Int) (g : Int → Nat × Nat) : Prop := ∃ ad : Int → Addr, H d = some (.dK (wD ks ad)) ∧ ∀ x ∈ ks, H (ad x) = some (tp (g x))
theorem WAt.same {H H' : Hp} {d : Addr} {ks : List Int} {g : Int → Nat × Nat} (h : WAt H d ks g) (s : Same H H') : WAt H' d ks g := by
 obtain ⟨ad, h1, h2⟩ := h
 exact ⟨ad, s _ _ h1, fun x hx => s _ _ (h2 x hx)⟩
theorem WAt.congr {H : Hp} {d : Addr} {ks : List Int} {g g' : Int → Nat × Nat} (h : WAt H d ks g) (e : ∀ x ∈ ks, g x = g' x) : WAt H d ks g' := by
 obtain ⟨ad, h1, h2⟩ := h
 exact ⟨ad, h1, fun x hx => by rw [← e x hx]; exact h2 x hx⟩
theorem wD_len (ks : List Int) (ad : Int → Addr) : (wD ks ad).length = ks.length := by unfold wD; rw [List.length_map]
theorem WAt.new {H : Hp} {d q : Addr} {ks : List Int} {g : Int → Nat × Nat} {ad : Int → Addr} {y : Int} {v : Nat × Nat} (h1 : H d = some (.dK (wD ks ad))) (h2 : ∀ x ∈ ks, H (ad x) = some (tp (g x))) (hq : H q = some (tp v)) (hy : y ∉ ks) :
  WAt (upd H d (.dK (putK (wD ks ad) (Sum.inl y) (V.ref q)))) d (ks ++ [y]) (putG g y v) := by
 have nd : ∀ r u, H r = some (tp u) → r ≠ d := fun r u h z => by rw [z, h1] at h; cases h
 refine ⟨fun x => if x = y then q else ad x, ?_, fun x hx => ?_⟩
 ·rw [upd_same]
  unfold wD
  rw [put_new hy, List.map_append]
  congr 3
  ·apply List.map_congr_left
   intro x hx
   have : x ≠ y := fun z => hy (z ▸ hx)
   simp [this]
  ·simp
 ·unfold putG
  show upd H d _ (if x = y then q else ad x) = some (tp (if x = y then v else g x))
  by_cases c : x = y
  ·rw [if_pos c, if_pos c, upd_ne (nd _ _ hq)]; exact hq
  ·rw [if_neg c, if_neg c]
   have hx' : x ∈ ks := by
    rcases List.mem_append.mp hx with z | z
    ·exact z
    ·exact absurd (List.mem_singleton.mp z) c
   rw [upd_ne (nd _ _ (h2 x hx'))]; exact h2 x hx'
noncomputable def sp_sewn_seams (C : Addr) : Sp := fun vs H Q _ => ∃ (p : Addr) (M : List (Option Nat)) (ns : List Int), vs = [.ref p] ∧ TentAt C H p M ns ∧ TD M ns ∧ ns.length < 64 ∧ ∀ (l : Addr) (H' : Hp) (out : List Int), Same H H' → H l = none → H' l = some (.lst (out.map V.int)) → out.Pairwise (· ≤ ·) → SwK M ns out → Q (.ref l) H'
noncomputable def sp_even_worths (C : Addr) : Sp := fun vs H Q _ => ∃ (p : Addr) (M : List (Option Nat)) (ns : List Int), vs = [.ref p] ∧ TentAt C H p M ns ∧ TD M ns ∧ ns.length < 64 ∧ ∀ (d : Addr) (H' : Hp) (ks : List Int), Same H H' → H d = none → WAt H' d ks (fun _ => (1, 1)) → SwK M ns ks → Q (.ref d) H'
theorem sewn_iff {M : List (Option Nat)} {ns : List Int} (td : TD M ns) {x : Int} (hx : x ∈ keys ns ns.length) : SwN M ns x ↔ sortOf ns x ≠ "rim" := by
 constructor
 ·rintro ⟨p, j, h1, h2⟩ e
  rcases sort_cases td hx with ⟨_, a, e1, ma⟩ | ⟨e', _⟩ | ⟨e', _⟩
  ·have hp : p ∈ pl ns ns.length x := pl_mem.mpr ⟨(List.getElem?_eq_some_iff.mp h2).1, h2⟩
   rw [e1, List.mem_singleton] at hp
   rw [hp, ma] at h1
   cases h1
  ·exact t_lr (e'.symm.trans e)
  ·exact t_fr (e'.symm.trans e)
 ·intro e
  rcases sort_cases td hx with ⟨e', _⟩ | ⟨_, a, b, _, e1, ma, _⟩ | ⟨_, a, b, _, e1, ma, _⟩
  ·exact absurd e' e
  ·have hp : a ∈ pl ns ns.length x := by rw [e1]; exact List.mem_cons_self
   exact ⟨a, b, ma, (pl_mem.mp hp).2⟩
  ·have hp : a ∈ pl ns ns.length x := by rw [e1]; exact List.mem_cons_self
   exact ⟨a, b, ma, (pl_mem.mp hp).2⟩
theorem SwK.len {M : List (Option Nat)} {ns ks : List Int} (sw : SwK M ns ks) (td : TD M ns) : ks.length ≤ ns.length := by
 have e : ks.Perm ((keys ns ns.length).filter fun x => decide (x ∈ ks)) := (List.perm_ext_iff_of_nodup sw.nd ((keys_nodup ns ns.length).filter _)).mpr fun x => by
  rw [List.mem_filter, decide_eq_true_eq]
  exact ⟨fun h => ⟨((sw.mem x).mp h).key td, h⟩, fun h => h.2⟩
 have h1 := e.length_eq
 have h2 := List.length_filter_le (fun x => decide (x ∈ ks)) (keys ns ns.length)
 have h3 := keys_len ns ns.length
 omega
noncomputable def swB (ns : List Int) (x : Int) : Bool := !decide (V.str (sortOf ns x) = V.str "rim")
theorem swB_iff {ns : List Int} {x : Int} : swB ns x = true ↔ sortOf ns x ≠ "rim" := by
 unfold swB
 rw [Bool.not_eq_true', decide_eq_false_iff_not]
 exact ⟨fun h e => h (by rw [e]), fun h e => h (by injection e)⟩
theorem take_filter {α : Type} {f : α → Bool} {l : List α} {i : Nat} {x : α} (h : l[i]? = some x) : (l.take (i + 1)).filter f = if f x = true then (l.take i).filter f ++ [x] else (l.take i).filter f := by
 rw [List.take_add_one, h, List.filter_append]
 by_cases c : f x = true
 ·simp [c]
 ·simp [c]
section
variable {P : Program} {w : World} {K : PySem.W.Frag} {mg : Str → Option Value} {base : Heap} {t : Adr}
theorem sc_sewn_seams : FnScope ["tent"] ["tent"] (defScope s_sewn_seams) := ⟨rfl, rfl, rfl, by decide +kernel, rfl, by decide +kernel, by decide +kernel⟩
theorem ok_sewn_seams (T : Txt w K mg t) : FnOk P w K mg base (CXr P w) 3 t.f_sewn_seams t.d_sewn_seams ["tent"] (sp_sewn_seams t.C_Tent) := by
 refine T.p_sewn_seams.F.okR sc_sewn_seams (fun vs H Q E h => ?_) (fun cdv A outer s H vs Q E hr h => ?_)
 ·obtain ⟨p, M, ns, rfl, _⟩ := h
  rfl
 ·obtain ⟨p, M, ns, rfl, ta, td, h64, k⟩ := h
  refine ⟨_, (pss_one (ps_ret (pe_compG (ts := ["seam"]) (fv := [("tent", 0)]) ⟨rfl, by decide +kernel, by decide +kernel, blkFree (by rfl), ⟨⟨rfl, rfl, Or.inl rfl⟩, trivial⟩⟩ rfl (pi_list (pe_meth0 (pv 0) T.cl_Tent T.p_Tent_seams.m (ok_Tent_seams T) (hr.mono (by decide)) T.p_Tent_seams.b .nil passR)) (fun _ _ _ _ => (pg_name (i := 0) (show List.Nodup (["seam", "tent"] : List Str) from by decide +kernel) rfl (Or.inl rfl) (Or.inr rfl))) (fun _ _ _ _ => (pts_one (pt_cmpR op_ne (pe_meth (pv 1) T.cl_Tent T.p_Tent_sort_of.m (ok_Tent_sort_of T) (hr.mono (by decide)) T.p_Tent_sort_of.b .nil passR (pa_cons (pv 0) pa_nil)) pe_str (nomark _)))) (fun _ _ _ => rfl) (fun _ _ _ _ _ _ => pb_emit (pv 0))))), ?_⟩
  obtain ⟨dx, cl, na, sp, mt, o, ff, b⟩ := id ta
  refine ⟨_, rfl, p, dx, _, rfl, b.ins, fl_none _ _ _ _, p, M, ns, rfl, ta, h64, fun l ks hl1 hpm hst => ?_⟩
  have s1 : Same H (upd H l (.lst (ks.map V.int))) := Same.new hl1
  have h1 : (upd H l (.lst (ks.map V.int))) l = some (.lst (ks.map V.int)) := upd_same
  generalize upd H l (.lst (ks.map V.int)) = H1 at s1 h1 ⊢
  have hkl : ks.length ≤ 64 := by rw [hpm.length_eq]; have := keys_len ns ns.length; omega
  refine ⟨l, rfl, ⟨_, SqL.of h1⟩, fun D hD => ?_⟩
  refine loop_list (xs := ks.map V.int) (fun i σ H3 => ∃ v, σ = [v, some (.ref p)] ∧ Same H1 H3 ∧ H3 D = some (.lst (((ks.take i).filter (swB ns)).map V.int))) ⟨none, rfl, Same.new hD, upd_same⟩ ?_ ?_ ?_
  ·rintro i σ H3 _ ⟨v, rfl, s3, h3⟩
   exact SqL.of (s3 _ _ h1)
  ·rintro i x σ H3 hx ⟨v, rfl, s3, h3⟩
   obtain ⟨y, hy, rfl⟩ := map_some hx
   have hyk : y ∈ keys ns ns.length := hpm.mem_iff.mp (List.mem_of_getElem? hy)
   have ta3 := (ta.same s1).same s3
   obtain ⟨dx, cl, na, sp, mt, o, ff, b⟩ := id ta3
   dsimp only [gName]
   refine ⟨_, rfl, p, dx, _, rfl, b.ins, fl_none _ _ _ _, _, rfl, p, M, ns, y, rfl, ta3, td, fun _ H4 s4 => ?_, fun z => absurd hyk z⟩
   refine ⟨rfl, _, rfl, ?_⟩
   show if swB ns y = true then _ else _
   have lt : (((ks.take i).filter (swB ns)).map V.int).length < sizeLine := by
    rw [List.length_map]
    have := List.length_filter_le (swB ns) (ks.take i)
    rw [List.length_take] at this
    exact small1000 (by omega)
   by_cases c : swB ns y = true
   ·rw [if_pos c]
    refine ⟨_, rfl, _, s4 _ _ h3, lt, _, rfl, Same.add (s3.trans s4) hD, ?_⟩
    rw [upd_same, take_filter hy, if_pos c, List.map_append]
    rfl
   ·rw [if_neg c]
    refine ⟨_, rfl, s3.trans s4, ?_⟩
    rw [s4 _ _ h3, take_filter hy, if_neg c]
  ·rintro σ H3 ⟨v, rfl, s3, h3⟩
   rw [List.length_map, List.take_length] at h3
   refine k D H3 _ (s1.trans s3) (s1.free hD) h3 (hst.filter _) ⟨(hpm.nodup_iff.mpr (keys_nodup ns ns.length)).filter _, fun x => ?_⟩
   rw [List.mem_filter, hpm.mem_iff, swB_iff]
   refine ⟨fun zz37 => ?_, fun h => ⟨h.key td, (sewn_iff td (h.key td)).mp h⟩⟩
   obtain ⟨h1, h2⟩ := zz37
   exact (sewn_iff td h1).mpr h2
theorem sc_even_worths : FnScope ["tent"] ["tent"] (defScope s_even_worths) := ⟨rfl, rfl, rfl, by decide +kernel, rfl, by decide +kernel, by decide +kernel⟩
theorem ok_even_worths (T : Txt w K mg t) : FnOk P w K mg base (CXr P w) 4 t.f_even_worths t.d_even_worths ["tent"] (sp_even_worths t.C_Tent) := by
 refine T.p_even_worths.F.okR sc_even_worths (fun vs H Q E h => ?_) (fun cdv A outer s H vs Q E hr h => ?_)
 ·obtain ⟨p, M, ns, rfl, _⟩ := h
  rfl
 ·obtain ⟨p, M, ns, rfl, ta, td, h64, k⟩ := h
  have hu := hu_of hr
  refine ⟨_, (pss_one (ps_ret (pe_dcompG (ts := ["seam"]) (fv := []) ⟨rfl, by decide +kernel, by decide +kernel, blkFree (by rfl), trivial⟩ rfl (pi_list (pe_call (ok_sewn_seams T) (hr.mono (by decide)) rfl T.p_sewn_seams.g T.p_sewn_seams.F.kp T.p_sewn_seams.b .nil passR (pa_cons (pv 0) pa_nil))) (fun _ _ _ _ => (pg_name (i := 0) (show List.Nodup (["seam"] : List Str) from by decide +kernel) rfl (Or.inl rfl) (Or.inr rfl))) (fun _ _ _ _ => pts_nil) (fun _ _ _ => rfl) (fun _ _ _ _ _ _ => pb_demit (pv 0) (pe_tup (pa_cons pe_int (pa_cons pe_int pa_nil))))))), ?_⟩
  refine ⟨_, rfl, p, M, ns, rfl, ta, td, h64, fun l H1 ks s1 hl1 h1 _ sw => ?_⟩
  have hkl : ks.length ≤ 64 := by
   have := sw.len td
   omega
  refine ⟨l, rfl, ⟨_, SqL.of h1⟩, fun D hD => ?_⟩
  refine loop_list (xs := ks.map V.int) (fun i σ H3 => ∃ v, σ = [v] ∧ Same H1 H3 ∧ WAt H3 D (ks.take i) fun _ => (1, 1)) ⟨none, rfl, Same.new hD, fun _ => 0, upd_same, fun x hx => by simp at hx⟩ ?_ ?_ ?_
  ·rintro i σ H3 _ ⟨v, rfl, s3, h3⟩
   exact SqL.of (s3 _ _ h1)
  ·rintro i x σ H3 hx ⟨v, rfl, s3, ad, h3, h4⟩
   obtain ⟨y, hy, rfl⟩ := map_some hx
   dsimp only [gName, tYes]
   rw [if_pos rfl]
   refine ⟨_, rfl, (by show 2 ≤ sizeLine; rw [sizeLine_eq]; decide), fun q hq => ?_⟩
   have sq : Same H3 (upd H3 q (.tup [V.int 1, V.int 1])) := Same.new hq
   have hq' : (upd H3 q (.tup [V.int 1, V.int 1])) q = some (tp (1, 1)) := upd_same
   have hny : y ∉ ks.take i := fun z => by
    have hi : i < ks.length := (List.getElem?_eq_some_iff.mp hy).1
    have nd := sw.nd
    rw [← List.take_append_drop i ks, List.nodup_append] at nd
    refine nd.2.2 y z y ?_ rfl
    rw [List.drop_eq_getElem_cons hi, (List.getElem?_eq_some_iff.mp hy).2]
    exact List.mem_cons_self
   refine ⟨_, Sum.inl y, rfl, sq _ _ h3, (by rw [wD_len, List.length_take]; exact small1000 (by omega)), _, rfl, Same.add (s3.trans sq) hD, ?_⟩
   rw [List.take_add_one, hy]
   have := WAt.new (g := fun _ => (1, 1)) (v := (1, 1)) (sq _ _ h3) (fun x hx => sq _ _ (h4 x hx)) hq' hny
   exact this.congr fun x _ => by unfold putG; split <;> rfl
  ·rintro σ H3 ⟨v, rfl, s3, h3⟩
   rw [List.length_map, List.take_length] at h3
   exact k D H3 ks (s1.trans s3) (s1.free hD) h3 sw
end
end KT
set_option maxHeartbeats 4000000
namespace KT
open PySem L2
theorem seq_postX {t u : TSX} {D : Ends} {R : Value → St → Hp → Prop} {σ : St} {H : Hp} (Post : St → Hp → Prop) (ht : ∀ nx : St → Hp → Prop, (∀ σ H, Post σ H → nx σ H) → t { D with nx := nx } R σ H) (hu : ∀ σ H, Post σ H → u D R σ H) : tSeqX t u D R σ H := ht (u D R) hu
end KT
set_option maxHeartbeats 4000000
namespace KT
open PySem L2
theorem upd_again {H : Hp} {p : Addr} {a b : HO} : upd (upd H p a) p b = upd H p b := by
 funext c
 by_cases z : c = p
 ·subst z; rw [upd_same, upd_same]
 ·rw [upd_ne z, upd_ne z, upd_ne z]
noncomputable def sflds (te th po wo : V) : List (Str × V) := putF "worths" wo (putF "pools" po (putF "threads" th (putF "tent" te [])))
noncomputable def hflds (be sc st un : Addr) : List (Str × V) := putF "undone" (.ref un) (putF "standing" (.ref st) (putF "scene" (.ref sc) (putF "began" (.ref be) [])))
structure HallNew (CT CS CH : Addr) (H : Hp) (p : Addr) (M : List (Option Nat)) (ns : List Int) (dx be sc st un dxs th po wo : Addr) (ks : List Int) : Prop where
 ins : H p = some (.ins CH dx (hflds be sc st un))
 tent : TentAt CT H be M ns
 scn : H sc = some (.ins CS dxs (sflds (.ref be) (.ref th) (.ref po) (.ref wo)))
 thr : H th = some (.dK [])
 poo : H po = some (.dK [])
 wor : WAt H wo ks fun _ => (1, 1)
 sw : SwK M ns ks
 sta : H st = some (.lst [])
 und : H un = some (.lst [])
noncomputable def OthP (p : Addr) (H H' : Hp) : Prop := ∀ b u, b ≠ p → H b = some u → H' b = some u
theorem OthP.trans {p : Addr} {H H1 H' : Hp} (s : OthP p H H1) (s1 : OthP p H1 H') : OthP p H H' := fun b u hb e => s1 b u hb (s b u hb e)
theorem OthP.of {p : Addr} {H H' : Hp} (s : Same H H') : OthP p H H' := fun b u _ e => s b u e
theorem OthP.upd {p : Addr} {H : Hp} {o : HO} : OthP p H (upd H p o) := fun b u hb e => by rw [upd_ne hb]; exact e
theorem oth_at {H H' : Hp} {p C dx : Addr} {fs : List (Str × V)} (hp : H p = some (.ins C dx fs)) (s : OthP p H H') {b : Addr} {u : HO} (e : H b = some u) (hu : ∀ C dx fs, u ≠ .ins C dx fs) : H' b = some u :=
 s b u (fun z => by rw [z, hp] at e; exact hu _ _ _ (Option.some.inj e).symm) e
theorem RowsAt.oth {H H' : Hp} {p C dx r : Addr} {fs : List (Str × V)} {ns : List Int} (h : RowsAt H r ns) (hp : H p = some (.ins C dx fs)) (s : OthP p H H') : RowsAt H' r ns := by
 obtain ⟨ts, h1, h2, h3⟩ := h
 exact ⟨ts, oth_at hp s h1 (fun _ _ _ z => nomatch z), h2, fun k q e => oth_at hp s (h3 k q e) (fun _ _ _ z => nomatch z)⟩
theorem TentAt.oth {C0 : Addr} {H H' : Hp} {p C dx x : Addr} {fs : List (Str × V)} {M : List (Option Nat)} {ns : List Int} (h : TentAt C0 H x M ns) (hp : H p = some (.ins C dx fs)) (hx : x ≠ p) (s : OthP p H H') : TentAt C0 H' x M ns := by
 obtain ⟨dt, cl, na, sp, mt, o, f, b⟩ := h
 exact ⟨dt, cl, na, sp, mt, o, f, s _ _ hx b.ins, b.rows.oth hp s, oth_at hp s b.names (fun _ _ _ z => nomatch z), oth_at hp s b.spots (fun _ _ _ z => nomatch z), oth_at hp s b.mates (fun _ _ _ z => nomatch z), fun y hy => oth_at hp s (b.at' y hy) (fun _ _ _ z => nomatch z)⟩
theorem WAt.oth {H H' : Hp} {p C dx d : Addr} {fs : List (Str × V)} {ks : List Int} {g : Int → Nat × Nat} (h : WAt H d ks g) (hp : H p = some (.ins C dx fs)) (s : OthP p H H') : WAt H' d ks g := by
 obtain ⟨ad, h1, h2⟩ := h
 exact ⟨ad, oth_at hp s h1 (fun _ _ _ z => nomatch z), fun x hx => oth_at hp s (h2 x hx) (fun _ _ _ z => nomatch z)⟩
noncomputable def sp_Scene_init (C : Addr) : Sp := fun vs H Q _ => ∃ (p dx : Addr) (te th po wo : V), vs = [.ref p, te, th, po, wo] ∧ H p = some (.ins C dx []) ∧ Q .non (upd H p (.ins C dx (sflds te th po wo)))
noncomputable def sp_Hall_init (CT CS CH : Addr) : Sp := fun vs H Q _ => ∃ (p r dx : Addr) (M : List (Option Nat)) (ns : List Int), vs = [.ref p, .ref r] ∧ H p = some (.ins CH dx []) ∧ RowsAt H r ns ∧ TD M ns ∧ ns.length < 64 ∧
 ∀ (H' : Hp), OthP p H H' → (∃ be sc st un dxs th po wo ks, HallNew CT CS CH H' p M ns dx be sc st un dxs th po wo ks ∧ H st = none) → Q .non H'
section
variable {P : Program} {w : World} {K : PySem.W.Frag} {mg : Str → Option Value} {base : Heap} {t : Adr}
theorem sc_Scene_init : FnScope ["self", "tent", "threads", "pools", "worths"] ["self", "tent", "threads", "pools", "worths"] (defScope s_Scene_init) := ⟨rfl, rfl, rfl, by decide +kernel, rfl, by decide +kernel, by decide +kernel⟩
theorem ok_Scene_init (T : Txt w K mg t) : FnOk P w K mg base (CXr P w) 1 t.f_Scene_init t.d_Scene_init ["self", "tent", "threads", "pools", "worths"] (sp_Scene_init t.C_Scene) := by
 refine T.p_Scene_init.F.okR sc_Scene_init (fun vs H Q E h => ?_) (fun cdv A outer s H vs Q E hr h => ?_)
 ·obtain ⟨p, dx, te, th, po, wo, rfl, _⟩ := h
  rfl
 ·obtain ⟨p, dx, te, th, po, wo, rfl, hp, k⟩ := h
  refine ⟨_, (pss_cons (ps_fld (pv 0) (pv 1) rfl)
   (pss_cons (ps_fld (pv 0) (pv 2) rfl)
   (pss_cons (ps_fld (pv 0) (pv 3) rfl)
   (pss_one (ps_fld (pv 0) (pv 4) rfl))))), ?_⟩
  have l1 := len_putF "tent" te []
  have l2 := len_putF "threads" th (putF "tent" te [])
  have l3 := len_putF "pools" po (putF "threads" th (putF "tent" te []))
  rw [List.length_nil] at l1
  refine ⟨_, rfl, _, rfl, p, _, dx, _, rfl, hp, T.cl_Scene, T.a_Scene_tent, by decide, ?_⟩
  refine ⟨_, rfl, _, rfl, p, _, dx, _, rfl, upd_same, T.cl_Scene, T.a_Scene_threads, by omega, ?_⟩
  refine ⟨_, rfl, _, rfl, p, _, dx, _, rfl, upd_same, T.cl_Scene, T.a_Scene_pools, by omega, ?_⟩
  refine ⟨_, rfl, _, rfl, p, _, dx, _, rfl, upd_same, T.cl_Scene, T.a_Scene_worths, by omega, ?_⟩
  rw [upd_again, upd_again, upd_again]
  exact k
theorem sc_Hall_init : FnScope ["self", "rows"] ["self", "rows"] (defScope s_Hall_init) := ⟨rfl, rfl, rfl, by decide +kernel, rfl, by decide +kernel, by decide +kernel⟩
theorem ok_Hall_init (T : Txt w K mg t) : FnOk P w K mg base (CXr P w) 5 t.f_Hall_init t.d_Hall_init ["self", "rows"] (sp_Hall_init t.C_Tent t.C_Scene t.C_Hall) := by
 refine T.p_Hall_init.F.okR sc_Hall_init (fun vs H Q E h => ?_) (fun cdv A outer s H vs Q E hr h => ?_)
 ·obtain ⟨p, r, dx, M, ns, rfl, _⟩ := h
  rfl
 ·obtain ⟨p, r, dx, M, ns, rfl, hp, hr1, td, h64, k⟩ := h
  refine ⟨_, (pss_cons (ps_fld (pv 0) (pe_make T.mk_Tent (ok_Tent_init T) (hr.mono (by decide)) rfl T.gC_Tent T.p_Tent_init.b .nil passR (pa_cons (pv 1) pa_nil)) rfl)
   (pss_cons (ps_fld (pv 0) (pe_make T.mk_Scene (ok_Scene_init T) (hr.mono (by decide)) rfl T.gC_Scene T.p_Scene_init.b .nil passR (pa_cons (pe_fld (pv 0) rfl) (pa_cons pe_dnewK (pa_cons pe_dnewK (pa_cons (pe_call (ok_even_worths T) (hr.mono (by decide)) rfl T.p_even_worths.g T.p_even_worths.F.kp T.p_even_worths.b .nil passR (pa_cons (pe_fld (pv 0) rfl) pa_nil)) pa_nil))))) rfl)
   (pss_cons (ps_fld (pv 0) (pe_lst pa_nil) rfl)
   (pss_one (ps_fld (pv 0) (pe_lst pa_nil) rfl))))), ?_⟩
  refine ⟨_, rfl, ?_⟩
  intro x dt hx hdt hne
  have s0 : Same H (upd (upd H dt (.own x)) x (.ins t.C_Tent dt [])) := Same.add (Same.new hdt) hx
  refine ⟨x, r, dt, M, ns, rfl, upd_same, hr1.same s0, td, by omega, fun H1 old ta => ⟨rfl, ?_⟩⟩
  have s1 : Same H H1 := fun b u e => old b u (ne_of_none e hx) (s0 b u e)
  refine ⟨_, rfl, p, _, dx, _, rfl, s1 _ _ hp, T.cl_Hall, T.a_Hall_began, by decide, ?_⟩
  have l1 := len_putF "began" (.ref x) []
  rw [List.length_nil] at l1
  have hp1 := s1 _ _ hp
  have nx : x ≠ p := fun z => by rw [z, hp] at hx; cases hx
  have o2 : OthP p H1 (upd H1 p (.ins t.C_Hall dx (putF "began" (.ref x) []))) := .upd
  have hp2 : (upd H1 p (.ins t.C_Hall dx (putF "began" (.ref x) []))) p = some (.ins t.C_Hall dx (putF "began" (.ref x) [])) := upd_same
  have ta2 := ta.oth hp1 nx o2
  have o02 : OthP p H _ := (OthP.of s1).trans o2
  generalize upd H1 p (.ins t.C_Hall dx (putF "began" (.ref x) [])) = H2 at o2 hp2 ta2 o02 ⊢
  clear o2 ta old s1 s0 hp1 hdt hne hr1
  have lk1 : (putF "began" (.ref x) []).lookup ("began" : Str) = some (.ref x) := by rw [lookup_putF, if_pos rfl]
  refine ⟨_, rfl, p, _, dx, _, _, rfl, hp2, T.cl_Hall, T.a_Hall_began, lk1, ?_⟩
  intro th hth po hpo
  obtain ⟨hpt, hpo'⟩ := upd_none hpo
  have s3 : Same H2 (upd (upd H2 th (.dK [])) po (.dK [])) := Same.add (Same.new hth) hpo'
  have ht3 : (upd (upd H2 th (.dK [])) po (.dK [])) th = some (.dK []) := by rw [upd_ne (Ne.symm hpt), upd_same]
  have hq3 : (upd (upd H2 th (.dK [])) po (.dK [])) po = some (.dK []) := upd_same
  generalize upd (upd H2 th (.dK [])) po (.dK []) = H3 at s3 ht3 hq3 ⊢
  refine ⟨_, rfl, p, _, dx, _, _, rfl, s3 _ _ hp2, T.cl_Hall, T.a_Hall_began, lk1, x, M, ns, rfl, ta2.same s3, td, h64, fun wo H4 ks s4 hwo w4 sw => ?_⟩
  intro sc dxs hsc hdxs hne2
  have s5 : Same H4 (upd (upd H4 dxs (.own sc)) sc (.ins t.C_Scene dxs [])) := Same.add (Same.new hdxs) hsc
  refine ⟨sc, dxs, _, _, _, _, rfl, upd_same, rfl, ?_⟩
  rw [upd_again]
  have s6 : Same H4 (upd (upd H4 dxs (.own sc)) sc (.ins t.C_Scene dxs (sflds (.ref x) (.ref th) (.ref po) (.ref wo)))) := Same.add (Same.new hdxs) hsc
  have hc6 : (upd (upd H4 dxs (.own sc)) sc (.ins t.C_Scene dxs (sflds (.ref x) (.ref th) (.ref po) (.ref wo)))) sc = some (.ins t.C_Scene dxs (sflds (.ref x) (.ref th) (.ref po) (.ref wo))) := upd_same
  generalize upd (upd H4 dxs (.own sc)) sc (.ins t.C_Scene dxs (sflds (.ref x) (.ref th) (.ref po) (.ref wo))) = H6 at s6 hc6 ⊢
  clear s5
  have s46 := s4.trans s6
  have s26 := s3.trans s46
  have hp6 := s26 _ _ hp2
  have nsc : sc ≠ p := fun z => by rw [z, (s3.trans s4) _ _ hp2] at hsc; cases hsc
  refine ⟨_, rfl, p, _, dx, _, rfl, hp6, T.cl_Hall, T.a_Hall_scene, by omega, ?_⟩
  have l2 := len_putF "scene" (.ref sc) (putF "began" (.ref x) [])
  have o7 : OthP p H6 (upd H6 p (.ins t.C_Hall dx (putF "scene" (.ref sc) (putF "began" (.ref x) [])))) := .upd
  have hp7 : (upd H6 p (.ins t.C_Hall dx (putF "scene" (.ref sc) (putF "began" (.ref x) [])))) p = some (.ins t.C_Hall dx (putF "scene" (.ref sc) (putF "began" (.ref x) []))) := upd_same
  have ta7 := (ta2.same s26).oth hp6 nx o7
  have ht7 := oth_at hp6 o7 (s46 _ _ ht3) (fun _ _ _ z => nomatch z)
  have hq7 := oth_at hp6 o7 (s46 _ _ hq3) (fun _ _ _ z => nomatch z)
  have w7 := (w4.same s6).oth hp6 o7
  have hc7 := o7 _ _ nsc hc6
  have o07 : OthP p H _ := (o02.trans (.of s26)).trans o7
  generalize upd H6 p (.ins t.C_Hall dx (putF "scene" (.ref sc) (putF "began" (.ref x) []))) = H7 at o7 hp7 ta7 ht7 hq7 w7 hc7 o07 ⊢
  clear o7 hp6 s26 s46 s6 hc6 s4 w4 s3 ht3 hq3 ta2 hp2 o02 hth hpo hpo' hwo hsc hdxs
  refine ⟨Nat.zero_le _, fun st hst => ?_⟩
  have hst0 : H st = none := by
   cases e : H st with
   | none => rfl
   | some u =>
    rw [o07 _ _ (fun z => by rw [z, hp7] at hst; cases hst) e] at hst
    cases hst
  have s8 : Same H7 (upd H7 st (.lst [])) := Same.new hst
  have hs8 : (upd H7 st (.lst [])) st = some (.lst []) := upd_same
  generalize upd H7 st (.lst []) = H8 at s8 hs8 ⊢
  have hp8 := s8 _ _ hp7
  refine ⟨_, rfl, p, _, dx, _, rfl, hp8, T.cl_Hall, T.a_Hall_standing, by omega, ?_⟩
  have l3 := len_putF "standing" (.ref st) (putF "scene" (.ref sc) (putF "began" (.ref x) []))
  have o9 : OthP p H8 (upd H8 p (.ins t.C_Hall dx (putF "standing" (.ref st) (putF "scene" (.ref sc) (putF "began" (.ref x) []))))) := .upd
  have hp9 : (upd H8 p (.ins t.C_Hall dx (putF "standing" (.ref st) (putF "scene" (.ref sc) (putF "began" (.ref x) []))))) p = some (.ins t.C_Hall dx (putF "standing" (.ref st) (putF "scene" (.ref sc) (putF "began" (.ref x) [])))) := upd_same
  have ta9 := (ta7.same s8).oth hp8 nx o9
  have ht9 := oth_at hp8 o9 (s8 _ _ ht7) (fun _ _ _ z => nomatch z)
  have hq9 := oth_at hp8 o9 (s8 _ _ hq7) (fun _ _ _ z => nomatch z)
  have hs9 := oth_at hp8 o9 hs8 (fun _ _ _ z => nomatch z)
  have w9 := (w7.same s8).oth hp8 o9
  have hc9 := o9 _ _ nsc (s8 _ _ hc7)
  have o09 : OthP p H _ := (o07.trans (.of s8)).trans o9
  generalize upd H8 p (.ins t.C_Hall dx (putF "standing" (.ref st) (putF "scene" (.ref sc) (putF "began" (.ref x) [])))) = H9 at o9 hp9 ta9 ht9 hq9 hs9 w9 hc9 o09 ⊢
  clear o9 hp8 s8 hs8 hp7 ta7 ht7 hq7 w7 hc7 o07 hst
  refine ⟨Nat.zero_le _, fun un hun => ?_⟩
  have sA : Same H9 (upd H9 un (.lst [])) := Same.new hun
  have hsA : (upd H9 un (.lst [])) un = some (.lst []) := upd_same
  generalize upd H9 un (.lst []) = HA at sA hsA ⊢
  have hpA := sA _ _ hp9
  refine ⟨_, rfl, p, _, dx, _, rfl, hpA, T.cl_Hall, T.a_Hall_undone, by omega, ?_⟩
  have oB : OthP p HA (upd HA p (.ins t.C_Hall dx (hflds x sc st un))) := .upd
  refine k _ ((o09.trans (.of sA)).trans oB) ⟨x, sc, st, un, dxs, th, po, wo, ks, ⟨upd_same, (ta9.same sA).oth hpA nx oB, oB _ _ nsc (sA _ _ hc9), oth_at hpA oB (sA _ _ ht9) (fun _ _ _ z => nomatch z), oth_at hpA oB (sA _ _ hq9) (fun _ _ _ z => nomatch z), (w9.same sA).oth hpA oB, sw, oth_at hpA oB (sA _ _ hs9) (fun _ _ _ z => nomatch z), oth_at hpA oB hsA (fun _ _ _ z => nomatch z)⟩, hst0⟩
end
end KT
set_option maxHeartbeats 4000000
namespace KT
open PySem L2
noncomputable def figS (i : Int) : Str := Txt.join (Str.ofString "") [(Str.ofString (toString i))]
noncomputable def sp_figures : Sp := fun vs H Q _ => ∃ i : Int, vs = [.int i] ∧ 0 ≤ i ∧ i < 1000000000000000000000000000000000000000000000000000000000000 ∧ ∀ H', Same H H' → Q (.str (figS i)) H'
noncomputable def mdL (x y : Str) : List Bool := x.cps.toList.map fun c => Txt.contains y ⟨#[c]⟩
noncomputable def sp_made_of : Sp := fun vs H Q _ => ∃ x y : Str, vs = [.str x, .str y] ∧ x.cps.all (· < 128) = true ∧ x.cps.size ≤ 900 ∧ ∀ H', Same H H' → Q (.bl ((mdL x y).all id)) H'
theorem big60 : (10 : Int) ^ 60 = 1000000000000000000000000000000000000000000000000000000000000 := by decide
theorem big200 : (2 : Nat) ^ 200 = 1606938044258990275541962092341162602522202993782792835301376 := by decide
theorem fig_len {i : Int} (h0 : 0 ≤ i) (h1 : i < 1000000000000000000000000000000000000000000000000000000000000) : (Str.ofString (toString i)).length ≤ 60 := PyProof.Rows.toString_length_le h0 (by decide) (by rw [big60]; exact h1)
theorem loop_str {x : Str} {g : TG} {tt : TT} {tb : TB} {R : St → Hp → Prop} {σ : St} {H : Hp} (Pv : Nat → St → Hp → Prop) (h0 : Pv 0 σ H)
  (hs : ∀ (i : Nat) c σ H, x.cps[i]? = some c → Pv i σ H → g (.str ⟨#[c]⟩) σ H fun σ2 H2 => tt σ2 H2 fun b H3 => if b = true then tb σ2 H3 (Pv (i + 1)) else Pv (i + 1) σ2 H3) (hd : ∀ σ H, Pv x.cps.size σ H → R σ H) : LoopR (Its x) g tt tb R σ H := by
 refine ⟨fun i m σ H => m = x.cps.size - i ∧ i ≤ x.cps.size ∧ Pv i σ H, ⟨x.cps.size, by simp, Nat.zero_le _, h0⟩, ?_⟩
 rintro i m σ H ⟨rfl, hi, p⟩
 by_cases hlt : i < x.cps.size
 ·refine .inr ⟨hlt, Pv (i + 1), fun σ' H' p' => ⟨x.cps.size - (i + 1), by omega, rfl, hlt, p'⟩, fun y H' z => ?_⟩
  obtain ⟨e, c, hc, ec⟩ := z
  subst e ec
  exact hs i c σ _ hc p
 ·have e : i = x.cps.size := by omega
  subst e
  exact .inl ⟨Nat.le_refl _, hd σ H p⟩
section
variable {P : Program} {w : World} {K : PySem.W.Frag} {mg : Str → Option Value} {base : Heap} {t : Adr}
theorem sc_figures : FnScope ["number", "parts"] ["number"] (defScope s_figures) := ⟨rfl, rfl, rfl, by decide +kernel, rfl, by decide +kernel, by decide +kernel⟩
theorem ok_figures (T : Txt w K mg t) : FnOk P w K mg base (CXr P w) 1 t.f_figures t.d_figures ["number"] sp_figures := by
 refine T.p_figures.F.okR sc_figures (fun vs H Q E h => ?_) (fun cdv A outer s H vs Q E hr h => ?_)
 ·obtain ⟨i, rfl, _⟩ := h
  rfl
 ·obtain ⟨i, rfl, h0, h1, k⟩ := h
  have hu := hu_of hr
  refine ⟨_, (pss_cons (ps_set (i := 1) sc_figures.nd rfl (Or.inl rfl) (pe_lst pa_nil))
   (pss_cons (ps_while PassesOwn.never (pt_cmpR op_ge (pv 0) (pe_glob (v := .int 1000000000000000000000000000000000000000000000000000000000000) rfl T.c_PART ⟨_, rfl⟩) (nomark _)) (pss_cons ps_never
   (pss_one (ps_aug (i := 0) sc_figures.nd rfl (Or.inl rfl) (pe_glob (v := .int 1000000000000000000000000000000000000000000000000000000000000) rfl T.c_PART ⟨_, rfl⟩) ip_fdivB))))
   (pss_cons (ps_expr (pe_bm PySem.F.plainAttrs_list PySem.F.slot_list_append PySem.F.type_list_append mt_append (pv 1) (pa_cons (pe_callTy call_str_int (by rfl) T.n_str PySem.Pv.boot_str (pa_cons (pv 0) pa_nil)) pa_nil)))
   (pss_one (ps_ret (pe_joinRev rfl T.n_reversed (by rfl) pe_str (pa_cons (pv 1) pa_nil))))))), ?_⟩
  refine seq_cut fun nxC hnxC => ?_
  refine ⟨Nat.zero_le _, fun p hp => ?_⟩
  refine hnxC _ _ ?_
  have s1 : Same H (upd H p (.lst [])) := Same.new hp
  have h2 : (upd H p (.lst [])) p = some (.lst []) := upd_same
  generalize upd H p (.lst []) = H1 at s1 h2 ⊢
  try dsimp only [gName]
  refine seq_post (fun σ H' => σ = [some (.int i), some (.ref p)] ∧ H' = H1) (fun nx hnx => ?_) ?_
  ·refine ⟨fun m σ H' => σ = [some (.int i), some (.ref p)] ∧ H' = H1, ⟨0, rfl, rfl⟩, ?_⟩
   rintro m σ H' ⟨rfl, rfl⟩
   refine ⟨_, rfl, _, _, rfl, rfl, _, rfl, ?_⟩
   rw [decide_eq_false (by omega)]
   exact iteF (hnx _ _ ⟨rfl, rfl⟩)
  rintro σ H' ⟨rfl, rfl⟩
  have hlog : i.natAbs.log2 < 1920 := by
   rcases Nat.eq_zero_or_pos i.natAbs with z | z
   ·rw [z]; decide
   ·exact (Nat.log2_lt (by omega)).mpr (Nat.lt_of_lt_of_le (by rw [big200]; omega : i.natAbs < 2 ^ 200) (Nat.pow_le_pow_right (by decide) (by decide)))
  have hlen : (Str.ofString (toString i)).length ≤ 60 := fig_len h0 h1
  refine seq_cut fun nxC hnxC => ?_
  refine ⟨_, rfl, .inl ⟨rfl, _, SqL.of h2⟩, _, rfl, i, rfl, hlog, p, _, _, rfl, rfl, h2, small1000 (by decide), ?_⟩
  refine hnxC _ _ ?_
  refine ⟨_, rfl, _, rfl, p, [(Str.ofString (toString i))], rfl, SqL.of upd_same, by decide, (by show ((Str.ofString (toString i)).length + 0) + 1 ≤ 1048576; omega), ?_⟩
  exact k _ (Same.add s1 hp)
theorem sc_made_of : FnScope ["text", "signs"] ["text", "signs"] (defScope s_made_of) := ⟨rfl, rfl, rfl, by decide +kernel, rfl, by decide +kernel, by decide +kernel⟩
theorem ok_made_of (T : Txt w K mg t) : FnOk P w K mg base (CXr P w) 1 t.f_made_of t.d_made_of ["text", "signs"] sp_made_of := by
 refine T.p_made_of.F.okR sc_made_of (fun vs H Q E h => ?_) (fun cdv A outer s H vs Q E hr h => ?_)
 ·obtain ⟨x, y, rfl, _⟩ := h
  rfl
 ·obtain ⟨x, y, rfl, hx, hz, k⟩ := h
  refine ⟨_, (pss_one (ps_ret (pe_callB (call_all rfl) (by rfl) T.n_all PyProof.Rows.boot_all (pa_cons (pe_compG (ts := ["sign"]) (fv := [("signs", 1)]) ⟨rfl, by decide +kernel, by decide +kernel, blkFree (by rfl), ⟨⟨rfl, rfl, Or.inl rfl⟩, trivial⟩⟩ rfl (pi_str (pv 0)) (fun _ _ _ _ => (pg_name (i := 0) (show List.Nodup (["sign", "signs"] : List Str) from by decide +kernel) rfl (Or.inl rfl) (Or.inr rfl))) (fun _ _ _ _ => pts_nil) (fun _ _ _ => rfl) (fun _ _ _ _ _ _ => pb_emit (pe_cmpR op_inS (pv 0) (pv 1) (by with_unfolding_all rfl)))) pa_nil)))), ?_⟩
  refine ⟨_, rfl, x, rfl, hx, fun D hD => ?_⟩
  refine loop_str (fun i σ H6 => ∃ v, σ = [v, some (.str y)] ∧ Same H H6 ∧ H6 D = some (.lst (((mdL x y).take i).map V.bl))) ⟨none, rfl, Same.new hD, upd_same⟩ ?_ ?_
  ·rintro i c σ H6 hc ⟨v, rfl, s6, h6⟩
   have hil : i < x.cps.size := (Array.getElem?_eq_some_iff.mp hc).1
   have hm : (mdL x y)[i]? = some (Txt.contains y ⟨#[c]⟩) := by
    unfold mdL
    rw [List.getElem?_map, Array.getElem?_toList, hc]
    rfl
   dsimp only [gName, tYes]
   rw [if_pos rfl]
   refine ⟨_, rfl, _, rfl, _, _, rfl, rfl, _, h6, by rw [List.length_map, List.length_take]; exact small1000 (by omega), _, rfl, Same.add s6 hD, ?_⟩
   rw [upd_same, List.take_add_one, hm, List.map_append]
   rfl
  ·rintro σ H6 ⟨v, rfl, s6, h6⟩
   have hl : (mdL x y).length = x.cps.size := by unfold mdL; rw [List.length_map, Array.length_toList]
   rw [← hl, List.take_length] at h6
   exact ⟨D, _, rfl, SqL.of h6, k _ s6⟩
end
end KT
set_option maxHeartbeats 4000000
namespace KT
open PySem L2
noncomputable def isN (x : Str) : Bool := decide (1 ≤ (x.length : Int)) && decide ((x.length : Int) ≤ 8) && (mdL x (Str.ofString "abcdefghijklmnopqrstuvwxyz")).all id
noncomputable def sp_is_name : Sp := fun vs H Q _ => ∃ x : Str, vs = [.str x] ∧ x.cps.all (· < 128) = true ∧ x.cps.size ≤ 900 ∧ ∀ H', Same H H' → Q (.bl (isN x)) H'
noncomputable def wV : Str ⊕ Int → V
 | .inl x => .str x
 | .inr i => .int i
noncomputable def wS : Str ⊕ Int → Str
 | .inl x => x
 | .inr i => figS i
noncomputable def wOk : Str ⊕ Int → Prop
 | .inl _ => True
 | .inr i => 0 ≤ i ∧ i < 1000000000000000000000000000000000000000000000000000000000000
theorem sum_le {B : Nat} : ∀ {l : List (Str ⊕ Int)}, (∀ x ∈ l, (wS x).length ≤ B) → ((l.map wS).map (·.length)).sum ≤ B * l.length
 | [], _ => Nat.le_refl _
 | x :: l, h => by
  have h1 := h x List.mem_cons_self
  have h2 := sum_le (l := l) fun y hy => h y (List.mem_cons_of_mem _ hy)
  rw [List.map_cons, List.map_cons, List.sum_cons, List.length_cons, Nat.mul_add]
  omega
theorem fig_le {i : Int} (h0 : 0 ≤ i) (h1 : i < 1000000000000000000000000000000000000000000000000000000000000) : (figS i).length ≤ 60 := by
 have e : figS i = Str.ofString (toString i) := rfl
 rw [e]
 exact fig_len h0 h1
noncomputable def wAsc : Str ⊕ Int → Prop
 | .inl x => Asc x
 | .inr _ => True
theorem asc_fig (i : Int) : Asc (figS i) := Asc.join fun y hy => by rw [List.mem_singleton.mp hy]; exact Asc.num i
theorem asc_row {ws : List (Str ⊕ Int)} (h : ∀ x ∈ ws, wAsc x) : Asc (Txt.join (Str.ofString " ") (ws.map wS)) := Asc.joinS (fun c hc => by have hc : c ∈ [32] := hc; rw [List.mem_singleton.mp hc]; decide) fun y hy => by
 obtain ⟨x, hx, rfl⟩ := List.mem_map.mp hy
 have := h x hx
 cases x with
 | inl z => exact this
 | inr i => exact asc_fig i
noncomputable def sp_row_text : Sp := fun vs H Q _ => ∃ (a : Addr) (ws : List (Str ⊕ Int)), vs = [.ref a] ∧ H a = some (.lst (ws.map wV)) ∧ ws.length ≤ 900 ∧ (∀ x ∈ ws, wOk x) ∧ ((ws.map wS).map (·.length)).sum + ws.length ≤ 1048576 ∧ ∀ H', Same H H' → Q (.str (Txt.join (Str.ofString " ") (ws.map wS))) H'
section
variable {P : Program} {w : World} {K : PySem.W.Frag} {mg : Str → Option Value} {base : Heap} {t : Adr}
theorem sc_is_name : FnScope ["text"] ["text"] (defScope s_is_name) := ⟨rfl, rfl, rfl, by decide +kernel, rfl, by decide +kernel, by decide +kernel⟩
theorem ok_is_name (T : Txt w K mg t) : FnOk P w K mg base (CXr P w) 2 t.f_is_name t.d_is_name ["text"] sp_is_name := by
 refine T.p_is_name.F.okR sc_is_name (fun vs H Q E h => ?_) (fun cdv A outer s H vs Q E hr h => ?_)
 ·obtain ⟨x, rfl, _⟩ := h
  rfl
 ·obtain ⟨x, rfl, hx, hz, k⟩ := h
  refine ⟨_, (pss_one (ps_ret (pe_and (pe_chain op_le op_le pe_int (pe_callB call_len_str (by rfl) T.n_len PySem.boot_len (pa_cons (pv 0) pa_nil)) (pe_glob (v := .int 8) rfl T.c_LONGEST_NAME ⟨_, rfl⟩)) (pe_one (pe_call (ok_made_of T) (hr.mono (by decide)) rfl T.p_made_of.g T.p_made_of.F.kp T.p_made_of.b .nil passR (pa_cons (pv 0) (pa_cons (pe_glob (v := .str (Str.ofString "abcdefghijklmnopqrstuvwxyz")) rfl T.c_SMALL_LETTERS ⟨_, rfl⟩) pa_nil))))))), ?_⟩
  have hs : x.length = x.cps.size := rfl
  refine ⟨_, rfl, x, rfl, by rw [sizeLine_eq]; omega, _, _, rfl, rfl, _, rfl, ?_⟩
  unfold isN at k
  refine ite2 (fun z => ?_) (fun z => ?_)
  ·refine ⟨_, _, rfl, rfl, _, rfl, ?_⟩
   refine ite2 (fun z2 => ?_) (fun z2 => ?_)
   ·refine ⟨_, rfl, x, _, rfl, hx, hz, fun H' s' => ?_⟩
    have := k H' s'
    rw [z, z2, Bool.true_and, Bool.true_and] at this
    exact this
   ·have := k H (Same.refl _)
    rw [Bool.eq_false_iff.mpr z2, Bool.and_false, Bool.false_and] at this
    exact this
  ·refine ⟨_, rfl, iteF ?_⟩
   have := k H (Same.refl _)
   rw [Bool.eq_false_iff.mpr z, Bool.false_and, Bool.false_and] at this
   exact this
theorem sc_row_text : FnScope ["words"] ["words"] (defScope s_row_text) := ⟨rfl, rfl, rfl, by decide +kernel, rfl, by decide +kernel, by decide +kernel⟩
theorem ok_row_text (T : Txt w K mg t) : FnOk P w K mg base (CXr P w) 2 t.f_row_text t.d_row_text ["words"] sp_row_text := by
 refine T.p_row_text.F.okR sc_row_text (fun vs H Q E h => ?_) (fun cdv A outer s H vs Q E hr h => ?_)
 ·obtain ⟨a, ws, rfl, _⟩ := h
  rfl
 ·obtain ⟨a, ws, rfl, ha, hl, hw, hsum, k⟩ := h
  refine ⟨_, (pss_one (ps_ret (pe_bm PySem.F.plainAttrs_str PySem.F.slot_str_join PySem.F.type_str_join mt_join pe_str (pa_cons (pe_compG (ts := ["word"]) (fv := []) ⟨rfl, by decide +kernel, by decide +kernel, blkFree (by rfl), trivial⟩ rfl (pi_list (pv 0)) (fun _ _ _ _ => (pg_name (i := 0) (show List.Nodup (["word"] : List Str) from by decide +kernel) rfl (Or.inl rfl) (Or.inr rfl))) (fun _ _ _ _ => pts_nil) (fun _ _ _ => rfl) (fun _ _ _ _ _ _ => pb_emit (pe_ifExp (pt_val (pe_callB (call_isinstK K) (by rfl) T.n_isinstance PyProof.Rows.boot_isinstance (pa_cons (pv 0) (pa_cons (pe_bltn (v := .ty "str") (by rfl) T.n_str PySem.Pv.boot_str rfl) pa_nil)))) (pv 0) (pe_call (ok_figures T) (hr.mono (by decide)) rfl T.p_figures.g T.p_figures.F.kp T.p_figures.b .nil passR (pa_cons (pv 0) pa_nil))))) pa_nil)))), ?_⟩
  refine ⟨rfl, _, rfl, a, rfl, ⟨_, SqL.of ha⟩, fun D hD => ?_⟩
  refine loop_list (xs := ws.map wV) (fun i σ H6 => ∃ v, σ = [v] ∧ Same H H6 ∧ H6 D = some (.lst (((ws.take i).map wS).map V.str))) ⟨none, rfl, Same.new hD, upd_same⟩ ?_ ?_ ?_
  ·rintro i σ H6 _ ⟨v, rfl, s6, _⟩
   exact SqL.of (s6 _ _ ha)
  ·rintro i y σ H6 hy ⟨v, rfl, s6, h6⟩
   rw [List.getElem?_map] at hy
   obtain ⟨x, hx, rfl⟩ := Option.map_eq_some_iff.mp hy
   have hil : i < ws.length := (List.getElem?_eq_some_iff.mp hx).1
   have ok := hw x (List.mem_of_getElem? hx)
   have lt : (((ws.take i).map wS).map V.str).length < sizeLine := by rw [List.length_map, List.length_map, List.length_take]; exact small1000 (by omega)
   dsimp only [gName, tYes]
   rw [if_pos rfl]
   cases x with
   | inl y =>
    refine ⟨_, rfl, _, "str", _, true, rfl, TyOf.str y, kit_same, _, rfl, iteT ?_⟩
    refine ⟨_, rfl, _, h6, lt, _, rfl, Same.add s6 hD, ?_⟩
    rw [upd_same, List.take_add_one, hx, List.map_append, List.map_append]
    rfl
   | inr j =>
    refine ⟨_, rfl, _, "str", _, false, rfl, TyOf.int j, (by rfl), _, rfl, iteF ?_⟩
    refine ⟨_, rfl, j, rfl, ok.1, ok.2, fun H7 s7 => ?_⟩
    refine ⟨_, s7 _ _ h6, lt, _, rfl, Same.add (s6.trans s7) hD, ?_⟩
    rw [upd_same, List.take_add_one, hx, List.map_append, List.map_append]
    rfl
  ·rintro σ H6 ⟨v, rfl, s6, h6⟩
   rw [List.length_map, List.take_length] at h6
   refine ⟨_, D, ws.map wS, rfl, rfl, SqL.of h6, by decide, ?_, k _ s6⟩
   rw [List.length_map]
   exact hsum
end
end KT
set_option maxHeartbeats 4000000
namespace KT
open PySem L2
noncomputable def dS (l : List (Str × V)) : List (Key × V) := l.map fun kv => ((Sum.inr kv.1 : Key), kv.2)
theorem dS_len (l : List (Str × V)) : (dS l).length = l.length := by unfold dS; rw [List.length_map]
noncomputable def hasS (l : List (Str × V)) (x : Str) : Bool := l.any fun kv => decide (kv.1 = x)
noncomputable def sp_with_item : Sp := fun vs H Q _ => ∃ (d : Addr) (x : Str) (v : V) (l : List (Str × V)), vs = [.ref d, .str x, v] ∧ H d = some (.dK (dS l)) ∧ l.length ≤ 900 ∧ hasS l x = false ∧ ∀ (e : Addr) (H' : Hp), Same H H' → H e = none → H' e = some (.dK (dS (l ++ [(x, v)]))) → Q (.ref e) H'
noncomputable def sp_look_length (EN : Addr) : Sp := fun vs H Q E => ∃ (a : Addr) (vs' : List V), vs = [.ref a] ∧ H a = some (.lst vs') ∧ (vs'.length ≤ 400 → Q .non H) ∧ (400 < vs'.length → E (.ref EN) none H)
section
variable {P : Program} {w : World} {K : PySem.W.Frag} {mg : Str → Option Value} {base : Heap} {t : Adr}
theorem sc_with_item : FnScope ["table", "name", "value", "copied"] ["table", "name", "value"] (defScope s_with_item) := ⟨rfl, rfl, rfl, by decide +kernel, rfl, by decide +kernel, by decide +kernel⟩
theorem ok_with_item (T : Txt w K mg t) : FnOk P w K mg base (CXr P w) 1 t.f_with_item t.d_with_item ["table", "name", "value"] sp_with_item := by
 refine T.p_with_item.F.okR sc_with_item (fun vs H Q E h => ?_) (fun cdv A outer s H vs Q E hr h => ?_)
 ·obtain ⟨d, x, v, l, rfl, _⟩ := h
  rfl
 ·obtain ⟨d, x, v, l, rfl, hd, hl, hn, k⟩ := h
  have hu := hu_of hr
  refine ⟨_, (pss_cons (ps_set (i := 3) sc_with_item.nd rfl (Or.inl rfl) (pe_callTy call_dictD (by rfl) T.n_dict PySem.Pv.boot_dict (pa_cons (pv 0) pa_nil)))
   (pss_cons (ps_dput hu (pv 3) (pv 1) (pv 2) rfl)
   (pss_one (ps_ret (pv 3))))), ?_⟩
  refine seq_cut fun nxC hnxC => ?_
  refine ⟨_, rfl, d, _, rfl, .inl hd, fun e he => ?_⟩
  refine hnxC _ _ ?_
  have ep : putK (dS l) (Sum.inr x) v = dS (l ++ [(x, v)]) := by
   have : ((dS l).any fun kv => decide (kv.1 = (Sum.inr x : Key))) = false := by
    rw [← hn]
    unfold dS hasS
    rw [List.any_map]
    congr 1
    funext kv
    show decide ((Sum.inr kv.1 : Key) = Sum.inr x) = decide (kv.1 = x)
    by_cases z : kv.1 = x
    ·rw [z, decide_eq_true rfl, decide_eq_true rfl]
    ·rw [decide_eq_false z, decide_eq_false (fun y => z (by injection y))]
   unfold putK
   rw [this, if_neg (by decide)]
   unfold dS
   rw [List.map_append]
   rfl
  refine ⟨_, rfl, _, rfl, _, rfl, e, _, rfl, DPut.k (k := Sum.inr x) upd_same (by rw [dS_len]; exact small1000 (by omega)), ?_⟩
  rw [ep]
  refine ⟨_, rfl, k e _ ?_ he upd_same⟩
  exact Same.add (Same.new he) he
theorem sc_look_length : FnScope ["word"] ["word"] (defScope s_look_length) := ⟨rfl, rfl, rfl, by decide +kernel, rfl, by decide +kernel, by decide +kernel⟩
theorem ok_look_length (T : Txt w K mg t) : FnOk P w K mg base (CXr P w) 1 t.f_look_length t.d_look_length ["word"] (sp_look_length t.E_TooMany) := by
 refine T.p_look_length.F.okX sc_look_length (fun vs H Q E h => ?_) (fun cdv A outer s H vs Q E hr h => ?_)
 ·obtain ⟨a, vs', rfl, _⟩ := h
  rfl
 ·obtain ⟨a, vs', rfl, ha, k1, k2⟩ := h
  refine ⟨_, (pssx_one (psx_if (pt_cmpR op_gt (pe_callB call_len_seq (by rfl) T.n_len PySem.boot_len (pa_cons (pv 0) pa_nil)) (pe_glob (v := .int 400) rfl T.c_MOST_PLACES ⟨_, rfl⟩) (nomark _)) (pssx_one (psx_raise T.x_TooMany FBV rfl T.gx_TooMany rfl (pa_cons pe_str pa_nil))) pssx_nil)), ?_⟩
  refine ⟨_, rfl, a, _, rfl, .inl (SqL.of ha), _, _, rfl, rfl, _, rfl, ?_⟩
  by_cases c : 400 < vs'.length
  ·rw [decide_eq_true (by omega)]
   exact iteT ⟨by decide, k2 c⟩
  ·rw [decide_eq_false (by omega)]
   exact iteF (k1 (by omega))
end
end KT
set_option maxHeartbeats 4000000
namespace KT
open PySem L2
theorem dS_val {l : List (Str × V)} {x : Str} : (valV (dS l) (Sum.inr x)).isSome = hasS l x := by
 unfold valV hasS dS
 induction l with
 | nil => rfl
 | cons kv l ih =>
  rw [List.map_cons, List.find?_cons, List.any_cons]
  by_cases z : kv.1 = x
  ·rw [decide_eq_true z, decide_eq_true (show (Sum.inr kv.1 : Key) = Sum.inr x by rw [z])]; rfl
  ·rw [decide_eq_false z, decide_eq_false (show ¬ (Sum.inr kv.1 : Key) = Sum.inr x from fun y => z (by injection y)), Bool.false_or]
   exact ih
noncomputable def sp_look_new_name (CS EB ET : Addr) : Sp := fun vs H Q E => ∃ (sc dxs th po : Addr) (te wo : V) (x : Str) (l1 l2 : List (Str × V)), vs = [.ref sc, .str x] ∧ H sc = some (.ins CS dxs (sflds te (.ref th) (.ref po) wo)) ∧ H th = some (.dK (dS l1)) ∧ H po = some (.dK (dS l2)) ∧ x.cps.all (· < 128) = true ∧ x.cps.size ≤ 900 ∧
 (isN x = false → ∀ H', Same H H' → E (.ref EB) none H') ∧ (isN x = true → (hasS l1 x || hasS l2 x) = true → ∀ H', Same H H' → E (.ref ET) none H') ∧ (isN x = true → (hasS l1 x || hasS l2 x) = false → ∀ H', Same H H' → Q .non H')
noncomputable def sp_without_item : Sp := fun vs H Q _ => ∃ (d : Addr) (x : Str) (l : List (Str × V)), vs = [.ref d, .str x] ∧ H d = some (.dK (dS l)) ∧ l.length ≤ 900 ∧ (l.map (·.1)).Nodup ∧ ∀ (e : Addr) (H' : Hp), Same H H' → H e = none → H' e = some (.dK (dS (l.filter fun kv => decide (kv.1 ≠ x)))) → Q (.ref e) H'
theorem dS_at {l : List (Str × V)} {i : Nat} {k : Key} {v : V} (h : (dS l)[i]? = some (k, v)) : ∃ kv, l[i]? = some kv ∧ k = Sum.inr kv.1 ∧ v = kv.2 := by
 unfold dS at h
 rw [List.getElem?_map] at h
 obtain ⟨kv, h1, h2⟩ := Option.map_eq_some_iff.mp h
 cases h2
 exact ⟨kv, h1, rfl, rfl⟩
theorem dS_put {l : List (Str × V)} {x : Str} {v : V} (hn : x ∉ l.map (·.1)) : putK (dS l) (Sum.inr x) v = dS (l ++ [(x, v)]) := by
 have : ((dS l).any fun kv => decide (kv.1 = (Sum.inr x : Key))) = false := by
  rw [List.any_eq_false]
  intro kv hk z
  unfold dS at hk
  obtain ⟨y, hy, rfl⟩ := List.mem_map.mp hk
  have e := of_decide_eq_true z
  injection e with e
  exact hn (List.mem_map.mpr ⟨y, hy, e⟩)
 unfold putK
 rw [this, if_neg (by decide)]
 unfold dS
 rw [List.map_append]
 rfl
section
variable {P : Program} {w : World} {K : PySem.W.Frag} {mg : Str → Option Value} {base : Heap} {t : Adr}
theorem sc_look_new_name : FnScope ["scene", "name"] ["scene", "name"] (defScope s_look_new_name) := ⟨rfl, rfl, rfl, by decide +kernel, rfl, by decide +kernel, by decide +kernel⟩
theorem ok_look_new_name (T : Txt w K mg t) : FnOk P w K mg base (CXr P w) 3 t.f_look_new_name t.d_look_new_name ["scene", "name"] (sp_look_new_name t.C_Scene t.E_BadName t.E_Taken) := by
 refine T.p_look_new_name.F.okX sc_look_new_name (fun vs H Q E h => ?_) (fun cdv A outer s H vs Q E hr h => ?_)
 ·obtain ⟨sc, dxs, th, po, te, wo, x, l1, l2, rfl, _⟩ := h
  rfl
 ·obtain ⟨sc, dxs, th, po, te, wo, x, l1, l2, rfl, hsc, hth, hpo, hx, hz, kB, kT, kQ⟩ := h
  have hu := hu_of hr
  refine ⟨_, (pssx_cons (psx_if (pt_not (pt_val (pe_call (ok_is_name T) (hr.mono (by decide)) rfl T.p_is_name.g T.p_is_name.F.kp T.p_is_name.b .nil passR (pa_cons (pv 1) pa_nil)))) (pssx_one (psx_raise T.x_BadName FBV rfl T.gx_BadName rfl (pa_cons pe_str pa_nil))) pssx_nil)
   (pssx_one (psx_if (PW.pt (pw_or (pt_cmp (pc_din hu (pv 1) (pe_fld (pv 0) rfl)) (by with_unfolding_all rfl)) (pw_or1 (pt_cmp (pc_din hu (pv 1) (pe_fld (pv 0) rfl)) (by with_unfolding_all rfl))))) (pssx_one (psx_raise T.x_Taken FBV rfl T.gx_Taken rfl (pa_cons pe_str pa_nil))) pssx_nil))), ?_⟩
  refine ⟨_, rfl, x, rfl, hx, hz, fun H1 s1 => ⟨_, rfl, ?_⟩⟩
  cases e : isN x with
  | false => exact iteT ⟨by decide, kB e H1 s1⟩
  | true =>
   refine iteF ?_
   have hsc1 := s1 _ _ hsc
   refine ⟨_, rfl, _, rfl, sc, _, dxs, _, .ref th, rfl, hsc1, T.cl_Scene, T.a_Scene_threads, rfl, th, _, rfl, .inl ⟨_, Sum.inr x, .inl (s1 _ _ hth), rfl, rfl⟩, _, rfl, ?_⟩
   rw [dS_val]
   cases e1 : hasS l1 x with
   | true => exact iteT (iteT ⟨by decide, kT e (by rw [e1]; rfl) H1 s1⟩)
   | false =>
    refine iteF ?_
    refine ⟨_, rfl, _, rfl, sc, _, dxs, _, .ref po, rfl, hsc1, T.cl_Scene, T.a_Scene_pools, rfl, po, _, rfl, .inl ⟨_, Sum.inr x, .inl (s1 _ _ hpo), rfl, rfl⟩, _, rfl, ?_⟩
    rw [dS_val]
    cases e2 : hasS l2 x with
    | true => exact iteT ⟨by decide, kT e (by rw [e1, e2]; rfl) H1 s1⟩
    | false => exact iteF (kQ e (by rw [e1, e2]; rfl) H1 s1)
theorem sc_without_item : FnScope ["table", "name"] ["table", "name"] (defScope s_without_item) := ⟨rfl, rfl, rfl, by decide +kernel, rfl, by decide +kernel, by decide +kernel⟩
theorem ok_without_item (T : Txt w K mg t) : FnOk P w K mg base (CXr P w) 1 t.f_without_item t.d_without_item ["table", "name"] sp_without_item := by
 refine T.p_without_item.F.okR sc_without_item (fun vs H Q E h => ?_) (fun cdv A outer s H vs Q E hr h => ?_)
 ·obtain ⟨d, x, l, rfl, _⟩ := h
  rfl
 ·obtain ⟨d, x, l, rfl, hd, hl, nd, k⟩ := h
  have hu := hu_of hr
  refine ⟨_, (pss_one (ps_ret (pe_thaw (pe_dcompG (ts := ["key", "value"]) (fv := [("name", 1)]) ⟨rfl, by decide +kernel, by decide +kernel, blkFree (by rfl), ⟨⟨rfl, rfl, Or.inl rfl⟩, trivial⟩⟩ rfl (pi_items (pv 0) ⟨rfl, rfl, rfl⟩) (fun _ _ _ _ => (pg_tupK (n := 2) K rfl (pgs_cons (pg_name (i := 0) (show List.Nodup (["key", "value", "name"] : List Str) from by decide +kernel) rfl (Or.inl rfl) (Or.inr rfl)) (pgs_cons (pg_name (i := 1) (show List.Nodup (["key", "value", "name"] : List Str) from by decide +kernel) rfl (Or.inl rfl) (Or.inr rfl)) pgs_nil)))) (fun _ _ _ _ => (pts_one (pt_cmpR op_ne (pv 0) (pv 2) (nomark _)))) (fun _ _ _ => rfl) (fun _ _ _ _ _ _ => pb_demit (pv 0) (pv 1)))))), ?_⟩
  refine ⟨_, rfl, d, _, rfl, .inl ⟨hd, fun o => ?_⟩⟩
  intro D hD
  obtain ⟨hDd, hD2⟩ := upd_none hD
  have hll := dS_len l
  refine loop_items (kvs := dS l) (fun i σ H3 => ∃ v0 v1, σ = [v0, v1, some (.str x)] ∧ (∀ b u, b ≠ d → H b = some u → H3 b = some u) ∧ H3 d = some (.frz o (.dK (dS l))) ∧ H3 D = some (.dK (dS ((l.take i).filter fun kv => decide (kv.1 ≠ x))))) ⟨none, none, rfl, fun b u hb e => by rw [upd_ne (ne_of_none e hD2), upd_ne hb]; exact e, by rw [upd_ne (Ne.symm hDd), upd_same], upd_same⟩ ?_ ?_ ?_
  ·rintro i σ H3 _ ⟨v0, v1, rfl, _, e, _⟩
   exact e
  ·rintro i k0 x0 σ H3 q hk0 hq ⟨v0, v1, rfl, s3, e3, h3⟩
   obtain ⟨kv, hkv, rfl, rfl⟩ := dS_at hk0
   have hil : i < l.length := (List.getElem?_eq_some_iff.mp hkv).1
   have sq : Same H3 (upd H3 q (.tup [kV (Sum.inr kv.1), kv.2])) := Same.new hq
   have hqq : (upd H3 q (.tup [kV (Sum.inr kv.1), kv.2])) q = some (.tup [kV (Sum.inr kv.1), kv.2]) := upd_same
   generalize upd H3 q (.tup [kV (Sum.inr kv.1), kv.2]) = H4 at sq hqq ⊢
   have s4 : ∀ b u, b ≠ d → H b = some u → H4 b = some u := fun b u hb e => sq _ _ (s3 b u hb e)
   have etk : l.take (i + 1) = l.take i ++ [kv] := by rw [List.take_add_one, hkv]; rfl
   dsimp only [gName]
   refine ⟨q, _, rfl, SqT.of hqq, rfl, _, _, rfl, _, _, rfl, rfl, ?_⟩
   refine ⟨_, rfl, _, rfl, rfl, _, rfl, ?_⟩
   show if (!decide (V.str kv.1 = V.str x)) = true then _ else _
   by_cases c : kv.1 = x
   ·rw [c, decide_eq_true rfl]
    refine iteF ⟨_, _, rfl, s4, sq _ _ e3, ?_⟩
    rw [sq _ _ h3, etk, List.filter_append]
    simp [c]
   ·rw [decide_eq_false (fun z => c (by injection z))]
    have hnew : kv.1 ∉ ((l.take i).filter fun kv => decide (kv.1 ≠ x)).map (·.1) := fun z => by
     obtain ⟨y, hy, e⟩ := List.mem_map.mp z
     have hy := (List.mem_filter.mp hy).1
     rw [← List.take_append_drop i l, List.map_append, List.nodup_append] at nd
     refine nd.2.2 y.1 (List.mem_map.mpr ⟨y, hy, rfl⟩) kv.1 ?_ e
     rw [List.drop_eq_getElem_cons hil, (List.getElem?_eq_some_iff.mp hkv).2]
     exact List.mem_cons_self
    refine iteT ⟨_, rfl, _, rfl, _, Sum.inr kv.1, rfl, sq _ _ h3, ?_, _, _, rfl, fun b u hb e => ?_, ?_, ?_⟩
    ·rw [dS_len]
     have := List.length_filter_le (fun kv : Str × V => decide (kv.1 ≠ x)) (l.take i)
     rw [List.length_take] at this
     exact small1000 (by omega)
    ·rw [upd_ne (ne_of_none e hD2)]; exact s4 b u hb e
    ·rw [upd_ne (Ne.symm hDd)]; exact sq _ _ e3
    ·rw [upd_same, dS_put hnew, etk, List.filter_append]
     have : [kv].filter (fun kv : Str × V => decide (kv.1 ≠ x)) = [kv] := by simp [c]
     rw [this]
  ·rintro σ H3 ⟨v0, v1, rfl, s3, e3, h3⟩
   rw [hll, List.take_length] at h3
   refine ⟨d, o, _, e3, (fun o' u z => by have z : H d = some (.frz o' u) := z; rw [hd] at z; cases z), ?_⟩
   have sF : Same H (upd H3 d (.dK (dS l))) := fun b u e => by
    by_cases c : b = d
    ·subst c; rw [hd] at e; rw [upd_same]; exact e
    ·rw [upd_ne c]; exact s3 b u c e
   exact k D _ sF hD2 (by rw [upd_ne hDd]; exact h3)
end
end KT
set_option maxHeartbeats 4000000
namespace KT
open PySem L2
theorem hf_un (be sc st un un' : Addr) : putF "undone" (.ref un') (hflds be sc st un) = hflds be sc st un' := by first | rfl | decide
theorem hf_sc (be sc st un sc' : Addr) : putF "scene" (.ref sc') (hflds be sc st un) = hflds be sc' st un := by first | rfl | decide
theorem hf_len (be sc st un : Addr) : (hflds be sc st un).length < 1000 := by
 have : (hflds be sc st un).length = 4 := rfl
 omega
noncomputable def sp_Hall_enter (CH : Addr) : Sp := fun vs H Q _ => ∃ (p dx be sc st un sc' : Addr) (x : Str) (l : List V), vs = [.ref p, .str x, .ref sc'] ∧ H p = some (.ins CH dx (hflds be sc st un)) ∧ H st = some (.lst l) ∧ l.length ≤ 900 ∧
 ∀ (q un' : Addr) (H' : Hp), H q = none → H un' = none → (∀ b u, b ≠ p → b ≠ st → H b = some u → H' b = some u) → H' p = some (.ins CH dx (hflds be sc' st un')) → H' st = some (.lst (l ++ [.ref q])) → H' q = some (.tup [.str x, .ref sc]) → H' un' = some (.lst []) → Q .non H'
section
variable {P : Program} {w : World} {K : PySem.W.Frag} {mg : Str → Option Value} {base : Heap} {t : Adr}
theorem sc_Hall_enter : FnScope ["self", "text", "scene"] ["self", "text", "scene"] (defScope s_Hall_enter) := ⟨rfl, rfl, rfl, by decide +kernel, rfl, by decide +kernel, by decide +kernel⟩
theorem ok_Hall_enter (T : Txt w K mg t) : FnOk P w K mg base (CXr P w) 1 t.f_Hall_enter t.d_Hall_enter ["self", "text", "scene"] (sp_Hall_enter t.C_Hall) := by
 refine T.p_Hall_enter.F.okR sc_Hall_enter (fun vs H Q E h => ?_) (fun cdv A outer s H vs Q E hr h => ?_)
 ·obtain ⟨p, dx, be, sc, st, un, sc', x, l, rfl, _⟩ := h
  rfl
 ·obtain ⟨p, dx, be, sc, st, un, sc', x, l, rfl, hp, hst, hl, k⟩ := h
  refine ⟨_, (pss_cons (ps_expr (pe_bm PySem.F.plainAttrs_list PySem.F.slot_list_append PySem.F.type_list_append mt_append (pe_fld (pv 0) rfl) (pa_cons (pe_tup (pa_cons (pv 1) (pa_cons (pe_fld (pv 0) rfl) pa_nil))) pa_nil)))
   (pss_cons (ps_fld (pv 0) (pe_lst pa_nil) rfl)
   (pss_one (ps_fld (pv 0) (pv 2) rfl)))), ?_⟩
  have hps : p ≠ st := fun z => by rw [z, hst] at hp; cases hp
  refine seq_cut fun nxC hnxC => ?_
  refine ⟨_, rfl, p, _, dx, _, .ref st, rfl, hp, T.cl_Hall, T.a_Hall_standing, rfl, .inl ⟨rfl, _, SqL.of hst⟩, _, rfl, _, rfl, p, _, dx, _, .ref sc, rfl, hp, T.cl_Hall, T.a_Hall_scene, rfl, (by show 2 ≤ sizeLine; decide), fun q hq => ?_⟩
  have s1 : Same H (upd H q (.tup [V.str x, V.ref sc])) := Same.new hq
  have h1 : (upd H q (.tup [V.str x, V.ref sc])) q = some (.tup [V.str x, V.ref sc]) := upd_same
  refine ⟨st, _, _, rfl, rfl, s1 _ _ hst, small1000 (by omega), ?_⟩
  refine hnxC _ _ ?_
  generalize upd H q (.tup [V.str x, V.ref sc]) = H1 at s1 h1 ⊢
  have hqs : q ≠ st := fun z => by rw [z, hst] at hq; cases hq
  have hqp : q ≠ p := fun z => by rw [z, hp] at hq; cases hq
  have p2 : (upd H1 st (.lst (l ++ [V.ref q]))) p = some (.ins t.C_Hall dx (hflds be sc st un)) := by rw [upd_ne hps]; exact s1 _ _ hp
  have q2 : (upd H1 st (.lst (l ++ [V.ref q]))) q = some (.tup [V.str x, V.ref sc]) := by rw [upd_ne hqs]; exact h1
  have t2 : (upd H1 st (.lst (l ++ [V.ref q]))) st = some (.lst (l ++ [V.ref q])) := upd_same
  have o2 : ∀ b u, b ≠ p → b ≠ st → H b = some u → (upd H1 st (.lst (l ++ [V.ref q]))) b = some u := fun b u _ h2 e => by rw [upd_ne h2]; exact s1 _ _ e
  generalize upd H1 st (.lst (l ++ [V.ref q])) = H2 at p2 q2 t2 o2 ⊢
  refine seq_cut fun nxC hnxC => ?_
  refine ⟨Nat.zero_le _, fun un' hun => ?_⟩
  have s3 : Same H2 (upd H2 un' (.lst [])) := Same.new hun
  have u3 : (upd H2 un' (.lst [])) un' = some (.lst []) := upd_same
  have hun0 : H un' = none := by
   cases e : H un' with
   | none => rfl
   | some u =>
    have hne1 : un' ≠ p := fun z => by rw [z, p2] at hun; cases hun
    have hne2 : un' ≠ st := fun z => by rw [z, t2] at hun; cases hun
    rw [o2 _ _ hne1 hne2 e] at hun
    cases hun
  refine ⟨_, rfl, p, _, dx, _, rfl, s3 _ _ p2, T.cl_Hall, T.a_Hall_undone, hf_len _ _ _ _, ?_⟩
  rw [hf_un]
  refine hnxC _ _ ?_
  have hup : un' ≠ p := fun z => by rw [z, p2] at hun; cases hun
  refine ⟨_, rfl, _, rfl, p, _, dx, _, rfl, upd_same, T.cl_Hall, T.a_Hall_scene, hf_len _ _ _ _, ?_⟩
  rw [hf_sc, upd_again]
  refine k q un' _ hq hun0 (fun b u b1 b2 e => ?_) upd_same ?_ ?_ ?_
  ·rw [upd_ne b1]; exact s3 _ _ (o2 b u b1 b2 e)
  ·rw [upd_ne (Ne.symm hps)]; exact s3 _ _ t2
  ·rw [upd_ne hqp]; exact s3 _ _ q2
  ·rw [upd_ne hup]; exact u3
end
end KT
set_option maxHeartbeats 4000000
namespace KT
open PySem L2
noncomputable def Deeds (H : Hp) (st : Addr) (ds : List Str) : Prop := ∃ qs : List Addr, H st = some (.lst (qs.map V.ref)) ∧ qs.length = ds.length ∧ ∀ (i : Nat) (q : Addr) (x : Str), qs[i]? = some q → ds[i]? = some x → ∃ v, H q = some (.tup [.str x, v])
noncomputable def sp_Hall_deeds (CH : Addr) : Sp := fun vs H Q _ => ∃ (p dx be sc st un : Addr) (ds : List Str), vs = [.ref p] ∧ H p = some (.ins CH dx (hflds be sc st un)) ∧ Deeds H st ds ∧ ds.length ≤ 900 ∧ ∀ (l : Addr) (H' : Hp), Same H H' → H l = none → H' l = some (.lst (ds.map V.str)) → Q (.ref l) H'
section
variable {P : Program} {w : World} {K : PySem.W.Frag} {mg : Str → Option Value} {base : Heap} {t : Adr}
theorem sc_Hall_deeds : FnScope ["self"] ["self"] (defScope s_Hall_deeds) := ⟨rfl, rfl, rfl, by decide +kernel, rfl, by decide +kernel, by decide +kernel⟩
theorem ok_Hall_deeds (T : Txt w K mg t) : FnOk P w K mg base (CXr P w) 1 t.f_Hall_deeds t.d_Hall_deeds ["self"] (sp_Hall_deeds t.C_Hall) := by
 refine T.p_Hall_deeds.F.okR sc_Hall_deeds (fun vs H Q E h => ?_) (fun cdv A outer s H vs Q E hr h => ?_)
 ·obtain ⟨p, dx, be, sc, st, un, ds, rfl, _⟩ := h
  rfl
 ·obtain ⟨p, dx, be, sc, st, un, ds, rfl, hp, ⟨qs, d1, d2, d3⟩, hl, k⟩ := h
  refine ⟨_, (pss_one (ps_ret (pe_compG (ts := ["text", "earlier"]) (fv := []) ⟨rfl, by decide +kernel, by decide +kernel, blkFree (by rfl), trivial⟩ rfl (pi_list (pe_fld (pv 0) rfl)) (fun _ _ _ _ => (pg_tupK (n := 2) K rfl (pgs_cons (pg_name (i := 0) (show List.Nodup (["text", "earlier"] : List Str) from by decide +kernel) rfl (Or.inl rfl) (Or.inr rfl)) (pgs_cons (pg_name (i := 1) (show List.Nodup (["text", "earlier"] : List Str) from by decide +kernel) rfl (Or.inl rfl) (Or.inr rfl)) pgs_nil)))) (fun _ _ _ _ => pts_nil) (fun _ _ _ => rfl) (fun _ _ _ _ _ _ => pb_emit (pv 0))))), ?_⟩
  refine ⟨_, rfl, p, _, dx, _, .ref st, rfl, hp, T.cl_Hall, T.a_Hall_standing, rfl, st, rfl, ⟨_, SqL.of d1⟩, fun D hD => ?_⟩
  refine loop_list (xs := qs.map V.ref) (fun i σ H6 => ∃ v v', σ = [v, v'] ∧ Same H H6 ∧ H6 D = some (.lst ((ds.take i).map V.str))) ⟨none, none, rfl, Same.new hD, upd_same⟩ ?_ ?_ ?_
  ·rintro i σ H6 _ ⟨v, v', rfl, s6, _⟩
   exact SqL.of (s6 _ _ d1)
  ·rintro i y σ H6 hy ⟨v, v', rfl, s6, h6⟩
   rw [List.getElem?_map] at hy
   obtain ⟨q, hq, rfl⟩ := Option.map_eq_some_iff.mp hy
   have hil : i < qs.length := (List.getElem?_eq_some_iff.mp hq).1
   obtain ⟨x, hx⟩ : ∃ x, ds[i]? = some x := ⟨_, List.getElem?_eq_getElem (by omega)⟩
   obtain ⟨e, he⟩ := d3 i q x hq hx
   dsimp only [gName]
   refine ⟨q, _, rfl, SqT.of (s6 _ _ he), rfl, _, _, rfl, _, _, rfl, rfl, ?_⟩
   dsimp only [gName, tYes]
   rw [if_pos rfl]
   refine ⟨_, rfl, _, h6, by rw [List.length_map, List.length_take]; exact small1000 (by omega), _, _, rfl, Same.add s6 hD, ?_⟩
   rw [upd_same, List.take_add_one, hx, List.map_append]
   rfl
  ·rintro σ H6 ⟨v, v', rfl, s6, h6⟩
   rw [List.length_map, d2, List.take_length] at h6
   exact k D H6 s6 hD h6
end
end KT
set_option maxHeartbeats 4000000
namespace KT
open PySem L2
theorem len_word {ws : List Int} : (((ws.map V.int).length : Nat) : Int) = ws.length := by rw [List.length_map]
theorem cut_tail (x0 : Int) (xr : List Int) : cutV ((x0 :: xr).map V.int) (some 1) none = xr.map V.int := by
 unfold cutV
 have e1 : HT.sIx ((x0 :: xr).map V.int).length 0 (some ((1 : Nat) : Int)) = 1 := by
  rw [HT.sIx_nat, List.length_map, List.length_cons]
  omega
 rw [show (some (1 : Int)) = some ((1 : Nat) : Int) from rfl, e1, HT.sIx_none, List.map_cons, List.drop_succ_cons, List.drop_zero, List.length_cons, Nat.add_sub_cancel, List.take_length]
theorem flt_step {α : Type} {p : α → Bool} {l : List α} {i : Nat} {x : α} (h : l[i]? = some x) : (l.take (i + 1)).filter p = if p x = true then (l.take i).filter p ++ [x] else (l.take i).filter p := by
 rw [List.take_add_one, h, List.filter_append]
 by_cases c : p x = true
 ·simp [c]
 ·simp [c]
noncomputable def sp_walk : Sp := fun vs H Q _ => ∃ (m a : Addr) (M : List (Option Nat)) (xs : List Int), vs = [.ref m, .ref a] ∧ H m = some (.lst (M.map mV)) ∧ H a = some (.lst (xs.map V.int)) ∧ xs ≠ [] ∧ xs.length ≤ 60 ∧ (∀ x ∈ xs, 0 ≤ x ∧ x < 1009) ∧ M.length ≤ 42 ∧ (∃ n, M.length = 3 * n) ∧ (∀ (i j : Nat), M[i]? = some (some j) → M[j]? = some (some i) ∧ i ≠ j) ∧
 ∀ (l : Addr) (ws : List Nat) (H' : Hp), Same H H' → H l = none → H' l = some (.lst (ws.map nV)) → ws.length ≤ 60 → (ws = [] ∨ Pl M ws) → Q (.ref l) H'
noncomputable def sp_thread (K : PySem.W.Frag) : Sp := fun vs H Q _ => ∃ (a m : Addr) (sc : List Int) (i : Int) (M : List (Option Nat)), vs = [.ref a, .int i, .ref m] ∧ SqL K H a (sc.map V.int) ∧ sc.length ≤ 63 ∧ 0 ≤ i ∧ i < 1000 ∧ H m = some (.lst (M.map mV)) ∧ M.length ≤ 42 ∧ (∃ n, M.length = 3 * n) ∧ (∀ (i j : Nat), M[i]? = some (some j) → M[j]? = some (some i) ∧ i ≠ j) ∧
 ∀ (l : Addr) (ws : List Nat) (H' : Hp), Same H H' → H l = none → H' l = some (.lst (ws.map nV)) → ws.length ≤ 60 → (ws = [] ∨ Pl M ws) → Q (.ref l) H'
noncomputable def hasM (M : List (Option Nat)) (i : Nat) : Bool := match M[i]? with
 | some (some _) => true
 | _ => false
theorem hasM_iff {M : List (Option Nat)} {i : Nat} : hasM M i = true ↔ ∃ j, M[i]? = some (some j) := by
 unfold hasM
 split
 ·rename_i j h; exact ⟨fun _ => ⟨j, h⟩, fun _ => rfl⟩
 ·rename_i h; exact ⟨fun z => absurd z (by decide), fun ⟨j, e⟩ => absurd e (h j)⟩
section
variable {P : Program} {w : World} {K : PySem.W.Frag} {mg : Str → Option Value} {base : Heap} {t : Adr}
theorem sc_l_walk : FnScope ["_law_mates", "_law_nums", "_law_spots", "_law_row", "_law_pick", "_law_side", "_law_ways", "_law_start", "_law_stop"] ["_law_mates", "_law_nums"] (defScope s_l_walk) := ⟨rfl, rfl, rfl, by decide +kernel, rfl, by decide +kernel, by decide +kernel⟩
theorem ok_l_walk (T : Txt w K mg t) : FnOk P w K mg base (CXr P w) 1 t.f_l_walk t.d_l_walk ["_law_mates", "_law_nums"] sp_walk := by
  refine T.p_l_walk.F.okR sc_l_walk (fun vs H Q E h => ?_) (fun cdv A outer s H vs Q E hr h => ?_)
  · obtain ⟨m, a, M, xs, rfl, _⟩ := h
    rfl
  · obtain ⟨m, a, M, xs, rfl, hm, ha, hx0, hx60, hx, h42, ⟨n, hn⟩, inv, k⟩ := h
    refine ⟨_, (pss_cons (ps_setCompG (ts := ["_law_p"]) (fv := [("_law_mates", 0)]) (i := 2) ⟨rfl, by decide +kernel, by decide +kernel, blkFree (by rfl), ⟨⟨rfl, rfl, Or.inl rfl⟩, trivial⟩⟩ rfl sc_l_walk.nd rfl rfl (by rfl) (pi_range1 rfl T.n_range (pa_cons (pe_callB call_len_seq (by rfl) T.n_len PySem.boot_len (pa_cons (pv 0) pa_nil)) pa_nil)) (fun _ _ _ _ => (pg_name (i := 0) (show List.Nodup (["_law_p", "_law_mates"] : List Str) from by decide +kernel) rfl (Or.inl rfl) (Or.inr rfl))) (fun _ _ _ _ => (pts_one (pt_cmpR op_notN (pe_ix (ix_listK K) (pv 1) (pv 0) (fun _ _ => rfl)) pe_non (nomark _)))) (fun _ _ _ => rfl) (fun _ _ _ _ _ _ => pb_emit (pv 0)))
      (pss_cons (ps_if (pt_cmpR op_eq (pe_callB call_len_seq (by rfl) T.n_len PySem.boot_len (pa_cons (pv 2) pa_nil)) pe_int (nomark _)) (pss_one (ps_ret (pe_lst pa_nil))) pss_nil)
      (pss_cons (ps_set (i := 3) sc_l_walk.nd rfl (Or.inl rfl) (pe_lst (pa_cons (pe_ix ix_list (pv 2) (pe_op op_mod (pe_ix ix_list (pv 1) pe_int (fun _ _ => rfl)) (pe_callB call_len_seq (by rfl) T.n_len PySem.boot_len (pa_cons (pv 2) pa_nil))) (fun _ _ => rfl)) pa_nil)))
      (pss_cons (ps_for PassesOwn.never rfl (pi_list (pe_slice sl_list (pv 1) (po_some pe_int) po_none)) (pg_name (i := 4) sc_l_walk.nd rfl (Or.inl rfl)) (pss_cons (ps_set (i := 5) sc_l_walk.nd rfl (Or.inr rfl) (pe_ix ix_list (pv 0) (pe_ix ix_list (pv 3) (pe_un un_neg pe_int) (fun _ _ => rfl)) (fun _ _ => rfl)))
      (pss_cons (ps_setCompG (ts := ["_law_k"]) (fv := [("_law_side", 5)]) (i := 6) ⟨rfl, by decide +kernel, by decide +kernel, blkFree (by rfl), ⟨⟨rfl, rfl, Or.inl rfl⟩, trivial⟩⟩ rfl sc_l_walk.nd rfl rfl (by rfl) (pi_range1 rfl T.n_range (pa_cons pe_int pa_nil)) (fun _ _ _ _ => (pg_name (i := 0) (show List.Nodup (["_law_k", "_law_side"] : List Str) from by decide +kernel) rfl (Or.inl rfl) (Or.inr rfl))) (fun _ _ _ _ => pts_nil) (fun _ _ _ => rfl) (fun _ _ _ _ _ _ => pb_emit (pe_op op_add (pe_op op_sub (pv 1) (pe_op op_mod (pv 1) pe_int)) (pe_op op_mod (pe_op op_add (pe_op op_add (pv 1) pe_int) (pv 0)) pe_int))))
      (pss_cons (ps_setCompG (ts := ["_law_p"]) (fv := [("_law_mates", 0)]) (i := 6) ⟨rfl, by decide +kernel, by decide +kernel, blkFree (by rfl), ⟨⟨rfl, rfl, Or.inl rfl⟩, trivial⟩⟩ rfl sc_l_walk.nd rfl rfl (by rfl) (pi_list (pv 6)) (fun _ _ _ _ => (pg_name (i := 0) (show List.Nodup (["_law_p", "_law_mates"] : List Str) from by decide +kernel) rfl (Or.inl rfl) (Or.inr rfl))) (fun _ _ _ _ => (pts_one (pt_cmpR op_notN (pe_ix (ix_listK K) (pv 1) (pv 0) (fun _ _ => rfl)) pe_non (nomark _)))) (fun _ _ _ => rfl) (fun _ _ _ _ _ _ => pb_emit (pv 0)))
      (pss_cons (ps_if (pt_cmpR op_eq (pe_callB call_len_seq (by rfl) T.n_len PySem.boot_len (pa_cons (pv 6) pa_nil)) pe_int (nomark _)) (pss_one ps_break) pss_nil)
      (pss_one (ps_expr (pe_bm PySem.F.plainAttrs_list PySem.F.slot_list_append PySem.F.type_list_append mt_append (pv 3) (pa_cons (pe_ix ix_list (pv 6) (pe_op op_mod (pv 4) (pe_callB call_len_seq (by rfl) T.n_len PySem.boot_len (pa_cons (pv 6) pa_nil))) (fun _ _ => rfl)) pa_nil)))))))))
      (pss_cons (ps_for PassesOwn.never rfl (pi_range1 rfl T.n_range (pa_cons (pe_callB call_len_seq (by rfl) T.n_len PySem.boot_len (pa_cons (pv 3) pa_nil)) pa_nil)) (pg_name (i := 7) sc_l_walk.nd rfl (Or.inl rfl)) (pss_one (ps_for PassesOwn.never rfl (pi_revR rfl T.n_reversed rfl T.n_range (pa_cons (pe_op op_add (pv 7) pe_int) (pa_cons (pe_callB call_len_seq (by rfl) T.n_len PySem.boot_len (pa_cons (pv 3) pa_nil)) pa_nil))) (pg_name (i := 8) sc_l_walk.nd rfl (Or.inl rfl)) (pss_one (ps_if (pt_cmpR op_eq (pe_ix ix_list (pv 3) (pv 7) (fun _ _ => rfl)) (pe_ix ix_list (pv 3) (pv 8) (fun _ _ => rfl)) (nomark _)) (pss_one (ps_ret (pe_slice sl_list (pv 3) (po_some (pv 7)) (po_some (pv 8))))) pss_nil)))))
      (pss_one (ps_ret (pe_lst pa_nil)))))))), ?_⟩
    refine seq_cut fun nxC hnxC => ?_
    refine ⟨_, rfl, m, _, rfl, .inl (SqL.of hm), _, rfl, by omega, by rw [List.length_map]; omega, fun D hD => ?_⟩
    have eL : (((M.map mV).length : Nat) : Int).toNat = M.length := by simp
    rw [eL]
    refine loop_range (fun i σ H1 => ∃ v, σ = [v, some (.ref m)] ∧ Same H H1 ∧ H1 D = some (.lst (((List.range i).filter (hasM M)).map nV))) ⟨none, rfl, Same.new hD, upd_same⟩ ?_ ?_
    · rintro i σ H1 hlt ⟨v, rfl, sm, h1⟩
      dsimp only [gName]
      rw [Int.zero_add]
      obtain ⟨y, hy⟩ : ∃ y, M[i]? = some y := ⟨_, List.getElem?_eq_getElem hlt⟩
      have lt : (((List.range i).filter (hasM M)).map nV).length < sizeLine := by
        rw [List.length_map]
        have := List.length_filter_le (hasM M) (List.range i)
        rw [List.length_range] at this
        exact small1000 (by omega)
      refine ⟨_, rfl, _, rfl, m, _, _, _, rfl, rfl, SqL.of (sm _ _ hm), map_at hy, rfl, _, rfl, ?_⟩
      cases y with
      | none =>
        refine iteF ⟨_, rfl, sm, ?_⟩
        rw [h1, List.range_succ, List.filter_append]
        have : hasM M i = false := by rw [Bool.eq_false_iff]; intro z; obtain ⟨j, e⟩ := hasM_iff.mp z; rw [hy] at e; cases e
        simp [this]
      | some j =>
        refine iteT ⟨_, rfl, _, h1, lt, _, rfl, Same.add sm hD, ?_⟩
        rw [upd_same, List.range_succ, List.filter_append]
        have : hasM M i = true := hasM_iff.mpr ⟨j, hy⟩
        simp [this]
        rfl
    rintro σ H1 ⟨v, rfl, s1, h1⟩
    refine hnxC _ _ ?_
    have hsp : ∀ p ∈ (List.range M.length).filter (hasM M), ∃ j, M[p]? = some (some j) := fun p hp => hasM_iff.mp (List.mem_filter.mp hp).2
    generalize (List.range M.length).filter (hasM M) = sps at h1 hsp
    refine seq_cut fun nxC hnxC => ?_
    refine ⟨_, rfl, D, _, rfl, .inl (SqL.of h1), rfl, _, rfl, ?_⟩
    refine ite2 (fun c => ?_) (fun c => ?_)
    · exact ⟨Nat.zero_le _, fun l hl => k l [] _ (Same.add s1 (s1.free hl)) (s1.free hl) upd_same (Nat.zero_le _) (.inl rfl)⟩
    have hne : 0 < sps.length := by
      cases sps with
      | nil => exact absurd rfl c
      | cons _ _ => simp
    dsimp only [tNext]
    refine hnxC _ _ ?_
    obtain ⟨x0, xr, rfl⟩ : ∃ x0 xr, xs = x0 :: xr := by
      cases xs with
      | nil => exact absurd rfl hx0
      | cons a b => exact ⟨a, b, rfl⟩
    have k0 := Int.emod_nonneg x0 (show (sps.length : Int) ≠ 0 by omega)
    have k1 := Int.emod_lt_of_pos x0 (show (0 : Int) < sps.length by omega)
    obtain ⟨kk, hkk⟩ : ∃ kk : Nat, x0 % (sps.length : Int) = kk := ⟨_, (Int.toNat_of_nonneg k0).symm⟩
    have hkl : kk < sps.length := by omega
    refine seq_cut fun nxC hnxC => ?_
    refine ⟨_, rfl, _, rfl, a, _, _, _, rfl, rfl, SqL.of (s1 _ _ ha), (show atI _ ((0 : Nat) : Int) = _ from atI_nat rfl), _, rfl, D, _, rfl, .inl (SqL.of h1), _, _, rfl, rfl, (by rw [List.length_map]; omega), D, _, _, _, rfl, rfl, SqL.of h1, (by rw [List.length_map, hkk]; exact map_at (List.getElem?_eq_getElem hkl)), (by show 1 ≤ sizeLine; decide), fun r hr1 => ?_⟩
    refine hnxC _ _ ?_
    have hr0 : H r = none := s1.free hr1
    obtain ⟨j0, hj0⟩ := hsp _ (List.getElem_mem hkl)
    have ch0 : Ch M [sps[kk]] := Ch.one hj0
    generalize sps[kk] = p0 at ch0
    have s2 : Same H (upd H1 r (.lst [nV p0])) := Same.add s1 hr0
    have h2 : (upd H1 r (.lst [nV p0])) r = some (.lst ([p0].map nV)) := upd_same
    generalize upd H1 r (.lst [nV p0]) = H2 at s2 h2
    dsimp only [gName]
    show tSeq (tFor _ _ _) _ _ _ _
    refine seq_post (fun σ H3 => ∃ (row : List Nat) (v4 v5 v6 : Option V), σ = [some (.ref m), some (.ref a), some (.ref D), some (.ref r), v4, v5, v6, none, none] ∧ Same H H3 ∧ H3 r = some (.lst (row.map nV)) ∧ Ch M row ∧ row.length ≤ 60) (fun nx hnx => ?_) ?_
    · refine ⟨_, rfl, _, rfl, a, _, rfl, SqL.of (s2 _ _ ha), fun q hq => ?_⟩
      rw [cut_tail]
      have hrq : r ≠ q := ne_of_none h2 hq
      have hq0 : H q = none := s2.free hq
      refine ⟨q, rfl, ⟨_, SqL.of upd_same⟩, ?_⟩
      rw [List.length_cons] at hx60
      refine for_list (xs := xr.map V.int) (fun i σ H3 => ∃ (row : List Nat) (v4 v5 v6 : Option V), σ = [some (.ref m), some (.ref a), some (.ref D), some (.ref r), v4, v5, v6, none, none] ∧ Same H H3 ∧ H3 q = some (.lst (xr.map V.int)) ∧ H3 r = some (.lst (row.map nV)) ∧ Ch M row ∧ row ≠ [] ∧ row.length ≤ i + 1)
        ⟨[p0], none, none, none, rfl, Same.add s2 hq0, upd_same, by rw [upd_ne hrq]; exact h2, ch0, by simp, by simp⟩ ?_ ?_ ?_
      · rintro i σ H3 _ ⟨row, v4, v5, v6, rfl, s3, h3, _⟩
        exact SqL.of h3
      · rintro i x σ H3 hxi ⟨row, v4, v5, v6, rfl, s3, h3, h4, ch, rne, rlen⟩
        have hi : i < xr.length := by have := (List.getElem?_eq_some_iff.mp hxi).1; rw [List.length_map] at this; exact this
        obtain ⟨pick, hpk, rfl⟩ : ∃ pick, xr[i]? = some pick ∧ x = V.int pick := by
          rw [List.getElem?_map, List.getElem?_eq_getElem hi] at hxi
          exact ⟨_, List.getElem?_eq_getElem hi, (Option.some.inj hxi).symm⟩
        obtain ⟨la, hla⟩ : ∃ la, row.getLast? = some la := by
          cases e : row.getLast? with
          | none => exact absurd (List.getLast?_eq_none_iff.mp e) rne
          | some z => exact ⟨z, rfl⟩
        have hlm : la ∈ row := List.mem_of_getLast? hla
        obtain ⟨sd, hsd⟩ := ch.has la hlm
        have hsdM : sd < M.length := (List.getElem?_eq_some_iff.mp (inv la sd hsd).1).1
        have elast : atI (row.map nV) (-1) = some (nV la) := by
          unfold atI ixN
          have hl : 0 < row.length := by cases row with | nil => exact absurd rfl rne | cons _ _ => simp
          rw [if_neg (by decide), if_pos (by rw [List.length_map]; omega)]
          show ((row.map nV)[((-1 : Int) + (row.map nV).length).toNat]?) = _
          rw [List.length_map, show ((-1 : Int) + (row.length : Int)).toNat = row.length - 1 by omega, List.getElem?_map, ← List.getLast?_eq_getElem?, hla]
          rfl
        dsimp only [gName]
        refine seq_cut fun nxC hnxC => ?_
        refine ⟨_, rfl, _, rfl, _, rfl, r, _, _, _, rfl, rfl, SqL.of h4, elast, m, _, _, _, rfl, rfl, SqL.of (s3 _ _ hm), map_at hsd, ?_⟩
        refine hnxC _ _ ?_
        refine seq_cut fun nxC hnxC => ?_
        refine ⟨2, rfl, by decide, by decide, fun W hW => ?_⟩
        have hW0 : H W = none := s3.free hW
        have hWr : r ≠ W := ne_of_none h4 hW
        have hWq : q ≠ W := ne_of_none h3 hW
        refine loop_range (n := 2) (fun c σ H5 => ∃ v, σ = [v, some (nV sd)] ∧ Same H3 H5 ∧ H5 W = some (.lst (([side sd 1, side sd 2].take c).map nV))) ⟨none, rfl, Same.new hW, upd_same⟩ ?_ ?_
        · rintro c σ H5 hc ⟨v, rfl, s5, h5⟩
          dsimp only [gName, tYes]
          rw [if_pos rfl]
          refine ⟨_, rfl, _, rfl, _, _, rfl, rfl, (by show (0 : Int) < 3; decide), _, _, rfl, rfl, _, rfl, _, _, rfl, rfl, _, rfl, _, _, rfl, rfl, _, _, rfl, rfl, (by show (0 : Int) < 3; decide), _, _, rfl, rfl, _, h5, ?_, _, rfl, Same.add s5 hW, ?_⟩
          · rw [List.length_map, List.length_take]; exact small1000 (by omega)
          · rw [upd_same]
            have hc : c = 0 ∨ c = 1 := by omega
            have e : ∀ k : Nat, (sd : Int) - (sd : Int) % 3 + ((sd : Int) + 1 + (0 + (k : Int))) % 3 = ((side sd (k + 1) : Nat) : Int) := fun k => by unfold side; omega
            rcases hc with rfl | rfl
            · show some (HO.lst ([] ++ [V.int ((sd : Int) - (sd : Int) % 3 + ((sd : Int) + 1 + (0 + ((0 : Nat) : Int))) % 3)])) = _
              rw [e 0]; rfl
            · show some (HO.lst ([nV (side sd 1)] ++ [V.int ((sd : Int) - (sd : Int) % 3 + ((sd : Int) + 1 + (0 + ((1 : Nat) : Int))) % 3)])) = _
              rw [e 1]; rfl
        rintro σ H5 ⟨v, rfl, s5, h5⟩
        refine hnxC _ _ ?_
        have h5 : H5 W = some (.lst ([side sd 1, side sd 2].map nV)) := h5
        have sl : ∀ c, side sd c < M.length := fun c => by rw [hn]; exact side_lt (by omega)
        refine seq_cut fun nxC hnxC => ?_
        refine ⟨_, rfl, W, rfl, ⟨_, SqL.of h5⟩, fun W2 hW2 => ?_⟩
        have s35 := s3.trans s5
        refine loop_list (xs := [side sd 1, side sd 2].map nV) (fun c σ H6 => ∃ v, σ = [v, some (.ref m)] ∧ Same H5 H6 ∧ H6 W2 = some (.lst ((([side sd 1, side sd 2].take c).filter (hasM M)).map nV))) ⟨none, rfl, Same.new hW2, upd_same⟩ ?_ ?_ ?_
        · rintro c σ H6 _ ⟨v, rfl, s6, h6⟩
          exact SqL.of (s6 _ _ h5)
        · rintro c x σ H6 hxc ⟨v, rfl, s6, h6⟩
          obtain ⟨p, hp, rfl⟩ := map_some hxc
          have hpM : p < M.length := by
            have := List.mem_of_getElem? hp
            rcases List.mem_cons.mp this with rfl | z
            · exact sl 1
            · rw [List.mem_singleton.mp z]; exact sl 2
          obtain ⟨y, hy⟩ : ∃ y, M[p]? = some y := ⟨_, List.getElem?_eq_getElem hpM⟩
          dsimp only [gName]
          refine ⟨_, rfl, _, rfl, m, _, _, _, rfl, rfl, SqL.of (s6 _ _ (s35 _ _ hm)), map_at hy, rfl, _, rfl, ?_⟩
          cases y with
          | none =>
            refine iteF ⟨_, rfl, s6, ?_⟩
            have : hasM M p = false := by rw [Bool.eq_false_iff]; intro z; obtain ⟨j, e⟩ := hasM_iff.mp z; rw [hy] at e; cases e
            rw [h6, flt_step hp, if_neg (by rw [this]; decide)]
          | some jj =>
            refine iteT ⟨_, rfl, _, h6, ?_, _, rfl, Same.add s6 hW2, ?_⟩
            · rw [List.length_map]
              have h1 := List.length_filter_le (hasM M) ([side sd 1, side sd 2].take c)
              have h2 : ([side sd 1, side sd 2].take c).length ≤ 2 := by rw [List.length_take]; exact Nat.min_le_right _ _
              exact small1000 (by omega)
            · rw [upd_same, flt_step hp, if_pos (hasM_iff.mpr ⟨jj, hy⟩), List.map_append]
              rfl
        rintro σ H6 ⟨v, rfl, s6, h6⟩
        refine hnxC _ _ ?_
        have h6 : H6 W2 = some (.lst (([side sd 1, side sd 2].filter (hasM M)).map nV)) := h6
        have hws : ∀ p ∈ [side sd 1, side sd 2].filter (hasM M), (∃ j, M[p]? = some (some j)) ∧ p / 3 = sd / 3 ∧ p ≠ sd := fun p hp => by
          obtain ⟨z1, z2⟩ := List.mem_filter.mp hp
          refine ⟨hasM_iff.mp z2, ?_, ?_⟩
          · rcases List.mem_cons.mp z1 with rfl | z
            · exact side_div _ _
            · rw [List.mem_singleton.mp z]; exact side_div _ _
          · rcases List.mem_cons.mp z1 with rfl | z
            · unfold side; omega
            · rw [List.mem_singleton.mp z]; unfold side; omega
        generalize [side sd 1, side sd 2].filter (hasM M) = wys at h6 hws
        have s36 := s5.trans s6
        have h4' := s36 _ _ h4
        have h3' := s36 _ _ h3
        have s06 := s3.trans s36
        refine seq_cut fun nxC hnxC => ?_
        refine ⟨_, rfl, W2, _, rfl, .inl (SqL.of h6), rfl, _, rfl, ?_⟩
        refine ite2 (fun c => ?_) (fun c => ?_)
        · exact hnx _ _ ⟨row, _, _, _, rfl, s06, h4', ch, by omega⟩
        have hwp : 0 < wys.length := by
          cases wys with
          | nil => exact absurd rfl c
          | cons _ _ => simp
        dsimp only [tNext]
        refine hnxC _ _ ?_
        have c0 := Int.emod_nonneg pick (show (wys.length : Int) ≠ 0 by omega)
        have c1 := Int.emod_lt_of_pos pick (show (0 : Int) < wys.length by omega)
        obtain ⟨cc, hcc⟩ : ∃ cc : Nat, pick % (wys.length : Int) = cc := ⟨_, (Int.toNat_of_nonneg c0).symm⟩
        have hcl : cc < wys.length := by omega
        obtain ⟨w1, w2, w3⟩ := hws _ (List.getElem_mem hcl)
        have hget := List.getElem?_eq_getElem hcl
        refine ⟨_, rfl, .inl ⟨rfl, _, SqL.of h4'⟩, _, rfl, _, rfl, _, rfl, W2, _, rfl, .inl (SqL.of h6), _, _, rfl, rfl, (by rw [List.length_map]; omega), W2, _, _, _, rfl, rfl, SqL.of h6, (by rw [List.length_map, hcc]; exact map_at hget), r, _, _, rfl, rfl, h4', (by rw [List.length_map]; exact small1000 (by omega)), ?_⟩
        refine ⟨row ++ [wys[cc]], _, _, _, rfl, Same.add s06 hr0, ?_, ?_, ch.snoc hla hsd w2 w3 w1, by simp, by rw [List.length_append, List.length_singleton]; omega⟩
        · rw [upd_ne (Ne.symm hrq)]; exact h3'
        · rw [upd_same, List.map_append]; rfl
      · rintro σ H3 ⟨row, v4, v5, v6, rfl, s3, h3, h4, ch, rne, rlen⟩
        rw [List.length_map] at rlen
        exact hnx _ _ ⟨row, _, _, _, rfl, s3, h4, ch, by omega⟩
    rintro σ H3 ⟨row, v4, v5, v6, rfl, s3, h3, ch, rlen⟩
    show tSeq (tFor _ _ _) _ _ _ _
    refine seq_post (fun σ H4 => H4 = H3) (fun nx hnx => ?_) ?_
    · refine ⟨_, rfl, r, _, rfl, .inl (SqL.of h3), _, rfl, by omega, by rw [List.length_map]; omega, ?_⟩
      have eR : (((row.map nV).length : Nat) : Int).toNat = row.length := by simp
      rw [eR]
      refine for_range (n := row.length) (fun i σ H4 => ∃ v7 v8, σ = [some (.ref m), some (.ref a), some (.ref D), some (.ref r), v4, v5, v6, v7, v8] ∧ H4 = H3) ⟨_, _, rfl, rfl⟩ ?_ ?_
      · rintro i σ H4 hi ⟨v7, v8, rfl, rfl⟩
        dsimp only [gName]
        rw [Int.zero_add]
        refine ⟨_, rfl, _, _, rfl, rfl, _, rfl, r, _, rfl, .inl (SqL.of h3), ((i + 1 : Nat) : Int), row.length - (i + 1), ?_, by omega, by omega, ?_⟩
        · rw [List.length_map]
          show [V.int ((i : Int) + 1), V.int (row.length : Int)] = _
          rw [show ((i : Int) + 1) = ((i + 1 : Nat) : Int) by omega, show (row.length : Int) = ((i + 1 : Nat) : Int) + ((row.length - (i + 1) : Nat) : Int) by omega]
        refine for_range3 (n := row.length - (i + 1)) (fun c σ H5 => ∃ v8, σ = [some (.ref m), some (.ref a), some (.ref D), some (.ref r), v4, v5, v6, some (.int i), v8] ∧ H5 = H4) ⟨_, rfl, rfl⟩ ?_ ?_
        · rintro c σ H4 hc ⟨v8, rfl, rfl⟩
          obtain ⟨e, he, hie, hel⟩ : ∃ e : Nat, ((i + 1 : Nat) : Int) + ((row.length - (i + 1) : Nat) : Int) - 1 + (c : Int) * -1 = (e : Int) ∧ i < e ∧ e < row.length := ⟨row.length - 1 - c, by omega, by omega, by omega⟩
          dsimp only [gName]
          rw [he]
          have gi := List.getElem?_eq_getElem hi
          have ge := List.getElem?_eq_getElem hel
          refine ⟨_, rfl, _, rfl, r, _, _, _, rfl, rfl, SqL.of h3, map_at gi, _, rfl, _, rfl, r, _, _, _, rfl, rfl, SqL.of h3, map_at ge, rfl, _, rfl, ?_⟩
          refine ite2 (fun z => ?_) (fun z => ?_)
          · have z : nV row[i] = nV row[e] := of_decide_eq_true z
            have z : row[i] = row[e] := by unfold nV at z; injection z with z; omega
            refine ⟨_, rfl, _, rfl, _, rfl, _, rfl, _, rfl, r, _, rfl, SqL.of h3, fun l hl => ?_⟩
            have ec : cutV (row.map nV) (some (i : Int)) (some (e : Int)) = ((row.drop i).take (e - i)).map nV := by
              unfold cutV
              rw [HT.sIx_nat, HT.sIx_nat, List.length_map, Nat.min_eq_left (by omega), Nat.min_eq_left (by omega), List.map_take, List.map_drop]
            rw [ec]
            refine k l _ _ (Same.add s3 (s3.free hl)) (s3.free hl) upd_same ?_ (.inr (ch.cut hie gi (by rw [ge, z])))
            rw [List.length_take, List.length_drop]; omega
          · exact ⟨_, rfl, rfl⟩
        · rintro σ H4 ⟨v8, rfl, rfl⟩
          exact ⟨_, _, rfl, rfl⟩
      · rintro σ H4 ⟨v7, v8, rfl, rfl⟩
        exact hnx _ _ rfl
    · rintro σ H4 rfl
      exact ⟨Nat.zero_le _, fun l hl => k l [] _ (Same.add s3 (s3.free hl)) (s3.free hl) upd_same (Nat.zero_le _) (.inl rfl)⟩
end
end KT
set_option maxHeartbeats 4000000
namespace KT
open PySem L2
noncomputable def turnI (ws : List Int) (by' : Int) : List Int := rot ws (by' % ws.length).toNat
noncomputable def sp_turned : Sp := fun vs H Q _ => ∃ (a : Addr) (ws : List Int) (b : Int), vs = [.ref a, .int b] ∧ H a = some (.lst (ws.map V.int)) ∧ ws.length ≤ 100000 ∧ ∀ (l : Addr) (H' : Hp), Same H H' → H l = none → H' l = some (.lst ((turnI ws b).map V.int)) → Q (.ref l) H'
noncomputable def sp_crossable (C : Addr) : Sp := fun vs H Q _ => ∃ (p : Addr) (M : List (Option Nat)) (ns : List Int) (x : Int), vs = [.ref p, .int x] ∧ TentAt C H p M ns ∧ M.length = ns.length ∧ Q (.bl (crossB M x)) H
noncomputable def sp_follows (C : Addr) : Sp := fun vs H Q _ => ∃ (p : Addr) (M : List (Option Nat)) (ns : List Int) (a x : Int), vs = [.ref p, .int a, .int x] ∧ TentAt C H p M ns ∧ M.length = ns.length ∧ crossB M a = true ∧ Q (.bl (followB M a x)) H
noncomputable def sp_plain (C : Addr) : Sp := fun vs H Q _ => ∃ (p a : Addr) (M : List (Option Nat)) (ns ws : List Int), vs = [.ref p, .ref a] ∧ TentAt C H p M ns ∧ M.length = ns.length ∧ H a = some (.lst (ws.map V.int)) ∧ ws.length ≤ 100000 ∧ ∀ H', Same H H' → Q (.bl (plainB M ws)) H'
noncomputable def sp_look_thread (C EN : Addr) : Sp := fun vs H Q E => ∃ (p a : Addr) (M : List (Option Nat)) (ns ws : List Int), vs = [.ref p, .ref a] ∧ TentAt C H p M ns ∧ M.length = ns.length ∧ H a = some (.lst (ws.map V.int)) ∧ ws.length ≤ 100000 ∧ ∀ H', Same H H' → (plainB M ws = true → Q .non H') ∧ (plainB M ws = false → E (.ref EN) none H')
theorem small_word {n : Nat} (h : n ≤ 100000) : n ≤ sizeLine := by rw [sizeLine_eq]; omega
theorem cut_from {ws : List Int} {s : Nat} (h : s ≤ ws.length) : cutV (ws.map V.int) (some (s : Int)) none = (ws.drop s).map V.int := by
 unfold cutV
 rw [HT.sIx_nat, HT.sIx_none, List.length_map, Nat.min_eq_left h, List.map_drop, List.take_of_length_le]
 rw [List.length_drop, List.length_map]
 exact Nat.le_refl _
theorem cut_to {ws : List Int} {s : Nat} (h : s ≤ ws.length) : cutV (ws.map V.int) none (some (s : Int)) = (ws.take s).map V.int := by
 unfold cutV
 rw [HT.sIx_none, HT.sIx_nat, List.length_map, Nat.min_eq_left h, List.drop_zero, Nat.sub_zero, List.map_take]
section
variable {P : Program} {w : World} {K : PySem.W.Frag} {mg : Str → Option Value} {base : Heap} {t : Adr}
theorem sc_l_thread : FnScope ["_law_script", "_law_at", "_law_mates", "_law_cell_here"] ["_law_script", "_law_at", "_law_mates"] (defScope s_l_thread) := ⟨rfl, rfl, rfl, by decide +kernel, rfl, by decide +kernel, by decide +kernel⟩
theorem ok_l_thread (T : Txt w K mg t) : FnOk P w K mg base (CXr P w) 2 t.f_l_thread t.d_l_thread ["_law_script", "_law_at", "_law_mates"] (sp_thread K) := by
 refine T.p_l_thread.F.okR sc_l_thread (fun vs H Q E h => ?_) (fun cdv A outer s H vs Q E hr h => ?_)
 ·obtain ⟨a, m, sc, i, M, rfl, _⟩ := h
  rfl
 ·obtain ⟨a, m, sc, i, M, rfl, hS, hl, i0, i1, hm, h42, hn, inv, k⟩ := h
  refine ⟨_, (pss_cons (ps_set (i := 3) sc_l_thread.nd rfl (Or.inl rfl) (pe_call (ok_l_cell T) (hr.mono (by decide)) rfl T.p_l_cell.g T.p_l_cell.F.kp T.p_l_cell.b .nil passR (pa_cons (pv 0) (pa_cons (pv 1) pa_nil))))
   (pss_one (ps_ret (pe_call (ok_l_walk T) (hr.mono (by decide)) rfl T.p_l_walk.g T.p_l_walk.F.kp T.p_l_walk.b .nil passR (pa_cons (pv 2) (pa_cons (pe_call (ok_l_numbers T) (hr.mono (by decide)) rfl T.p_l_numbers.g T.p_l_numbers.F.kp T.p_l_numbers.b .nil passR (pa_cons (pe_op op_fdiv (pv 3) pe_int) (pa_cons (pe_op op_add pe_int (pe_op op_mod (pv 3) pe_int)) pa_nil))) pa_nil)))))), ?_⟩
  refine ⟨_, rfl, _, rfl, a, sc, i, rfl, hS, hl, i0, by omega, ?_⟩
  dsimp only [gName]
  generalize cell sc i = c
  have m0 : 0 ≤ c % 50 := Int.emod_nonneg _ (by decide)
  have m1 : c % 50 < 50 := Int.emod_lt_of_pos _ (by decide)
  have e : (4 + c % 50 : Int) = ((4 + (c % 50).toNat : Nat) : Int) := by omega
  refine ⟨_, rfl, _, rfl, _, _, rfl, rfl, ⟨by decide, by decide⟩, _, rfl, _, _, rfl, rfl, (by show (0 : Int) < 50; decide), _, _, rfl, rfl, _, 4 + (c % 50).toNat, (by rw [← e]; rfl), by omega, fun p xs H1 s1 hp h1 hxl hx => ?_⟩
  refine ⟨m, p, M, xs, rfl, s1 _ _ hm, h1, fun z => by rw [z] at hxl; simp at hxl; omega, by omega, hx, h42, hn, inv, fun l ws H2 s2 hl2 h2 hw hpl => k l ws H2 (s1.trans s2) (s1.free hl2) h2 hw hpl⟩
theorem sc_turned : FnScope ["word", "by", "start"] ["word", "by"] (defScope s_turned) := ⟨rfl, rfl, rfl, by decide +kernel, rfl, by decide +kernel, by decide +kernel⟩
theorem ok_turned (T : Txt w K mg t) : FnOk P w K mg base (CXr P w) 1 t.f_turned t.d_turned ["word", "by"] sp_turned := by
 refine T.p_turned.F.okR sc_turned (fun vs H Q E h => ?_) (fun cdv A outer s H vs Q E hr h => ?_)
 ·obtain ⟨a, ws, b, rfl, _⟩ := h
  rfl
 ·obtain ⟨a, ws, b, rfl, ha, hl, k⟩ := h
  refine ⟨_, (pss_cons (ps_if (pt_not (pt_truth (pv 0) (fun _ => rfl))) (pss_one (ps_ret (pe_lst pa_nil))) pss_nil)
   (pss_cons (ps_set (i := 2) sc_turned.nd rfl (Or.inl rfl) (pe_op op_mod (pv 1) (pe_callB call_len_seq (by rfl) T.n_len PySem.boot_len (pa_cons (pv 0) pa_nil))))
   (pss_one (ps_ret (pe_op op_cat (pe_slice sl_list (pv 0) (po_some (pv 2)) po_none) (pe_slice sl_list (pv 0) po_none (po_some (pv 2)))))))), ?_⟩
  refine seq_cut fun nxC hnxC => ?_
  refine ⟨_, rfl, _, .inl ⟨_, SqL.of ha, rfl⟩, ?_⟩
  by_cases hne : ws = []
  ·subst hne
   exact iteT ⟨Nat.zero_le _, fun l hl' => k l _ (Same.new hl') hl' (by rw [upd_same]; unfold turnI rot; simp)⟩
  ·have e : (!(ws.map V.int).isEmpty) = true := by cases ws with | nil => exact absurd rfl hne | cons _ _ => rfl
   have hp : 0 < ws.length := by cases ws with | nil => exact absurd rfl hne | cons _ _ => simp
   rw [e]
   refine iteF ?_
   dsimp only [tNext]
   refine hnxC _ _ ?_
   have k0 := Int.emod_nonneg b (show (ws.length : Int) ≠ 0 by omega)
   have k1 := Int.emod_lt_of_pos b (show (0 : Int) < ws.length by omega)
   obtain ⟨st, hst⟩ : ∃ st : Nat, b % (ws.length : Int) = st := ⟨_, (Int.toNat_of_nonneg k0).symm⟩
   have hsl : st ≤ ws.length := by omega
   have et : turnI ws b = ws.drop st ++ ws.take st := by unfold turnI rot; rw [hst, Int.toNat_natCast]
   refine ⟨_, rfl, _, rfl, a, _, rfl, .inl (SqL.of ha), _, _, rfl, rfl, (by rw [List.length_map]; omega), ?_⟩
   dsimp only [gName]
   rw [len_word, hst]
   refine ⟨_, rfl, _, rfl, _, rfl, a, _, rfl, SqL.of ha, fun l1 h1 => ?_⟩
   rw [cut_from hsl]
   have s1 : Same H (upd H l1 (.lst ((ws.drop st).map V.int))) := Same.new h1
   refine ⟨_, rfl, _, rfl, _, rfl, a, _, rfl, SqL.of (s1 _ _ ha), fun l2 h2 => ?_⟩
   rw [cut_to hsl]
   obtain ⟨hne2, h2'⟩ := upd_none h2
   refine ⟨l1, l2, _, _, rfl, rfl, by rw [upd_ne (Ne.symm hne2), upd_same], upd_same, ?_, fun l3 h3 => ?_⟩
   ·rw [List.length_map, List.length_map, List.length_drop, List.length_take]; exact small_word (by omega)
   ·have s3 := Same.add (o := .lst ((ws.take st).map V.int)) s1 h2'
    refine k l3 _ (Same.add s3 (s3.free h3)) (s3.free h3) ?_
    rw [upd_same, et, List.map_append]
theorem sc_crossable : FnScope ["tent", "place"] ["tent", "place"] (defScope s_crossable) := ⟨rfl, rfl, rfl, by decide +kernel, rfl, by decide +kernel, by decide +kernel⟩
theorem ok_crossable (T : Txt w K mg t) : FnOk P w K mg base (CXr P w) 4 t.f_crossable t.d_crossable ["tent", "place"] (sp_crossable t.C_Tent) := by
 refine T.p_crossable.F.okR sc_crossable (fun vs H Q E h => ?_) (fun cdv A outer s H vs Q E hr h => ?_)
 ·obtain ⟨p, M, ns, x, rfl, _⟩ := h
  rfl
 ·obtain ⟨p, M, ns, x, rfl, ta, hMl, k⟩ := h
  obtain ⟨dx, cl, na, sp, mt, o, f, b⟩ := id ta
  refine ⟨_, (pss_one (ps_ret (pe_and (pe_meth (pv 0) T.cl_Tent T.p_Tent_has_place.m (ok_Tent_has_place T) (hr.mono (by decide)) T.p_Tent_has_place.b .nil passR (pa_cons (pv 1) pa_nil)) (pe_one (pe_cmpR op_notN (pe_meth (pv 0) T.cl_Tent T.p_Tent_mate.m (ok_Tent_mate T) (hr.mono (by decide)) T.p_Tent_mate.b .nil passR (pa_cons (pv 1) pa_nil)) pe_non (nomark _)))))), ?_⟩
  refine ⟨_, rfl, p, dx, _, rfl, b.ins, fl_none _ _ _ _, _, rfl, p, M, ns, x, rfl, ta, _, rfl, ?_⟩
  by_cases c : 0 ≤ x ∧ x < (ns.length : Int)
  ·rw [decide_eq_true c]
   refine iteT ⟨_, rfl, p, dx, _, rfl, b.ins, fl_none _ _ _ _, _, rfl, p, M, ns, x, rfl, ta, hMl, fun i y e1 e2 => ?_, fun z => absurd c z⟩
   refine ⟨rfl, ?_⟩
   have : crossB M x = !decide (mV y = .non) := by
    unfold crossB
    rw [e1, Int.toNat_natCast, List.getD_eq_getElem?_getD, e2, decide_eq_true (show (0 : Int) ≤ i ∧ (i : Int) < M.length by omega)]
    cases y <;> rfl
   rw [this] at k
   exact k
  ·rw [decide_eq_false c]
   have : crossB M x = false := by unfold crossB; rw [decide_eq_false (by omega)]; rfl
   rw [this] at k
   exact iteF k
theorem sc_follows : FnScope ["tent", "ahead", "place", "entry"] ["tent", "ahead", "place"] (defScope s_follows) := ⟨rfl, rfl, rfl, by decide +kernel, rfl, by decide +kernel, by decide +kernel⟩
theorem ok_follows (T : Txt w K mg t) : FnOk P w K mg base (CXr P w) 4 t.f_follows t.d_follows ["tent", "ahead", "place"] (sp_follows t.C_Tent) := by
 refine T.p_follows.F.okR sc_follows (fun vs H Q E h => ?_) (fun cdv A outer s H vs Q E hr h => ?_)
 ·obtain ⟨p, M, ns, a, x, rfl, _⟩ := h
  rfl
 ·obtain ⟨p, M, ns, a, x, rfl, ta, hMl, hc, k⟩ := h
  obtain ⟨dx, cl, na, sp, mt, o, f, b⟩ := id ta
  refine ⟨_, (pss_cons (ps_set (i := 3) sc_follows.nd rfl (Or.inl rfl) (pe_meth (pv 0) T.cl_Tent T.p_Tent_mate.m (ok_Tent_mate T) (hr.mono (by decide)) T.p_Tent_mate.b .nil passR (pa_cons (pv 1) pa_nil)))
   (pss_one (ps_ret (pe_and (pe_cmpR op_eq (pe_call (ok_cloth_of T) (hr.mono (by decide)) rfl T.p_cloth_of.g T.p_cloth_of.F.kp T.p_cloth_of.b .nil passR (pa_cons (pv 2) pa_nil)) (pe_call (ok_cloth_of T) (hr.mono (by decide)) rfl T.p_cloth_of.g T.p_cloth_of.F.kp T.p_cloth_of.b .nil passR (pa_cons (pv 3) pa_nil)) (nomark _)) (pe_one (pe_cmpR op_ne (pv 2) (pv 3) (nomark _))))))), ?_⟩
  obtain ⟨hr1, hs1⟩ := Bool.and_eq_true_iff.mp hc
  have hr1 := of_decide_eq_true hr1
  obtain ⟨m, hm⟩ := Option.isSome_iff_exists.mp hs1
  have hal : a.toNat < M.length := by omega
  have ha : M[a.toNat]? = some (some m) := by rw [List.getD_eq_getElem?_getD, List.getElem?_eq_getElem hal] at hm; rw [List.getElem?_eq_getElem hal]; exact congrArg some hm
  have ef : followB M a x = (decide (x / 3 = (m : Int) / 3) && !decide (x = (m : Int))) := by unfold followB; rw [hm]
  rw [ef] at k
  refine ⟨_, rfl, p, dx, _, rfl, b.ins, fl_none _ _ _ _, _, rfl, p, M, ns, a, rfl, ta, hMl, fun i y e1 e2 => ?_, fun z => absurd (show 0 ≤ a ∧ a < (ns.length : Int) by omega) z⟩
  have : i = a.toNat := by omega
  subst this
  rw [ha] at e2
  cases e2
  refine ⟨_, rfl, _, rfl, _, rfl, _, rfl, rfl, _, rfl, ?_⟩
  have dI : ∀ u v : Int, decide (V.int u = V.int v) = decide (u = v) := fun u v => by
   by_cases z : u = v
   ·subst z; simp
   ·rw [decide_eq_false z, decide_eq_false (fun y => z (by injection y))]
  rw [dI]
  by_cases z : x / 3 = (m : Int) / 3
  ·rw [decide_eq_true z] at k ⊢
   refine iteT ⟨_, rfl, _, rfl, rfl, ?_⟩
   show Q (.bl (!decide (V.int x = V.int (m : Int)))) H
   rw [dI]
   exact k
  ·rw [decide_eq_false z] at k ⊢
   exact iteF k
theorem sc_plain : FnScope ["tent", "word"] ["tent", "word"] (defScope s_plain) := ⟨rfl, rfl, rfl, by decide +kernel, rfl, by decide +kernel, by decide +kernel⟩
theorem ok_plain (T : Txt w K mg t) : FnOk P w K mg base (CXr P w) 5 t.f_plain t.d_plain ["tent", "word"] (sp_plain t.C_Tent) := by
  refine T.p_plain.F.okR sc_plain (fun vs H Q E h => ?_) (fun cdv A outer s H vs Q E hr h => ?_)
  · obtain ⟨p, a, M, ns, ws, rfl, _⟩ := h
    rfl
  · obtain ⟨p, a, M, ns, ws, rfl, ta, hMl, ha, hl, k⟩ := h
    refine ⟨_, (pss_cons (ps_if (PW.pt (pw_or (pt_not (pt_truth (pv 1) (fun _ => rfl))) (pw_or1 (pt_not (pt_val (pe_callB (call_all rfl) (by rfl) T.n_all PyProof.Rows.boot_all (pa_cons (pe_compG (ts := ["place"]) (fv := [("tent", 0)]) ⟨rfl, by decide +kernel, by decide +kernel, blkFree (by rfl), ⟨⟨rfl, rfl, Or.inl rfl⟩, trivial⟩⟩ rfl (pi_list (pv 1)) (fun _ _ _ _ => (pg_name (i := 0) (show List.Nodup (["place", "tent"] : List Str) from by decide +kernel) rfl (Or.inl rfl) (Or.inr rfl))) (fun _ _ _ _ => pts_nil) (fun _ _ _ => rfl) (fun _ _ _ _ _ _ => pb_emit (pe_call (ok_crossable T) (hr.mono (by decide)) rfl T.p_crossable.g T.p_crossable.F.kp T.p_crossable.b .nil passR (pa_cons (pv 1) (pa_cons (pv 0) pa_nil))))) pa_nil))))))) (pss_one (ps_ret pe_bl)) pss_nil)
      (pss_one (ps_ret (pe_callB (call_all rfl) (by rfl) T.n_all PyProof.Rows.boot_all (pa_cons (pe_compG (ts := ["ahead", "place"]) (fv := [("tent", 0)]) ⟨rfl, by decide +kernel, by decide +kernel, blkFree (by rfl), ⟨⟨rfl, rfl, Or.inl rfl⟩, trivial⟩⟩ rfl (pi_zip rfl T.n_zip (pa_cons (pv 1) (pa_cons (pe_call (ok_turned T) (hr.mono (by decide)) rfl T.p_turned.g T.p_turned.F.kp T.p_turned.b .nil passR (pa_cons (pv 1) (pa_cons pe_int pa_nil))) pa_nil))) (fun _ _ _ _ => (pg_tupK (n := 2) K rfl (pgs_cons (pg_name (i := 0) (show List.Nodup (["ahead", "place", "tent"] : List Str) from by decide +kernel) rfl (Or.inl rfl) (Or.inr rfl)) (pgs_cons (pg_name (i := 1) (show List.Nodup (["ahead", "place", "tent"] : List Str) from by decide +kernel) rfl (Or.inl rfl) (Or.inr rfl)) pgs_nil)))) (fun _ _ _ _ => pts_nil) (fun _ _ _ => rfl) (fun _ _ _ _ _ _ => pb_emit (pe_call (ok_follows T) (hr.mono (by decide)) rfl T.p_follows.g T.p_follows.F.kp T.p_follows.b .nil passR (pa_cons (pv 2) (pa_cons (pv 0) (pa_cons (pv 1) pa_nil)))))) pa_nil))))), ?_⟩
    refine seq_cut fun nxC hnxC => ?_
    refine ⟨_, rfl, _, .inl ⟨_, SqL.of ha, rfl⟩, ?_⟩
    by_cases hne : ws = []
    · subst hne
      exact iteT (k _ (Same.refl _))
    · have e : (!(ws.map V.int).isEmpty) = true := by cases ws with | nil => exact absurd rfl hne | cons _ _ => rfl
      have e' : (!ws.isEmpty) = true := by cases ws with | nil => exact absurd rfl hne | cons _ _ => rfl
      have hp : 0 < ws.length := by cases ws with | nil => exact absurd rfl hne | cons _ _ => simp
      rw [e]
      refine iteF ?_
      refine ⟨_, rfl, a, rfl, ⟨_, SqL.of ha⟩, fun D hD => ?_⟩
      refine loop_list (xs := ws.map V.int) (fun i σ H1 => ∃ v, σ = [v, some (.ref p)] ∧ Same H H1 ∧ H1 D = some (.lst (((ws.take i).map (crossB M)).map V.bl))) ⟨none, rfl, Same.new hD, upd_same⟩ ?_ ?_ ?_
      · rintro i σ H1 _ ⟨v, rfl, sm, h1⟩
        exact SqL.of (sm _ _ ha)
      · rintro i x σ H1 hx ⟨v, rfl, sm, h1⟩
        obtain ⟨y, hy, rfl⟩ := map_some hx
        dsimp only [gName, tYes]
        rw [if_pos rfl]
        refine ⟨_, rfl, _, rfl, p, M, ns, y, rfl, ta.same sm, hMl, _, h1, ?_, _, rfl, Same.add sm hD, ?_⟩
        · rw [List.length_map, List.length_map, List.length_take, sizeLine_eq]; omega
        · rw [upd_same, List.take_add_one, hy, List.map_append, List.map_append]; rfl
      rintro σ H1 ⟨v, rfl, s1, h1⟩
      rw [List.length_map, List.take_length] at h1
      refine ⟨D, _, rfl, SqL.of h1, _, rfl, ?_⟩
      by_cases hc : (ws.map (crossB M)).all id = true
      · rw [hc]
        refine iteF ?_
        dsimp only [tNext]
        refine hnxC _ _ ?_
        refine ⟨_, rfl, _, rfl, a, ws, 1, rfl, s1 _ _ ha, hl, fun tl H2 s2 htl h2 => ?_⟩
        have s02 := s1.trans s2
        have et : turnI ws 1 = rot ws (1 % ws.length) := by
          unfold turnI
          congr 1
        rw [et] at h2
        have hrl : (rot ws (1 % ws.length)).length = ws.length := rot_len ws (Nat.le_of_lt (Nat.mod_lt _ hp))
        have hcr : ∀ y ∈ ws, crossB M y = true := fun y hy => List.all_eq_true.mp hc _ (List.mem_map.mpr ⟨y, hy, rfl⟩)
        have ep : plainB M ws = (pairB M ws (rot ws (1 % ws.length))).all id := by unfold plainB; rw [e', hc]; rfl
        have k' := fun H' s' => k H' s'
        rw [ep] at k'
        generalize rot ws (1 % ws.length) = vs at h2 hrl k'
        refine ⟨a, tl, _, _, rfl, SqL.of (s02 _ _ ha), SqL.of h2, fun D2 hD2 => ?_⟩
        refine loop_zip (xs := ws.map V.int) (ys := vs.map V.int) (by rw [List.length_map, List.length_map, hrl]) (fun i σ H3 => ∃ v v', σ = [v, v', some (.ref p)] ∧ Same H2 H3 ∧ H3 D2 = some (.lst (((pairB M ws vs).take i).map V.bl))) ⟨none, none, rfl, Same.new hD2, upd_same⟩ ?_ ?_ ?_
        · rintro i σ H3 _ ⟨v, v', rfl, s3, h3⟩
          exact ⟨SqL.of (s3 _ _ (s02 _ _ ha)), SqL.of (s3 _ _ h2)⟩
        · rintro i x y σ H3 q hx hy hq ⟨v, v', rfl, s3, h3⟩
          obtain ⟨x', hx', rfl⟩ := map_some hx
          obtain ⟨y', hy', rfl⟩ := map_some hy
          have s4 : Same H3 (upd H3 q (.tup [V.int x', V.int y'])) := Same.new hq
          refine ⟨q, _, rfl, SqT.of upd_same, rfl, _, _, rfl, _, _, rfl, rfl, ?_⟩
          dsimp only [tYes]
          rw [if_pos rfl]
          refine ⟨_, rfl, _, rfl, _, rfl, p, M, ns, x', y', rfl, ((ta.same s02).same s3).same s4, hMl, hcr x' (List.mem_of_getElem? hx'), _, s4 _ _ h3, ?_, _, _, rfl, Same.add (s3.trans s4) hD2, ?_⟩
          · rw [List.length_map, List.length_take]
            have : (pairB M ws vs).length ≤ ws.length := by unfold pairB; rw [List.length_map, List.length_zip]; omega
            rw [sizeLine_eq]; omega
          · have : (pairB M ws vs)[i]? = some (followB M x' y') := by
              unfold pairB
              rw [List.getElem?_map, List.getElem?_zip_eq_some (z := (x', y')) |>.mpr ⟨hx', hy'⟩]
              rfl
            rw [upd_same, List.take_add_one, this, List.map_append]
            rfl
        rintro σ H3 ⟨v, v', rfl, s3, h3⟩
        have hpl : (pairB M ws vs).length = ws.length := by unfold pairB; rw [List.length_map, List.length_zip]; omega
        rw [List.length_map, List.take_of_length_le (Nat.le_of_eq hpl)] at h3
        exact ⟨D2, _, rfl, SqL.of h3, k' _ (s02.trans s3)⟩
      · have hc : (ws.map (crossB M)).all id = false := by rw [Bool.eq_false_iff]; exact hc
        rw [hc]
        have ep : plainB M ws = false := by unfold plainB; rw [hc]; simp
        have := k _ s1
        rw [ep] at this
        exact iteT this
theorem sc_look_thread : FnScope ["tent", "word"] ["tent", "word"] (defScope s_look_thread) := ⟨rfl, rfl, rfl, by decide +kernel, rfl, by decide +kernel, by decide +kernel⟩
theorem ok_look_thread (T : Txt w K mg t) : FnOk P w K mg base (CXr P w) 6 t.f_look_thread t.d_look_thread ["tent", "word"] (sp_look_thread t.C_Tent t.E_NoThread) := by
 refine T.p_look_thread.F.okX sc_look_thread (fun vs H Q E h => ?_) (fun cdv A outer s H vs Q E hr h => ?_)
 ·obtain ⟨p, a, M, ns, ws, rfl, _⟩ := h
  rfl
 ·obtain ⟨p, a, M, ns, ws, rfl, ta, hMl, ha, hl, k⟩ := h
  refine ⟨_, (pssx_one (psx_if (pt_not (pt_val (pe_call (ok_plain T) (hr.mono (by decide)) rfl T.p_plain.g T.p_plain.F.kp T.p_plain.b .nil passR (pa_cons (pv 0) (pa_cons (pv 1) pa_nil))))) (pssx_one (psx_raise T.x_NoThread FBV rfl T.gx_NoThread rfl (pa_cons pe_str pa_nil))) pssx_nil)), ?_⟩
  refine ⟨_, rfl, _, rfl, p, a, M, ns, ws, rfl, ta, hMl, ha, hl, fun H' s' => ⟨_, rfl, ?_⟩⟩
  obtain ⟨k1, k2⟩ := k H' s'
  cases e : plainB M ws with
  | true => exact iteF (k1 e)
  | false => exact iteT ⟨by decide, k2 e⟩
end
end KT
set_option maxHeartbeats 4000000
namespace KT
open PySem L2
noncomputable def sp_Hall_lay (CT CS CH EB ET EN EM : Addr) : Sp := fun vs H Q E => ∃ (p dx be sc st un dxs te th po a : Addr) (wo : V) (x : Str) (l1 l2 : List (Str × V)) (M : List (Option Nat)) (ns : List Int) (ws : List Int) (ds : List Str), vs = [.ref p, .str x, .ref a] ∧
 H p = some (.ins CH dx (hflds be sc st un)) ∧ H sc = some (.ins CS dxs (sflds (.ref te) (.ref th) (.ref po) wo)) ∧ H th = some (.dK (dS l1)) ∧ H po = some (.dK (dS l2)) ∧ TentAt CT H te M ns ∧ M.length = ns.length ∧ ns.length ≤ 1000 ∧ Deeds H st ds ∧ ds.length ≤ 800 ∧ l1.length ≤ 800 ∧ x.cps.all (· < 128) = true ∧ x.cps.size ≤ 900 ∧ H a = some (.lst (ws.map V.int)) ∧ ws.length ≤ 900 ∧ (plainB M ws = true → ∀ i ∈ ws, 0 ≤ i ∧ i < 1000000) ∧
 (isN x = false → ∀ H', Same H H' → E (.ref EB) none H') ∧ (isN x = true → (hasS l1 x || hasS l2 x) = true → ∀ H', Same H H' → E (.ref ET) none H') ∧
 (isN x = true → (hasS l1 x || hasS l2 x) = false → plainB M ws = false → ∀ H', Same H H' → E (.ref EN) none H') ∧ (isN x = true → (hasS l1 x || hasS l2 x) = false → plainB M ws = true → 400 < ws.length → ∀ H', Same H H' → E (.ref EM) none H') ∧
 (isN x = true → (hasS l1 x || hasS l2 x) = false → plainB M ws = true → ws.length ≤ 400 → ∀ (H' : Hp) (sc' dxs' th' w' un' : Addr) (r : Str), Asc r → (∀ b u, b ≠ p → b ≠ st → H b = some u → H' b = some u) → H' p = some (.ins CH dx (hflds be sc' st un')) → H' sc' = some (.ins CS dxs' (sflds (.ref te) (.ref th') (.ref po) wo)) →
  H' th' = some (.dK (dS (l1 ++ [(x, .ref w')]))) → H' w' = some (.lst (ws.map V.int)) → Deeds H' st (ds ++ [r]) → H' un' = some (.lst []) → Q .non H')
section
variable {P : Program} {w : World} {K : PySem.W.Frag} {mg : Str → Option Value} {base : Heap} {t : Adr}
theorem sc_Hall_lay : FnScope ["self", "name", "word", "now", "threads"] ["self", "name", "word"] (defScope s_Hall_lay) := ⟨rfl, rfl, rfl, by decide +kernel, rfl, by decide +kernel, by decide +kernel⟩
theorem ok_Hall_lay (T : Txt w K mg t) : FnOk P w K mg base (CXr P w) 7 t.f_Hall_lay t.d_Hall_lay ["self", "name", "word"] (sp_Hall_lay t.C_Tent t.C_Scene t.C_Hall t.E_BadName t.E_Taken t.E_NoThread t.E_TooMany) := by
 refine T.p_Hall_lay.F.okX sc_Hall_lay (fun vs H Q E h => ?_) (fun cdv A outer s H vs Q E hr h => ?_)
 ·obtain ⟨p, dx, be, sc, st, un, dxs, te, th, po, a, wo, x, l1, l2, M, ns, ws, ds, rfl, _⟩ := h
  rfl
 ·obtain ⟨p, dx, be, sc, st, un, dxs, te, th, po, a, wo, x, l1, l2, M, ns, ws, ds, rfl, hp, hsc, hth, hpo, ta, hMl, hns, hds, hdl, hl1, hx, hxz, ha, hwl, hrg, kB, kT, kN, kM, kQ⟩ := h
  have hu := hu_of hr
  refine ⟨_, (pssx_cons (psx_of (ps_set (i := 3) sc_Hall_lay.nd rfl (Or.inl rfl) (pe_fld (pv 0) rfl)))
   (pssx_cons (psx_expr (pex_call (ok_look_new_name T) (hr.mono (by decide)) rfl T.p_look_new_name.g T.p_look_new_name.F.kp T.p_look_new_name.b .nil (pa_cons (pv 3) (pa_cons (pv 1) pa_nil))))
   (pssx_cons (psx_expr (pex_call (ok_look_thread T) (hr.mono (by decide)) rfl T.p_look_thread.g T.p_look_thread.F.kp T.p_look_thread.b .nil (pa_cons (pe_fld (pv 3) rfl) (pa_cons (pv 2) pa_nil))))
   (pssx_cons (psx_expr (pex_call (ok_look_length T) (hr.mono (by decide)) rfl T.p_look_length.g T.p_look_length.F.kp T.p_look_length.b .nil (pa_cons (pv 2) pa_nil)))
   (pssx_cons (psx_of (ps_set (i := 4) sc_Hall_lay.nd rfl (Or.inl rfl) (pe_call (ok_with_item T) (hr.mono (by decide)) rfl T.p_with_item.g T.p_with_item.F.kp T.p_with_item.b .nil passR (pa_cons (pe_fld (pv 3) rfl) (pa_cons (pv 1) (pa_cons (pe_callTy call_list_of (by rfl) T.n_list PySem.Pv.boot_list (pa_cons (pv 2) pa_nil)) pa_nil))))))
   (pssx_one (psx_of (ps_expr (pe_meth (pv 0) T.cl_Hall T.p_Hall_enter.m (ok_Hall_enter T) (hr.mono (by decide)) T.p_Hall_enter.b .nil passR (pa_cons (pe_call (ok_row_text T) (hr.mono (by decide)) rfl T.p_row_text.g T.p_row_text.F.kp T.p_row_text.b .nil passR (pa_cons (pe_op op_cat (pe_lst (pa_cons pe_str (pa_cons (pv 1) pa_nil))) (pv 2)) pa_nil)) (pa_cons (pe_make T.mk_Scene (ok_Scene_init T) (hr.mono (by decide)) rfl T.gC_Scene T.p_Scene_init.b .nil passR (pa_cons (pe_fld (pv 3) rfl) (pa_cons (pv 4) (pa_cons (pe_fld (pv 3) rfl) (pa_cons (pe_fld (pv 3) rfl) pa_nil))))) pa_nil))))))))))), ?_⟩
  refine ⟨_, rfl, p, _, dx, _, .ref sc, rfl, hp, T.cl_Hall, T.a_Hall_scene, rfl, ?_⟩
  refine ⟨_, rfl, _, rfl, sc, dxs, th, po, _, _, x, l1, l2, rfl, hsc, hth, hpo, hx, hxz, kB, kT, fun e1 e2 H1 s1 => ?_⟩
  refine ⟨_, rfl, sc, _, dxs, _, .ref te, rfl, s1 _ _ hsc, T.cl_Scene, T.a_Scene_tent, rfl, _, rfl, te, a, M, ns, ws, rfl, ta.same s1, hMl, s1 _ _ ha, by omega, fun H2 s2 => ⟨fun e3 => ?_, fun e3 => kN e1 e2 e3 H2 (s1.trans s2)⟩⟩
  have s02 := s1.trans s2
  refine ⟨_, rfl, a, _, rfl, s02 _ _ ha, fun e4 => ?_, fun e4 => kM e1 e2 e3 (by rw [List.length_map] at e4; exact e4) H2 s02⟩
  rw [List.length_map] at e4
  have hn1 : hasS l1 x = false := by
   cases z : hasS l1 x with
   | false => rfl
   | true => rw [z] at e2; cases e2
  have hx8 : x.length ≤ 16 := by
   unfold isN at e1
   rw [Bool.and_eq_true, Bool.and_eq_true, decide_eq_true_eq, decide_eq_true_eq] at e1
   omega
  have hrange := hrg e3
  refine ⟨_, rfl, sc, _, dxs, _, .ref th, rfl, s02 _ _ hsc, T.cl_Scene, T.a_Scene_threads, rfl, _, rfl, _, rfl, a, _, rfl, .inl (SqL.of (s02 _ _ ha)), fun w' hw' => ?_⟩
  have s3 : Same H2 (upd H2 w' (.lst (ws.map V.int))) := Same.new hw'
  have w3 : (upd H2 w' (.lst (ws.map V.int))) w' = some (.lst (ws.map V.int)) := upd_same
  generalize upd H2 w' (.lst (ws.map V.int)) = H3 at s3 w3 ⊢
  refine ⟨th, x, .ref w', l1, rfl, s3 _ _ (s02 _ _ hth), by omega, hn1, fun th' H4 s4 hth' h4 => ?_⟩
  have s04 := s02.trans (s3.trans s4)
  have w4 := s4 _ _ w3
  have hp4 := s04 _ _ hp
  refine ⟨_, rfl, p, dx, _, rfl, hp4, rfl, ?_⟩
  refine ⟨_, rfl, (by show 2 ≤ sizeLine; decide), fun l2' hl2 => ?_⟩
  have s5 : Same H4 (upd H4 l2' (.lst [V.str (Str.ofString "lay"), V.str x])) := Same.new hl2
  have c5 : (upd H4 l2' (.lst [V.str (Str.ofString "lay"), V.str x])) l2' = some (.lst [V.str (Str.ofString "lay"), V.str x]) := upd_same
  generalize upd H4 l2' (.lst [V.str (Str.ofString "lay"), V.str x]) = H5 at s5 c5 ⊢
  refine ⟨_, rfl, l2', a, _, _, rfl, rfl, c5, s5 _ _ (s04 _ _ ha), by rw [List.length_map, sizeLine_eq]; show 2 + ws.length ≤ _; omega, fun c hc => ?_⟩
  have s6 := Same.new (o := .lst ([V.str (Str.ofString "lay"), V.str x] ++ ws.map V.int)) hc
  refine ⟨c, [.inl (Str.ofString "lay"), .inl x] ++ ws.map .inr, rfl, by rw [upd_same, List.map_append, List.map_map]; rfl, by rw [List.length_append, List.length_map]; show 2 + ws.length ≤ 900; omega, fun y hy => ?_, ?_, fun H7 s7 => ?_⟩
  ·rcases List.mem_append.mp hy with z | z
   ·rcases List.mem_cons.mp z with rfl | z
    ·exact True.intro
    ·rw [List.mem_singleton.mp z]; exact True.intro
   ·obtain ⟨i, hi, rfl⟩ := List.mem_map.mp z
    exact ⟨(hrange i hi).1, Int.lt_trans (hrange i hi).2 (by decide)⟩
  ·have := sum_le (B := 60) (l := [.inl (Str.ofString "lay"), .inl x] ++ ws.map .inr) fun y hy => by
    rcases List.mem_append.mp hy with z | z
    ·rcases List.mem_cons.mp z with rfl | z
     ·show (Str.ofString "lay").length ≤ 60
      decide
     ·rw [List.mem_singleton.mp z]; exact Nat.le_trans hx8 (by decide)
    ·obtain ⟨i, hi, rfl⟩ := List.mem_map.mp z
     exact fig_le (hrange i hi).1 (Int.lt_trans (hrange i hi).2 (by decide))
   have hl : ([.inl (Str.ofString "lay"), .inl x] ++ ws.map .inr : List (Str ⊕ Int)).length = 2 + ws.length := by rw [List.length_append, List.length_map]; rfl
   rw [hl] at this ⊢
   omega
  have s47 := s5.trans (s6.trans s7)
  have s07 := s04.trans s47
  have hsc7 := s07 _ _ hsc
  have hasc : Asc (Txt.join (Str.ofString " ") (([.inl (Str.ofString "lay"), .inl x] ++ ws.map .inr : List (Str ⊕ Int)).map wS)) := asc_row fun y hy => by
   rcases List.mem_append.mp hy with z | z
   ·rcases List.mem_cons.mp z with rfl | z
    ·intro c hc; revert c hc; show ∀ c ∈ [108, 97, 121], c < 128; decide
    ·rw [List.mem_singleton.mp z]; exact Asc.of hx
   ·obtain ⟨i, hi, rfl⟩ := List.mem_map.mp z; exact True.intro
  generalize Txt.join (Str.ofString " ") _ = rr at hasc ⊢
  refine ⟨_, rfl, sc, _, dxs, _, .ref te, rfl, hsc7, T.cl_Scene, T.a_Scene_tent, rfl, _, rfl, _, rfl, sc, _, dxs, _, .ref po, rfl, hsc7, T.cl_Scene, T.a_Scene_pools, rfl, _, rfl, sc, _, dxs, _, wo, rfl, hsc7, T.cl_Scene, T.a_Scene_worths, rfl, ?_⟩
  intro sc' dxs' hsc' hdxs' hne'
  refine ⟨sc', dxs', _, _, _, _, rfl, upd_same, rfl, ?_⟩
  rw [upd_again]
  have s8 : Same H7 (upd (upd H7 dxs' (.own sc')) sc' (.ins t.C_Scene dxs' (sflds (.ref te) (.ref th') (.ref po) wo))) := Same.add (Same.new hdxs') hsc'
  have c8 : (upd (upd H7 dxs' (.own sc')) sc' (.ins t.C_Scene dxs' (sflds (.ref te) (.ref th') (.ref po) wo))) sc' = some (.ins t.C_Scene dxs' (sflds (.ref te) (.ref th') (.ref po) wo)) := upd_same
  generalize upd (upd H7 dxs' (.own sc')) sc' (.ins t.C_Scene dxs' (sflds (.ref te) (.ref th') (.ref po) wo)) = H8 at s8 c8 ⊢
  obtain ⟨qs, d1, d2, d3⟩ := hds
  have s08 := s07.trans s8
  have s48 := s47.trans s8
  refine ⟨p, dx, be, sc, st, un, sc', rr, qs.map V.ref, rfl, s08 _ _ hp, s08 _ _ d1, by rw [List.length_map]; omega, fun q un' H9 hq hun o9 p9 st9 q9 u9 => ?_⟩
  have ne : ∀ {HX : Hp} {b : Addr}, Same H HX → HX b = none → b ≠ p ∧ b ≠ st := fun {HX b} sx hb => ⟨(fun z => by rw [z, sx _ _ hp] at hb; cases hb), (fun z => by rw [z, sx _ _ d1] at hb; cases hb)⟩
  obtain ⟨n1, n2⟩ := ne s07 hsc'
  obtain ⟨n3, n4⟩ := ne (s02.trans s3) hth'
  obtain ⟨n5, n6⟩ := ne s02 hw'
  refine kQ e1 e2 e3 e4 H9 sc' dxs' th' w' un' rr hasc (fun b u b1 b2 e => o9 b u b1 b2 (s08 b u e)) p9 (o9 _ _ n1 n2 c8) (o9 _ _ n3 n4 (s48 _ _ h4)) (o9 _ _ n5 n6 (s48 _ _ w4)) ⟨qs ++ [q], by rw [st9, List.map_append]; rfl, by rw [List.length_append, List.length_append, d2]; rfl, fun i z y hz hy => ?_⟩ u9
  by_cases c : i < qs.length
  ·rw [List.getElem?_append_left c] at hz
   rw [List.getElem?_append_left (by omega)] at hy
   obtain ⟨v, hv⟩ := d3 i z y hz hy
   exact ⟨v, o9 _ _ (fun e => by rw [e, hp] at hv; cases hv) (fun e => by rw [e, d1] at hv; cases hv) (s08 _ _ hv)⟩
  ·have hi : i = qs.length := by
    have := (List.getElem?_eq_some_iff.mp hz).1
    rw [List.length_append, List.length_singleton] at this
    omega
   subst hi
   rw [List.getElem?_append_right (Nat.le_refl _), Nat.sub_self] at hz
   rw [List.getElem?_append_right (by omega), d2, Nat.sub_self] at hy
   cases hz
   cases hy
   exact ⟨_, q9⟩
end
end KT
set_option maxHeartbeats 4000000
namespace KT
open PySem L2
noncomputable def dI (ks : List Int) (f : Int → Int) : List (Key × V) := ks.map fun x => ((Sum.inl x : Key), V.int (f x))
theorem dI_val {ks : List Int} {f : Int → Int} {y : Int} (h : y ∈ ks) : valV (dI ks f) (Sum.inl y) = some (V.int (f y)) := by unfold dI; rw [val_map, if_pos h]
theorem dI_old {ks : List Int} {f : Int → Int} {y v : Int} (h : y ∈ ks) : putK (dI ks f) (Sum.inl y) (V.int v) = dI ks fun x => if x = y then v else f x := by
 unfold dI
 rw [put_old h]
 apply List.map_congr_left
 intro x _
 by_cases c : x = y
 ·simp [c]
 ·simp [c]
theorem dI_new {ks : List Int} {f : Int → Int} {y v : Int} (h : y ∉ ks) : putK (dI ks f) (Sum.inl y) (V.int v) = dI (ks ++ [y]) fun x => if x = y then v else f x := by
 unfold dI
 rw [put_new h, List.map_append]
 congr 1
 ·apply List.map_congr_left
  intro x hx
  have : x ≠ y := fun z => h (z ▸ hx)
  simp [this]
 ·simp
theorem dI_len {ks : List Int} {f : Int → Int} : (dI ks f).length = ks.length := by unfold dI; simp
noncomputable def rowI (n : Nat) (f : Nat → Int) : List V := (List.range n).map fun p => V.int (f p)
theorem rowI_len (n : Nat) (f : Nat → Int) : (rowI n f).length = n := by unfold rowI; simp
theorem rowI_at {n p : Nat} {f : Nat → Int} (h : p < n) : (rowI n f)[p]? = some (V.int (f p)) := by unfold rowI; rw [List.getElem?_map, List.getElem?_range h]; rfl
noncomputable def sp_named : Sp := fun vs H Q _ => ∃ (r c : Addr) (ns : List Int) (f : Nat → Int), vs = [.ref r, .ref c] ∧ RowsAt H r ns ∧ ns.length ≤ 1000 ∧ H c = some (.lst (rowI ns.length f)) ∧
 ∀ (l : Addr) (g : Int → Int) (H' : Hp), Same H H' → H l = none → H' l = some (.dK (dI (keys ns ns.length) g)) → (∀ x ∈ keys ns ns.length, ∃ p, ns[p]? = some x ∧ g x = f p) → Q (.ref l) H'
theorem keys_le (ns : List Int) : ∀ n, (keys ns n).length ≤ n
 | 0 => Nat.le_refl _
 | n + 1 => by
  have ih := keys_le ns n
  cases h : ns[n]? with
  | none =>
   have : keys ns (n + 1) = keys ns n := by
    show (match ns[n]? with | some x => if x ∈ keys ns n then keys ns n else keys ns n ++ [x] | none => keys ns n) = _
    rw [h]
   rw [this]; omega
  | some x =>
   rw [keys_step h]
   split
   ·omega
   ·rw [List.length_append, List.length_singleton]; omega
section
variable {P : Program} {w : World} {K : PySem.W.Frag} {mg : Str → Option Value} {base : Heap} {t : Adr}
theorem sc_l_named : FnScope ["_law_rows_here", "_law_counts", "_law_due", "_law_p"] ["_law_rows_here", "_law_counts"] (defScope s_l_named) := ⟨rfl, rfl, rfl, by decide +kernel, rfl, by decide +kernel, by decide +kernel⟩
theorem ok_l_named (T : Txt w K mg t) : FnOk P w K mg base (CXr P w) 1 t.f_l_named t.d_l_named ["_law_rows_here", "_law_counts"] sp_named := by
 refine T.p_l_named.F.okR sc_l_named (fun vs H Q E h => ?_) (fun cdv A outer s H vs Q E hr h => ?_)
 ·obtain ⟨r, c, ns, f, rfl, _⟩ := h
  rfl
 ·obtain ⟨r, c, ns, f, rfl, hr1, hl, hc, k⟩ := h
  have hu := hu_of hr
  refine ⟨_, (pss_cons (ps_set (i := 2) sc_l_named.nd rfl (Or.inl rfl) pe_dnewK)
   (pss_cons (ps_for PassesOwn.never rfl (pi_range1 rfl T.n_range (pa_cons (pe_callB call_len_seq (by rfl) T.n_len PySem.boot_len (pa_cons (pv 1) pa_nil)) pa_nil)) (pg_name (i := 3) sc_l_named.nd rfl (Or.inl rfl)) (pss_one (ps_dput hu (pv 2) (pe_ix ix_tup (pe_ix ix_list (pv 0) (pe_op op_fdiv (pv 3) pe_int) (fun _ _ => rfl)) (pe_op op_mod (pv 3) pe_int) (fun _ _ => rfl)) (pe_ix ix_list (pv 1) (pv 3) (fun _ _ => rfl)) rfl)))
   (pss_one (ps_ret (pv 2))))), ?_⟩
  intro d hd
  have s1 : Same H (upd H d (.dK [])) := Same.new hd
  dsimp only [gName]
  show tSeq (tFor _ _ _) _ _ _ _
  refine seq_post (fun σ H' => ∃ (g : Int → Int) (v : Option V), σ = [some (.ref r), some (.ref c), some (.ref d), v] ∧ Same H H' ∧ H' d = some (.dK (dI (keys ns ns.length) g)) ∧ ∀ x ∈ keys ns ns.length, ∃ p, ns[p]? = some x ∧ g x = f p) (fun nx hnx => ?_) ?_
  ·refine ⟨_, rfl, c, _, rfl, .inl (SqL.of (s1 _ _ hc)), _, rfl, by rw [rowI_len]; omega, by rw [rowI_len]; omega, ?_⟩
   have eL : ((((rowI ns.length f).length : Nat) : Int)).toNat = ns.length := by rw [rowI_len, Int.toNat_natCast]
   rw [eL]
   refine for_range (n := ns.length) (fun i σ H' => ∃ (g : Int → Int) (v : Option V), σ = [some (.ref r), some (.ref c), some (.ref d), v] ∧ Same H H' ∧ H' d = some (.dK (dI (keys ns i) g)) ∧ ∀ x ∈ keys ns i, ∃ p, ns[p]? = some x ∧ g x = f p) ⟨fun _ => 0, _, rfl, s1, upd_same, fun x hx => by simp [keys] at hx⟩ ?_ ?_
   ·rintro i σ H' hi ⟨g, v, rfl, s2, hd2, hg⟩
    dsimp only [gName]
    rw [Int.zero_add]
    obtain ⟨y, hy⟩ : ∃ y, ns[i]? = some y := ⟨_, List.getElem?_eq_getElem hi⟩
    obtain ⟨ts', q, e1, e2, e3, e4⟩ := row_at (hr1.same s2) hy
    have hc2 := s2 _ _ hc
    refine ⟨_, rfl, _, rfl, c, _, _, _, rfl, rfl, SqL.of hc2, atI_nat (rowI_at hi), _, rfl, ?_⟩
    refine ⟨_, rfl, _, rfl, _, _, rfl, rfl, ⟨by decide, by decide⟩, r, _, _, _, rfl, rfl, SqL.of e1, (by rw [div3]; exact map_at e2), _, rfl, _, _, rfl, rfl, (by show (0 : Int) < 3; decide), q, _, _, _, rfl, rfl, SqT.of e3, (by rw [mod3]; exact atI_nat e4), ?_⟩
    refine ⟨d, _, rfl, DPut.k (k := Sum.inl y) hd2 (by rw [dI_len]; exact small1000 (by have := keys_le ns i; omega)), ?_⟩
    refine ⟨fun x => if x = y then f i else g x, _, rfl, Same.add s2 hd, ?_, ?_⟩
    ·rw [upd_same, keys_step hy]
     by_cases z : y ∈ keys ns i
     ·rw [if_pos z, dI_old z]
     ·rw [if_neg z, dI_new z]
    ·intro x hx
     by_cases z : x = y
     ·subst z
      exact ⟨i, hy, if_pos rfl⟩
     ·have : x ∈ keys ns i := by
       rw [keys_step hy] at hx
       split at hx
       ·exact hx
       ·rcases List.mem_append.mp hx with q' | q'
        ·exact q'
        ·exact absurd (List.mem_singleton.mp q') z
      obtain ⟨p, h1, h2⟩ := hg x this
      exact ⟨p, h1, by show (if x = y then f i else g x) = f p; rw [if_neg z]; exact h2⟩
   ·rintro σ H' ⟨g, v, rfl, s2, hd2, hg⟩
    exact hnx _ _ ⟨g, v, rfl, s2, hd2, hg⟩
  ·rintro σ H' ⟨g, v, rfl, s2, hd2, hg⟩
   exact ⟨_, rfl, k d g H' s2 hd hd2 hg⟩
end
end KT
set_option maxHeartbeats 4000000
namespace KT
open PySem L2
structure OkC (M : List (Option Nat)) (ns : List Int) (g : Int → Int) : Prop where
 nn : ∀ x ∈ keys ns ns.length, 0 ≤ g x
 rim : ∀ (i : Nat) (x : Int), M[i]? = some none → ns[i]? = some x → g x = 0
 even : ∀ k, 3 * k + 2 < ns.length → (g (ns.getD (3 * k) 0) + g (ns.getD (3 * k + 1) 0) + g (ns.getD (3 * k + 2) 0)) % 2 = 0
 tri : ∀ k, 3 * k + 2 < ns.length → g (ns.getD (3 * k) 0) ≤ g (ns.getD (3 * k + 1) 0) + g (ns.getD (3 * k + 2) 0) ∧ g (ns.getD (3 * k + 1) 0) ≤ g (ns.getD (3 * k) 0) + g (ns.getD (3 * k + 2) 0) ∧ g (ns.getD (3 * k + 2) 0) ≤ g (ns.getD (3 * k) 0) + g (ns.getD (3 * k + 1) 0)
noncomputable def SameD (H H' : Hp) : Prop := ∀ b u, (∀ kvs, u ≠ .dK kvs) → H b = some u → H' b = some u
theorem TentAt.sameD {C : Addr} {H H' : Hp} {p : Addr} {M : List (Option Nat)} {ns : List Int} (h : TentAt C H p M ns) (s : SameD H H') : TentAt C H' p M ns := by
 obtain ⟨dx, cl, na, sp, mt, o, f, b⟩ := h
 obtain ⟨ts, r1, r2, r3⟩ := b.rows
 exact ⟨dx, cl, na, sp, mt, o, f, s _ _ (fun _ z => nomatch z) b.ins, ⟨ts, s _ _ (fun _ z => nomatch z) r1, r2, fun k t e => s _ _ (fun _ z => nomatch z) (r3 k t e)⟩, s _ _ (fun _ z => nomatch z) b.names, s _ _ (fun _ z => nomatch z) b.spots, s _ _ (fun _ z => nomatch z) b.mates, fun x hx => s _ _ (fun _ z => nomatch z) (b.at' x hx)⟩
noncomputable def CntAt (H : Hp) (c : Addr) (ns : List Int) (g : Int → Int) : Prop := ∃ ks : List Int, H c = some (.dK (dI ks g)) ∧ ks.Perm (keys ns ns.length)
theorem CntAt.same {H H' : Hp} {c : Addr} {ns : List Int} {g : Int → Int} (h : CntAt H c ns g) (s : Same H H') : CntAt H' c ns g := by
 obtain ⟨ks, h1, h2⟩ := h
 exact ⟨ks, s _ _ h1, h2⟩
theorem rim_of {M : List (Option Nat)} {ns : List Int} (td : TD M ns) {x : Int} (hx : x ∈ keys ns ns.length) (h : sortOf ns x = "rim") : ∃ a : Nat, M[a]? = some none ∧ ns[a]? = some x := by
 rcases sort_cases td hx with ⟨_, a, e, ma⟩ | ⟨e, _⟩ | ⟨e, _⟩
 ·refine ⟨a, ma, ?_⟩
  have : a ∈ pl ns ns.length x := by rw [e]; exact List.mem_singleton.mpr rfl
  unfold pl at this
  exact of_decide_eq_true (List.mem_filter.mp this).2
 ·rw [h] at e; exact absurd e (by decide)
 ·rw [h] at e; exact absurd e (by decide)
noncomputable def g3 (ns : List Int) (g : Int → Int) (k : Nat) : List Int := [g (ns.getD (3 * k) 0), g (ns.getD (3 * k + 1) 0), g (ns.getD (3 * k + 2) 0)]
theorem key_at {ns : List Int} {i : Nat} (h : i < ns.length) : ns.getD i 0 ∈ keys ns ns.length := by
 have e : ns[i]? = some (ns.getD i 0) := by rw [List.getD_eq_getElem?_getD, List.getElem?_eq_getElem h]; rfl
 exact keys_mem.mpr ⟨i, h, e⟩
theorem g3_at {ns : List Int} {g : Int → Int} {i j : Nat} {x : V} (h : (row3 ns i)[j]? = some x) : ∃ z, (3 * i + 2 < ns.length → z ∈ keys ns ns.length) ∧ x = V.int z ∧ (g3 ns g i)[j]? = some (g z) := by
 match j, h with
 | 0, h => cases h; exact ⟨_, fun h => key_at (by omega), rfl, rfl⟩
 | 1, h => cases h; exact ⟨_, fun h => key_at (by omega), rfl, rfl⟩
 | 2, h => cases h; exact ⟨_, fun h => key_at h, rfl, rfl⟩
 | j + 3, h => simp [row3] at h
theorem g3_ref {ns : List Int} {g : Int → Int} {k : Nat} {us : List Addr} (h : some (HO.lst (us.map V.ref)) = some (HO.lst ((g3 ns g k).map V.int))) : False := by
 injection h with h
 injection h with h
 cases us with
 | nil => cases h
 | cons a r => injection h with h _; cases h
theorem cnt_get {H : Hp} {c : Addr} {ks : List Int} {g : Int → Int} {z : Int} (h : H c = some (.dK (dI ks g))) (hz : z ∈ ks) : DGet H c (.int z) (some (.int (g z))) := .inl ⟨_, Sum.inl z, .inl h, rfl, (dI_val hz).symm⟩
theorem any_false (n : Nat) : (List.replicate n false).any id = false := by
 induction n with
 | zero => rfl
 | succ n ih => rw [List.replicate_succ, List.any_cons, ih]; rfl
noncomputable def sp_look_numbers (C : Addr) : Sp := fun vs H Q _ => ∃ (p c : Addr) (M : List (Option Nat)) (ns : List Int) (g : Int → Int), vs = [.ref p, .ref c] ∧ TentAt C H p M ns ∧ TD M ns ∧ ns.length < 64 ∧ CntAt H c ns g ∧ OkC M ns g ∧ ∀ H', Same H H' → Q .non H'
section
variable {P : Program} {w : World} {K : PySem.W.Frag} {mg : Str → Option Value} {base : Heap} {t : Adr}
theorem sc_look_numbers : FnScope ["tent", "counts", "seam", "number"] ["tent", "counts"] (defScope s_look_numbers) := ⟨rfl, rfl, rfl, by decide +kernel, rfl, by decide +kernel, by decide +kernel⟩
theorem ok_look_numbers (T : Txt w K mg t) : FnOk P w K mg base (CXr P w) 3 t.f_look_numbers t.d_look_numbers ["tent", "counts"] (sp_look_numbers t.C_Tent) := by
 refine T.p_look_numbers.F.okR sc_look_numbers (fun vs H Q E h => ?_) (fun cdv A outer s H vs Q E hr h => ?_)
 ·obtain ⟨p, c, M, ns, g, rfl, _⟩ := h
  rfl
 ·obtain ⟨p, c, M, ns, g, rfl, ta, td, h64, ⟨ks, hc, hperm⟩, ok, k⟩ := h
  refine ⟨_, (pss_cons (ps_if (pt_cmpR (op_neL hr.units) (pe_callB (call_sortedD rfl) (by rfl) T.n_sorted PyProof.Rows.boot_sorted (pa_cons (pv 1) pa_nil)) (pe_meth0 (pv 0) T.cl_Tent T.p_Tent_seams.m (ok_Tent_seams T) (hr.mono (by decide)) T.p_Tent_seams.b .nil passR) (nomark _)) pss_never pss_nil)
   (pss_one (ps_thaw (ps_for PassesOwn.never rfl (pi_items (pv 1) ⟨rfl, rfl, rfl⟩) (pg_tup rfl (pgs_cons (pg_name (i := 2) sc_look_numbers.nd rfl (Or.inl rfl)) (pgs_cons (pg_name (i := 3) sc_look_numbers.nd rfl (Or.inl rfl)) pgs_nil))) (pss_cons (ps_if (pt_cmpR op_lt (pv 3) pe_int (nomark _)) pss_never pss_nil)
   (pss_one (ps_if (PW.pt (pw_and (pt_cmpR op_gt (pv 3) pe_int (nomark _)) (pw_and1 (pt_cmpR op_eq (pe_meth (pv 0) T.cl_Tent T.p_Tent_sort_of.m (ok_Tent_sort_of T) (hr.mono (by decide)) T.p_Tent_sort_of.b .nil passR (pa_cons (pv 2) pa_nil)) pe_str (nomark _))))) pss_never pss_nil))))))), ?_⟩
  refine seq_cut fun nxC hnxC => ?_
  have hkl : ks.length < 64 := by have h1 := hperm.length_eq; have h2 := keys_le ns ns.length; omega
  refine ⟨_, rfl, c, _, ks, rfl, .inl hc, (by unfold dI; rw [List.map_map]; rfl), hkl, fun l1 out1 hl1 pm1 st1 => ?_⟩
  have s1 : Same H (upd H l1 (.lst (out1.map V.int))) := Same.new hl1
  have ta1 := ta.same s1
  obtain ⟨dx, cl, na, sp, mt, o, f, B⟩ := id ta1
  refine ⟨_, rfl, p, dx, _, rfl, B.ins, fl_none _ _ _ _, p, M, ns, rfl, ta1, h64, fun l2 out2 hl2 pm2 st2 => ?_⟩
  have s2 : Same (upd H l1 (.lst (out1.map V.int))) (upd (upd H l1 (.lst (out1.map V.int))) l2 (.lst (out2.map V.int))) := Same.new hl2
  refine ⟨l1, l2, out1, out2, rfl, rfl, SqL.of (s2 _ _ upd_same), SqL.of upd_same, _, rfl, ?_⟩
  obtain rfl := sorted_eq (pm1.trans hperm) pm2 st1 st2
  rw [decide_eq_true rfl]
  refine iteF ?_
  have s12 := s1.trans s2
  generalize upd (upd H l1 (.lst (out1.map V.int))) l2 (.lst (out1.map V.int)) = H2 at s12 ⊢
  clear B ta1 s1 s2 pm1 st1 pm2 st2 hl1 hl2
  try dsimp only [tNext]
  refine hnxC _ _ ?_
  have hc2 := s12 _ _ hc
  have ta2 := ta.same s12
  refine ⟨_, rfl, c, _, rfl, .inl ⟨hc2, fun o => ?_⟩⟩
  refine for_items (fun i σ H9 => ∃ v2 v3 : Option V, σ = [some (.ref p), some (.ref c), v2, v3] ∧ (∀ b u, b ≠ c → H2 b = some u → H9 b = some u) ∧ H9 c = some (.frz o (.dK (dI ks g)))) ⟨none, none, rfl, fun b u hb e => by rw [upd_ne hb]; exact e, upd_same⟩ ?_ ?_ ?_
  ·rintro i σ H9 _ ⟨v2, v3, rfl, _, e⟩
   exact e
  ·rintro i k0 x0 σ H9 q hk0 hq ⟨v2, v3, rfl, s9, h9⟩
   obtain ⟨y, hy, rfl, rfl⟩ : ∃ y, y ∈ ks ∧ k0 = Sum.inl y ∧ x0 = V.int (g y) := by
    unfold dI at hk0
    rw [List.getElem?_map] at hk0
    cases e : ks[i]? with
    | none => rw [e] at hk0; cases hk0
    | some z => rw [e] at hk0; cases hk0; exact ⟨z, List.mem_of_getElem? e, rfl, rfl⟩
   have hy' : y ∈ keys ns ns.length := hperm.mem_iff.mp hy
   have sq : Same H9 (upd H9 q (.tup [kV (Sum.inl y), V.int (g y)])) := Same.new hq
   have taq : TentAt t.C_Tent (upd H9 q (.tup [kV (Sum.inl y), V.int (g y)])) p M ns := (ta2.sameD (fun b u hu e => s9 b u (fun z => by rw [z, hc2] at e; cases e; exact hu _ rfl) e)).same sq
   refine ⟨q, _, rfl, SqT.of upd_same, rfl, _, _, rfl, _, _, rfl, rfl, ?_⟩
   refine seq_cut fun nxC hnxC => ?_
   refine ⟨_, rfl, _, _, rfl, rfl, _, rfl, ?_⟩
   rw [decide_eq_false (show ¬ g y < 0 from by have := ok.nn y hy'; omega)]
   refine iteF ?_
   try dsimp only [tNext]
   refine hnxC _ _ ?_
   refine ⟨_, rfl, _, _, rfl, rfl, _, rfl, ?_⟩
   have nx9 : ∀ H', Same (upd H9 q (.tup [kV (Sum.inl y), V.int (g y)])) H' → ∃ v2 v3 : Option V, [some (.ref p), some (.ref c), some (V.int y), some (V.int (g y))] = [some (.ref p), some (.ref c), v2, v3] ∧ (∀ b u, b ≠ c → H2 b = some u → H' b = some u) ∧ H' c = some (.frz o (.dK (dI ks g))) := fun H' s' => ⟨_, _, rfl, fun b u hb e => s' _ _ (sq _ _ (s9 b u hb e)), s' _ _ (sq _ _ h9)⟩
   refine ite2 (fun z => ?_) (fun _ => iteF (nx9 _ (Same.refl _)))
   have hg0 : 0 < g y := of_decide_eq_true z
   obtain ⟨dx, cl, na, sp, mt, o', f, B⟩ := id taq
   refine ⟨_, rfl, p, dx, _, rfl, B.ins, fl_none _ _ _ _, _, rfl, p, M, ns, y, rfl, taq, td, fun _ H' s' => ?_, fun z => absurd hy' z⟩
   refine ⟨rfl, _, rfl, ?_⟩
   by_cases e : sortOf ns y = "rim"
   ·obtain ⟨a, ma, na⟩ := rim_of td hy' e
    have := ok.rim a y ma na
    omega
   ·rw [str_ne e]
    exact iteF (nx9 H' s')
  ·rintro σ H9 ⟨v2, v3, rfl, s9, h9⟩
   refine ⟨c, o, _, h9, fun o' u z => ?_, ?_⟩
   ·have z : H c = some (.frz o' u) := z
    rw [hc] at z; cases z
   ·refine k _ fun b u e => ?_
    by_cases hb : b = c
    ·subst hb
     rw [upd_same]
     rw [hc] at e; exact e
    ·rw [upd_ne hb]
     exact s9 b u hb (s12 b u e)
theorem sc_look_counts : FnScope ["tent", "counts", "triples"] ["tent", "counts"] (defScope s_look_counts) := ⟨rfl, rfl, rfl, by decide +kernel, rfl, by decide +kernel, by decide +kernel⟩
theorem ok_look_counts (T : Txt w K mg t) : FnOk P w K mg base (CXr P w) 4 t.f_look_counts t.d_look_counts ["tent", "counts"] (sp_look_numbers t.C_Tent) := by
  refine T.p_look_counts.F.okR sc_look_counts (fun vs H Q E h => ?_) (fun cdv A outer s H vs Q E hr h => ?_)
  · obtain ⟨p, c, M, ns, g, rfl, _⟩ := h
    rfl
  · obtain ⟨p, c, M, ns, g, rfl, ta, td, h64, hcnt, ok, k⟩ := h
    have hu := hu_of hr
    refine ⟨_, (pss_cons (ps_expr (pe_call (ok_look_numbers T) (hr.mono (by decide)) rfl T.p_look_numbers.g T.p_look_numbers.F.kp T.p_look_numbers.b .nil passR (pa_cons (pv 0) (pa_cons (pv 1) pa_nil))))
      (pss_cons (ps_setCompG (ts := ["row"]) (fv := [("counts", 1)]) (i := 2) ⟨rfl, by decide +kernel, by decide +kernel, blkFree (by rfl), ⟨⟨rfl, rfl, Or.inl rfl⟩, trivial⟩⟩ rfl sc_look_counts.nd rfl rfl (by rfl) (pi_list (pe_meth0 (pv 0) T.cl_Tent T.p_Tent_rows.m (ok_Tent_rows T) (hr.mono (by decide)) T.p_Tent_rows.b .nil passR)) (fun _ _ _ _ => (pg_name (i := 0) (show List.Nodup (["row", "counts"] : List Str) from by decide +kernel) rfl (Or.inl rfl) (Or.inr rfl))) (fun _ _ _ _ => pts_nil) (fun _ _ _ => rfl) (fun _ _ _ _ _ _ => pb_emit (pe_compG (ts := ["seam"]) (fv := [("counts", 1)]) ⟨rfl, by decide +kernel, by decide +kernel, blkFree (by rfl), ⟨⟨rfl, rfl, Or.inl rfl⟩, trivial⟩⟩ rfl (pi_tupK K (pv 0)) (fun _ _ _ _ => (pg_name (i := 0) (show List.Nodup (["seam", "counts"] : List Str) from by decide +kernel) rfl (Or.inl rfl) (Or.inr rfl))) (fun _ _ _ _ => pts_nil) (fun _ _ _ => rfl) (fun _ _ _ _ _ _ => pb_emit (pe_dget hu (pv 1) (pv 0) (fun _ _ => rfl))))))
      (pss_cons (ps_if (pt_val (pe_callB (call_anyB rfl) (by rfl) T.n_any PyProof.Rows.boot_any (pa_cons (pe_compG (ts := ["triple"]) (fv := []) ⟨rfl, by decide +kernel, by decide +kernel, blkFree (by rfl), trivial⟩ rfl (pi_list (pv 2)) (fun _ _ _ _ => (pg_name (i := 0) (show List.Nodup (["triple"] : List Str) from by decide +kernel) rfl (Or.inl rfl) (Or.inr rfl))) (fun _ _ _ _ => pts_nil) (fun _ _ _ => rfl) (fun _ _ _ _ _ _ => pb_emit (pe_cmpR op_eq (pe_op op_mod (pe_callB (call_sumLK K rfl) (by rfl) T.n_sum PyProof.Rows.boot_sum (pa_cons (pv 0) pa_nil)) pe_int) pe_int (nomark _)))) pa_nil))) pss_never pss_nil)
      (pss_one (ps_if (pt_val (pe_callB (call_anyB rfl) (by rfl) T.n_any PyProof.Rows.boot_any (pa_cons (pe_compG (ts := ["triple"]) (fv := []) ⟨rfl, by decide +kernel, by decide +kernel, blkFree (by rfl), trivial⟩ rfl (pi_list (pv 2)) (fun _ _ _ _ => (pg_name (i := 0) (show List.Nodup (["triple"] : List Str) from by decide +kernel) rfl (Or.inl rfl) (Or.inr rfl))) (fun _ _ _ _ => pts_nil) (fun _ _ _ => rfl) (fun _ _ _ _ _ _ => pb_emit (pe_cmpR op_gt (pe_op op_mul pe_int (pe_callB (call_maxLK K rfl) (by rfl) T.n_max PyProof.Rows.boot_max (pa_cons (pv 0) pa_nil))) (pe_callB (call_sumLK K rfl) (by rfl) T.n_sum PyProof.Rows.boot_sum (pa_cons (pv 0) pa_nil)) (nomark _)))) pa_nil))) pss_never pss_nil))))), ?_⟩
    refine seq_cut fun nxC hnxC => ?_
    refine ⟨_, rfl, _, rfl, p, c, M, ns, g, rfl, ta, td, h64, hcnt, ok, fun H1 s1 => ?_⟩
    refine hnxC _ _ ?_
    have ta1 := ta.same s1
    have hc1 := hcnt.same s1
    obtain ⟨n, n1, n40, hn⟩ := td.n
    have hMl := td.len
    refine seq_cut fun nxC hnxC => ?_
    obtain ⟨dx, cl, na, sp, mt, o, f, B⟩ := id ta1
    refine ⟨_, rfl, p, dx, _, rfl, B.ins, fl_none _ _ _ _, p, M, ns, rfl, ta1, fun lr ts hlr ts1 ts2 => ?_⟩
    have s2 : Same H1 (upd H1 lr (.lst (ts.map V.ref))) := Same.new hlr
    have h2 : (upd H1 lr (.lst (ts.map V.ref))) lr = some (.lst (ts.map V.ref)) := upd_same
    have h2t : ∀ (k : Nat) (t : Addr), ts[k]? = some t → (upd H1 lr (.lst (ts.map V.ref))) t = some (.tup (row3 ns k)) := fun k t e => s2 _ _ (ts2 k t e)
    generalize upd H1 lr (.lst (ts.map V.ref)) = H2 at s2 h2 h2t ⊢
    refine ⟨lr, rfl, ⟨_, SqL.of h2⟩, fun D hD => ?_⟩
    obtain ⟨ks, hc2, hperm⟩ := hc1.same s2
    clear B ts2 hlr
    have s12 := s1.trans s2
    have htn : ts.length = n := by omega
    refine loop_list (xs := ts.map V.ref) (fun i σ H3 => ∃ (v : Option V) (us : List Addr), σ = [v, some (.ref c)] ∧ Same H2 H3 ∧ H3 D = some (.lst (us.map V.ref)) ∧ us.length = i ∧ ∀ (k : Nat) (u : Addr), us[k]? = some u → H3 u = some (.lst ((g3 ns g k).map V.int))) ⟨none, [], rfl, Same.new hD, upd_same, rfl, fun k u e => by simp at e⟩ ?_ ?_ ?_
    · rintro i σ H3 _ ⟨v, us, rfl, sm, _⟩
      exact SqL.of (sm _ _ h2)
    · rintro i y σ H3 hy ⟨v, us, rfl, sm, h3, hu3, hus⟩
      obtain ⟨q, hq, rfl⟩ := map_some hy
      have hi : i < n := by rw [← htn]; exact (List.getElem?_eq_some_iff.mp hq).1
      dsimp only [gName, tYes]
      rw [if_pos rfl]
      have hq3 := sm _ _ (h2t i q hq)
      refine ⟨_, rfl, q, rfl, ⟨_, SqT.of hq3⟩, fun D2 hD2 => ?_⟩
      refine loop_tup (xs := row3 ns i) (fun j σ H4 => ∃ (v' : Option V), σ = [v', some (.ref c)] ∧ Same H3 H4 ∧ H4 D2 = some (.lst (((g3 ns g i).take j).map V.int))) ⟨none, rfl, Same.new hD2, upd_same⟩ ?_ ?_ ?_
      · rintro j σ H4 _ ⟨v', rfl, sm4, h4⟩
        exact SqT.of (sm4 _ _ hq3)
      · rintro j x σ H4 hx ⟨v', rfl, sm4, h4⟩
        dsimp only [gName, tYes]
        rw [if_pos rfl]
        obtain ⟨z, hz, rfl, hg⟩ := g3_at (g := g) hx
        have hzk : z ∈ ks := hperm.mem_iff.mpr (hz (by omega))
        refine ⟨_, rfl, _, rfl, c, _, rfl, cnt_get (sm4 _ _ (sm _ _ hc2)) hzk, ?_⟩
        refine ⟨_, h4, ?_, _, rfl, Same.add sm4 hD2, ?_⟩
        · rw [List.length_map, List.length_take]
          exact small1000 (by have : (g3 ns g i).length = 3 := rfl; omega)
        · rw [upd_same, List.take_add_one, hg]
          simp
      · rintro σ H4 ⟨v', rfl, sm4, h4⟩
        have h4' : H4 D2 = some (.lst ((g3 ns g i).map V.int)) := h4
        refine ⟨_, sm4 _ _ h3, (by rw [List.length_map]; exact small1000 (by omega)), _, us ++ [D2], rfl, Same.add (sm.trans sm4) hD, ?_, ?_, ?_⟩
        · rw [upd_same]; simp
        · rw [List.length_append, List.length_singleton, hu3]
        · intro k u z
          by_cases hk : k < us.length
          · rw [List.getElem?_append_left hk] at z
            have gg := sm4 _ _ (hus k u z)
            rw [upd_ne (fun e => by rw [e, sm4 _ _ h3] at gg; exact g3_ref gg)]
            exact gg
          · have hk2 : k = us.length := by
              have := (List.getElem?_eq_some_iff.mp z).1
              rw [List.length_append, List.length_singleton] at this
              omega
            subst hk2
            have : u = D2 := by simpa using z.symm
            subst this
            rw [hu3, upd_ne (fun e => by rw [e, sm4 _ _ h3] at h4'; exact g3_ref h4')]
            exact h4'
    rintro σ H3 ⟨v, us, rfl, sm, h3, hu3, hus⟩
    refine hnxC _ _ ?_
    try dsimp only [gName]
    have hcl : ∀ k, k < us.length → 3 * k + 2 < ns.length := fun k hk => by rw [hu3, List.length_map] at hk; omega
    have hul : us.length ≤ 1000 := by rw [hu3, List.length_map]; omega
    clear h2 h2t hD
    refine seq_cut fun nxC hnxC => ?_
    refine ⟨_, rfl, D, rfl, ⟨_, SqL.of h3⟩, fun D1 hD1 => ?_⟩
    refine loop_list (xs := us.map V.ref) (fun i σ H4 => ∃ (v : Option V), σ = [v] ∧ Same H3 H4 ∧ H4 D1 = some (.lst ((List.replicate i false).map V.bl))) ⟨none, rfl, Same.new hD1, upd_same⟩ ?_ ?_ ?_
    · rintro i σ H4 _ ⟨v, rfl, s4, _⟩
      exact SqL.of (s4 _ _ h3)
    · rintro i y σ H4 hy ⟨v, rfl, s4, h4⟩
      obtain ⟨u, hu0, rfl⟩ := map_some hy
      have hi : i < us.length := (List.getElem?_eq_some_iff.mp hu0).1
      dsimp only [gName, tYes]
      rw [if_pos rfl]
      refine ⟨_, rfl, u, _, rfl, SqL.of (s4 _ _ (hus i u hu0)), _, _, rfl, rfl, (by show (0 : Int) < 2; decide), rfl, ?_⟩
      have e : (g3 ns g i).sum % 2 = 0 := by
        have := ok.even i (hcl i hi)
        simp only [g3, List.sum_cons, List.sum_nil]
        omega
      refine ⟨_, h4, (by rw [List.length_map, List.length_replicate]; exact small1000 (by omega)), _, rfl, Same.add s4 hD1, ?_⟩
      rw [upd_same, List.replicate_succ', List.map_append]
      show some (HO.lst (_ ++ [V.bl (decide (V.int ((g3 ns g i).sum % 2) = V.int 1))])) = _
      rw [e]
      rfl
    rintro σ H4 ⟨v, rfl, s4, h4⟩
    refine ⟨D1, _, rfl, SqL.of h4, _, rfl, ?_⟩
    rw [any_false]
    refine iteF ?_
    try dsimp only [tNext]
    refine hnxC _ _ ?_
    have h34 := s4 _ _ h3
    have hus4 : ∀ (k : Nat) (u : Addr), us[k]? = some u → H4 u = some (.lst ((g3 ns g k).map V.int)) := fun k u e => s4 _ _ (hus k u e)
    have s14 := s12.trans (sm.trans s4)
    clear h3 hus h4 s4 hD1
    refine ⟨_, rfl, D, rfl, ⟨_, SqL.of h34⟩, fun D1 hD1 => ?_⟩
    refine loop_list (xs := us.map V.ref) (fun i σ H5 => ∃ (v : Option V), σ = [v] ∧ Same H4 H5 ∧ H5 D1 = some (.lst ((List.replicate i false).map V.bl))) ⟨none, rfl, Same.new hD1, upd_same⟩ ?_ ?_ ?_
    · rintro i σ H5 _ ⟨v, rfl, s5, _⟩
      exact SqL.of (s5 _ _ h34)
    · rintro i y σ H5 hy ⟨v, rfl, s5, h5⟩
      obtain ⟨u, hu0, rfl⟩ := map_some hy
      have hi : i < us.length := (List.getElem?_eq_some_iff.mp hu0).1
      dsimp only [gName, tYes]
      rw [if_pos rfl]
      have hu5 := s5 _ _ (hus4 i u hu0)
      refine ⟨_, rfl, u, _, rfl, SqL.of hu5, (by show 0 < 3; decide), fun m hm hmx => ?_⟩
      refine ⟨_, _, rfl, rfl, (by show CMul 2 m; exact .inl ⟨by decide, by decide⟩), _, rfl, u, _, rfl, SqL.of hu5, _, _, rfl, rfl, ?_⟩
      have e : ¬ (g3 ns g i).sum < 2 * m := by
        obtain ⟨t1, t2, t3⟩ := ok.tri i (hcl i hi)
        simp only [g3, List.sum_cons, List.sum_nil]
        simp only [g3, List.mem_cons, List.not_mem_nil, or_false] at hm
        rcases hm with rfl | rfl | rfl <;> omega
      refine ⟨_, h5, (by rw [List.length_map, List.length_replicate]; exact small1000 (by omega)), _, rfl, Same.add s5 hD1, ?_⟩
      rw [upd_same, List.replicate_succ', List.map_append]
      show some (HO.lst (_ ++ [V.bl (decide ((g3 ns g i).sum < 2 * m))])) = _
      rw [decide_eq_false e]
      rfl
    rintro σ H5 ⟨v, rfl, s5, h5⟩
    refine ⟨D1, _, rfl, SqL.of h5, _, rfl, ?_⟩
    rw [any_false]
    refine iteF ?_
    exact k _ (s14.trans s5)
end
end KT
set_option maxHeartbeats 4000000
namespace KT
open PySem L2
noncomputable def sp_look_cX (C EN : Addr) : Sp := fun vs H Q E => ∃ (p c : Addr) (M : List (Option Nat)) (ns : List Int) (kvs : List (Key × V)) (ks : List Int), vs = [.ref p, .ref c] ∧ TentAt C H p M ns ∧ ns.length < 64 ∧ H c = some (.dK kvs) ∧ kvs.map (·.1) = ks.map Sum.inl ∧ ks.length < 64 ∧ ¬ ks.Perm (keys ns ns.length) ∧ ∀ H', Same H H' → E (.ref EN) none H'
section
variable {P : Program} {w : World} {K : PySem.W.Frag} {mg : Str → Option Value} {base : Heap} {t : Adr}
theorem ok_look_numbersX (T : Txt w K mg t) : FnOk P w K mg base (CXr P w) 3 t.f_look_numbers t.d_look_numbers ["tent", "counts"] (sp_look_cX t.C_Tent t.E_NoCounts) := by
 refine T.p_look_numbers.F.okX sc_look_numbers (fun vs H Q E h => ?_) (fun cdv A outer s H vs Q E hr h => ?_)
 ·obtain ⟨p, c, M, ns, kvs, ks, rfl, _⟩ := h
  rfl
 ·obtain ⟨p, c, M, ns, kvs, ks, rfl, ta, h64, hc, hk, hkl, np, k⟩ := h
  refine ⟨_, (pssx_cons (psx_if (pt_cmpR (op_neL hr.units) (pe_callB (call_sortedD rfl) (by rfl) T.n_sorted PyProof.Rows.boot_sorted (pa_cons (pv 1) pa_nil)) (pe_meth0 (pv 0) T.cl_Tent T.p_Tent_seams.m (ok_Tent_seams T) (hr.mono (by decide)) T.p_Tent_seams.b .nil passR) (nomark _)) (pssx_one (psx_raise T.x_NoCounts FBV rfl T.gx_NoCounts rfl (pa_cons pe_str pa_nil))) pssx_nil)
   (pssx_of pss_never)), ?_⟩
  refine ⟨_, rfl, c, _, ks, rfl, .inl hc, hk, hkl, fun l1 out1 hl1 pm1 st1 => ?_⟩
  have s1 : Same H (upd H l1 (.lst (out1.map V.int))) := Same.new hl1
  have ta1 := ta.same s1
  obtain ⟨dx, cl, na, sp, mt, o, f, B⟩ := id ta1
  refine ⟨_, rfl, p, dx, _, rfl, B.ins, fl_none _ _ _ _, p, M, ns, rfl, ta1, h64, fun l2 out2 hl2 pm2 st2 => ?_⟩
  have s2 : Same (upd H l1 (.lst (out1.map V.int))) (upd (upd H l1 (.lst (out1.map V.int))) l2 (.lst (out2.map V.int))) := Same.new hl2
  refine ⟨l1, l2, out1, out2, rfl, rfl, SqL.of (s2 _ _ upd_same), SqL.of upd_same, _, rfl, ?_⟩
  have hne : ¬ out1 = out2 := fun e => np (by rw [← e] at pm2; exact pm1.symm.trans pm2)
  rw [decide_eq_false hne]
  exact iteT ⟨by decide, k _ (s1.trans s2)⟩
theorem ok_look_countsX (T : Txt w K mg t) : FnOk P w K mg base (CXr P w) 4 t.f_look_counts t.d_look_counts ["tent", "counts"] (sp_look_cX t.C_Tent t.E_NoCounts) := by
 refine T.p_look_counts.F.okX sc_look_counts (fun vs H Q E h => ?_) (fun cdv A outer s H vs Q E hr h => ?_)
 ·obtain ⟨p, c, M, ns, kvs, ks, rfl, _⟩ := h
  rfl
 ·obtain ⟨p, c, M, ns, kvs, ks, rfl, h⟩ := h
  refine ⟨_, (pssx_cons (psx_expr (pex_call (ok_look_numbersX T) (hr.mono (by decide)) rfl T.p_look_numbers.g T.p_look_numbers.F.kp T.p_look_numbers.b .nil (pa_cons (pv 0) (pa_cons (pv 1) pa_nil))))
   (pssx_of pss_never)), ?_⟩
  exact ⟨_, rfl, _, rfl, p, c, M, ns, kvs, ks, rfl, h⟩
theorem ok_look_countsB (T : Txt w K mg t) : FnOk P w K mg base (CXr P w) 4 t.f_look_counts t.d_look_counts ["tent", "counts"] (fun vs H Q E => sp_look_numbers t.C_Tent vs H Q E ∨ sp_look_cX t.C_Tent t.E_NoCounts vs H Q E) := (ok_look_counts T).or (ok_look_countsX T)
end
end KT
set_option maxHeartbeats 4000000
namespace KT
open PySem L2
noncomputable def Oth2 (p st : Addr) (H H' : Hp) : Prop := ∀ b u, b ≠ p → b ≠ st → H b = some u → H' b = some u
theorem Deeds.same {H H' : Hp} {st : Addr} {ds : List Str} (h : Deeds H st ds) (s : Same H H') : Deeds H' st ds := by
 obtain ⟨qs, h1, h2, h3⟩ := h
 exact ⟨qs, s _ _ h1, h2, fun i q x a b => (h3 i q x a b).imp fun v e => s _ _ e⟩
noncomputable def HS (CT CS CH : Addr) (H : Hp) (p st : Addr) (M : List (Option Nat)) (ns : List Int) (l1 l2 ds : List Str) : Prop := ∃ (dx be sc un dxs te th po : Addr) (wo : V) (L1 L2 : List (Str × V)), H p = some (.ins CH dx (hflds be sc st un)) ∧ H sc = some (.ins CS dxs (sflds (.ref te) (.ref th) (.ref po) wo)) ∧ H th = some (.dK (dS L1)) ∧ H po = some (.dK (dS L2)) ∧
 TentAt CT H te M ns ∧ Deeds H st ds ∧ L1.map (·.1) = l1 ∧ L2.map (·.1) = l2
theorem HS.same {CT CS CH : Addr} {H H' : Hp} {p st : Addr} {M : List (Option Nat)} {ns : List Int} {l1 l2 ds : List Str} (h : HS CT CS CH H p st M ns l1 l2 ds) (s : Same H H') : HS CT CS CH H' p st M ns l1 l2 ds := by
 obtain ⟨dx, be, sc, un, dxs, te, th, po, wo, L1, L2, h1, h2, h3, h4, h5, h6, h7⟩ := h
 exact ⟨dx, be, sc, un, dxs, te, th, po, wo, L1, L2, s _ _ h1, s _ _ h2, s _ _ h3, s _ _ h4, h5.same s, h6.same s, h7⟩
theorem hasS_mem {L : List (Str × V)} {x : Str} : hasS L x = decide (x ∈ L.map (·.1)) := by
 unfold hasS
 induction L with
 | nil => rfl
 | cons kv L ih =>
  rw [List.any_cons, ih, List.map_cons]
  by_cases c : kv.1 = x
  ·rw [decide_eq_true c, Bool.true_or]
   exact (decide_eq_true (by rw [← c]; exact List.mem_cons_self)).symm
  ·rw [decide_eq_false c, Bool.false_or]
   congr 1
   rw [List.mem_cons, eq_iff_iff]
   exact ⟨.inr, fun h => h.elim (fun e => absurd e.symm c) id⟩
theorem hfl_ne {be sc st un cl na sp mt : Addr} : hflds be sc st un ≠ tflds cl na sp mt := fun e => by
 have e1 : (hflds be sc st un).map (·.1) = (tflds cl na sp mt).map (·.1) := by rw [e]
 have e2 : (hflds be sc st un).map (·.1) = (hflds 0 0 0 0).map (·.1) := rfl
 have e3 : (tflds cl na sp mt).map (·.1) = (tflds 0 0 0 0).map (·.1) := rfl
 rw [e2, e3] at e1
 exact absurd e1 (by decide)
theorem ref_ne {α : Type} {g : α → V} (hg : ∀ a r, g a ≠ .ref r) : ∀ {xs : List α} {ys : List Addr}, xs ≠ [] → xs.map g ≠ ys.map V.ref
 | [], _, h, _ => h rfl
 | x :: xs, [], _, e => by cases e
 | x :: xs, y :: ys, _, e => by injection e with e _; exact hg _ _ e
theorem TentAt.oth2 {C CH : Addr} {H H' : Hp} {p st dx be sc un x : Addr} {ds : List Str} {M : List (Option Nat)} {ns : List Int} (h : TentAt C H x M ns) (hne : ns ≠ []) (hMl : M.length = ns.length) (hp : H p = some (.ins CH dx (hflds be sc st un))) (hd : Deeds H st ds) (s : Oth2 p st H H') : TentAt C H' x M ns := by
 obtain ⟨dt, cl, na, sp, mt, o, f, B⟩ := h
 obtain ⟨qs, d1, d2, d3⟩ := hd
 have np : ∀ {b u}, H b = some u → (∀ C d f, u ≠ .ins C d f) → b ≠ p := fun {b u} e hu z => by rw [z, hp] at e; exact hu _ _ _ (Option.some.inj e).symm
 have ls : ∀ b xs, H b = some (.lst xs) → (∀ ys : List Addr, xs ≠ ys.map V.ref) → H' b = some (.lst xs) := fun b xs e hy => s b _ (np e (fun _ _ _ z => nomatch z)) (fun z => by rw [z, d1] at e; injection e with e; injection e with e; exact hy _ e.symm) e
 have hx : x ≠ p := fun z => by
  have := B.ins
  rw [z, hp] at this
  injection this with e
  injection e with _ _ e
  exact hfl_ne e
 have xs' : x ≠ st := fun z => by have := B.ins; rw [z, d1] at this; cases this
 obtain ⟨ts, r1, r2, r3⟩ := B.rows
 have hcl : cl ≠ st := fun z => by
  rw [z, d1] at r1
  injection r1 with e
  injection e with e
  cases ts with
  | nil => rw [List.length_nil] at r2; exact hne (List.eq_nil_of_length_eq_zero r2)
  | cons a ts =>
   cases qs with
   | nil => cases e
   | cons q qs =>
    injection e with e _
    injection e with e
    subst e
    cases ds with
    | nil => cases d2
    | cons y ds =>
     obtain ⟨v, hv⟩ := d3 0 q y rfl rfl
     rw [r3 0 q rfl] at hv
     injection hv with hv
     injection hv with hv
     have := congrArg List.length hv
     exact absurd this (by show 3 ≠ 2; decide)
 refine ⟨dt, cl, na, sp, mt, o, f, s _ _ hx xs' B.ins, ⟨ts, s _ _ (np r1 (fun _ _ _ z => nomatch z)) hcl r1, r2, fun k t e => ?_⟩, ls _ _ B.names fun ys => ref_ne (g := V.int) (fun _ _ z => nomatch z) hne, ?_, ls _ _ B.mates fun ys => ref_ne (fun a r z => by cases a <;> cases z) (fun z => by rw [z] at hMl; exact hne (List.eq_nil_of_length_eq_zero hMl.symm)), fun y hy => ls _ _ (B.at' y hy) fun ys => ref_ne (g := nV) (fun _ _ z => nomatch z) fun z => ?_⟩
 ·have h1 := r3 k t e
  exact s _ _ (np h1 (fun _ _ _ z => nomatch z)) (fun z => by rw [z, d1] at h1; cases h1) h1
 ·have h1 := B.spots
  exact s _ _ (np h1 (fun _ _ _ z => nomatch z)) (fun z => by rw [z, d1] at h1; cases h1) h1
 ·obtain ⟨i, hi, hx⟩ := keys_mem.mp hy
  have := pl_mem.mpr ⟨hi, hx⟩
  rw [z] at this
  cases this
noncomputable def sp_Hall_names (CT CS CH : Addr) (two : Bool) : Sp := fun vs H Q _ => ∃ (p st : Addr) (M : List (Option Nat)) (ns : List Int) (l1 l2 ds : List Str), vs = [.ref p] ∧ HS CT CS CH H p st M ns l1 l2 ds ∧ (if two then l2 else l1).length < 64 ∧ ∀ (q : Addr) (out : List Str), H q = none → out.Perm (if two then l2 else l1) → PyProof.Rows.sortedS out = true → Q (.ref q) (upd H q (.lst (out.map V.str)))
theorem dS_keys (L : List (Str × V)) : (dS L).map (·.1) = (L.map (·.1)).map Sum.inr := by
 unfold dS
 rw [List.map_map, List.map_map]
 rfl
section
variable {P : Program} {w : World} {K : PySem.W.Frag} {mg : Str → Option Value} {base : Heap} {t : Adr}
theorem sc_Hall_names : FnScope ["self"] ["self"] (defScope s_Hall_names) := ⟨rfl, rfl, rfl, by decide +kernel, rfl, by decide +kernel, by decide +kernel⟩
theorem ok_Hall_names (T : Txt w K mg t) : FnOk P w K mg base (CXr P w) 1 t.f_Hall_names t.d_Hall_names ["self"] (sp_Hall_names t.C_Tent t.C_Scene t.C_Hall false) := by
 refine T.p_Hall_names.F.okR sc_Hall_names (fun vs H Q E h => ?_) (fun cdv A outer s H vs Q E hr h => ?_)
 ·obtain ⟨p, st, M, ns, l1, l2, ds, rfl, _⟩ := h
  rfl
 ·obtain ⟨p, st, M, ns, l1, l2, ds, rfl, ⟨dx, be, sc, un, dxs, te, th, po, wo, L1, L2, h1, h2, h3, h4, h5, h6, rfl, rfl⟩, hl, k⟩ := h
  refine ⟨_, (pss_one (ps_ret (pe_callB (call_sortedDS rfl) (by rfl) T.n_sorted PyProof.Rows.boot_sorted (pa_cons (pe_fld (pe_fld (pv 0) rfl) rfl) pa_nil)))), ?_⟩
  exact ⟨_, rfl, p, _, dx, _, .ref sc, rfl, h1, T.cl_Hall, T.a_Hall_scene, rfl, sc, _, dxs, _, .ref th, rfl, h2, T.cl_Scene, T.a_Scene_threads, rfl, th, _, _, rfl, .inl h3, dS_keys L1, hl, k⟩
theorem sc_Hall_families : FnScope ["self"] ["self"] (defScope s_Hall_families) := ⟨rfl, rfl, rfl, by decide +kernel, rfl, by decide +kernel, by decide +kernel⟩
theorem ok_Hall_families (T : Txt w K mg t) : FnOk P w K mg base (CXr P w) 1 t.f_Hall_families t.d_Hall_families ["self"] (sp_Hall_names t.C_Tent t.C_Scene t.C_Hall true) := by
 refine T.p_Hall_families.F.okR sc_Hall_families (fun vs H Q E h => ?_) (fun cdv A outer s H vs Q E hr h => ?_)
 ·obtain ⟨p, st, M, ns, l1, l2, ds, rfl, _⟩ := h
  rfl
 ·obtain ⟨p, st, M, ns, l1, l2, ds, rfl, ⟨dx, be, sc, un, dxs, te, th, po, wo, L1, L2, h1, h2, h3, h4, h5, h6, rfl, rfl⟩, hl, k⟩ := h
  refine ⟨_, (pss_one (ps_ret (pe_callB (call_sortedDS rfl) (by rfl) T.n_sorted PyProof.Rows.boot_sorted (pa_cons (pe_fld (pe_fld (pv 0) rfl) rfl) pa_nil)))), ?_⟩
  exact ⟨_, rfl, p, _, dx, _, .ref sc, rfl, h1, T.cl_Hall, T.a_Hall_scene, rfl, sc, _, dxs, _, .ref po, rfl, h2, T.cl_Scene, T.a_Scene_pools, rfl, po, _, _, rfl, .inl h4, dS_keys L2, hl, k⟩
end
end KT
set_option maxHeartbeats 4000000
namespace KT
open PySem L2
noncomputable def cntS (g : Int → Int) (x : Int) : Str := (Str.empty ++ (toString x : Str)) ++ (Str.ofString ":") ++ figS (g x)
noncomputable def sp_counts_text : Sp := fun vs H Q _ => ∃ (c : Addr) (ks : List Int) (g : Int → Int), vs = [.ref c] ∧ H c = some (.dK (dI ks g)) ∧ ks.length < 64 ∧ (∀ x ∈ ks, 0 ≤ x ∧ x ≤ 9999 ∧ 0 ≤ g x ∧ g x < 1000000000000000000000000000000000000000000000000000000000000) ∧ ∀ (H' : Hp) (r : Str), Same H H' → Asc r → r.length ≤ 5000 → Q (.str r) H'
theorem cnt_len {g : Int → Int} {x : Int} (h : 0 ≤ x ∧ x ≤ 9999 ∧ 0 ≤ g x ∧ g x < 1000000000000000000000000000000000000000000000000000000000000) : (cntS g x).length ≤ 71 := by
 unfold cntS
 rw [app_len, app_len, app_len]
 have h1 := fig_le h.2.2.1 h.2.2.2
 have h2 : (toString x : Str).length ≤ 10 := PySem.W.KT.len_num h.1 (by omega)
 have h3 : Str.empty.length = 0 := rfl
 have h4 : (Str.ofString ":").length = 1 := by decide
 omega
theorem asc_cnt (g : Int → Int) (x : Int) : Asc (cntS g x) := by
 unfold cntS
 refine (Asc.app (Asc.app (fun c hc => ?_) (Asc.num x)) (fun c hc => ?_)).app (asc_fig _)
 ·have hc : c ∈ ([] : List Nat) := hc; cases hc
 ·revert c hc; show ∀ c ∈ [58], c < 128; decide
section
variable {P : Program} {w : World} {K : PySem.W.Frag} {mg : Str → Option Value} {base : Heap} {t : Adr}
theorem sc_counts_text : FnScope ["counts"] ["counts"] (defScope s_counts_text) := ⟨rfl, rfl, rfl, by decide +kernel, rfl, by decide +kernel, by decide +kernel⟩
theorem ok_counts_text (T : Txt w K mg t) : FnOk P w K mg base (CXr P w) 2 t.f_counts_text t.d_counts_text ["counts"] sp_counts_text := by
 refine T.p_counts_text.F.okR sc_counts_text (fun vs H Q E h => ?_) (fun cdv A outer s H vs Q E hr h => ?_)
 ·obtain ⟨c, ks, g, rfl, _⟩ := h
  rfl
 ·obtain ⟨c, ks, g, rfl, hc, hl, hk, k⟩ := h
  have hu := hu_of hr
  refine ⟨_, (pss_one (ps_ret (pe_bm PySem.F.plainAttrs_str PySem.F.slot_str_join PySem.F.type_str_join mt_join pe_str (pa_cons (pe_compG (ts := ["seam"]) (fv := [("counts", 0)]) ⟨rfl, by decide +kernel, by decide +kernel, blkFree (by rfl), ⟨⟨rfl, rfl, Or.inl rfl⟩, trivial⟩⟩ rfl (pi_list (pe_callB (call_sortedD rfl) (by rfl) T.n_sorted PyProof.Rows.boot_sorted (pa_cons (pv 0) pa_nil))) (fun _ _ _ _ => (pg_name (i := 0) (show List.Nodup (["seam", "counts"] : List Str) from by decide +kernel) rfl (Or.inl rfl) (Or.inr rfl))) (fun _ _ _ _ => pts_nil) (fun _ _ _ => rfl) (fun _ _ _ _ _ _ => pb_emit (pe_fstr (pj_int (pv 0) (pj_txt (pj_str (pe_call (ok_figures T) (hr.mono (by decide)) rfl T.p_figures.g T.p_figures.F.kp T.p_figures.b .nil passR (pa_cons (pe_dget hu (pv 1) (pv 0) (fun _ _ => rfl)) pa_nil)) pj_nil)))))) pa_nil)))), ?_⟩
  refine ⟨rfl, _, rfl, c, _, ks, rfl, .inl hc, (by unfold dI; rw [List.map_map]; rfl), hl, fun l1 out1 hl1 pm1 st1 => ?_⟩
  have s1 : Same H (upd H l1 (.lst (out1.map V.int))) := Same.new hl1
  have h1 : (upd H l1 (.lst (out1.map V.int))) l1 = some (.lst (out1.map V.int)) := upd_same
  generalize upd H l1 (.lst (out1.map V.int)) = H1 at s1 h1 ⊢
  have hol : out1.length < 64 := by rw [pm1.length_eq]; exact hl
  refine ⟨l1, rfl, ⟨_, SqL.of h1⟩, fun D hD => ?_⟩
  refine loop_list (xs := out1.map V.int) (fun i σ H6 => ∃ v, σ = [v, some (.ref c)] ∧ Same H1 H6 ∧ H6 D = some (.lst (((out1.take i).map (cntS g)).map V.str))) ⟨none, rfl, Same.new hD, upd_same⟩ ?_ ?_ ?_
  ·rintro i σ H6 _ ⟨v, rfl, s6, _⟩
   exact SqL.of (s6 _ _ h1)
  ·rintro i y σ H6 hy ⟨v, rfl, s6, h6⟩
   rw [List.getElem?_map] at hy
   obtain ⟨x, hx, rfl⟩ := Option.map_eq_some_iff.mp hy
   have hxk : x ∈ ks := pm1.mem_iff.mp (List.mem_of_getElem? hx)
   have ok := hk x hxk
   have hx10 : (toString x : Str).length ≤ 10 := PySem.W.KT.len_num ok.1 (by omega)
   dsimp only [gName, tYes]
   rw [if_pos rfl]
   have hlog : x.natAbs.log2 < 1920 := by
    rcases Nat.eq_zero_or_pos x.natAbs with z | z
    ·rw [z]; decide
    ·exact (Nat.log2_lt (by omega)).mpr (Nat.lt_of_lt_of_le (by omega : x.natAbs < 2 ^ 20) (Nat.pow_le_pow_right (by decide) (by decide)))
   have cl := cnt_len ok
   have e58 : (Str.ofString ":").length = 1 := by decide
   have l1' : (Str.empty ++ (toString x : Str)).length ≤ 10 := by rw [app_len]; have e : Str.empty.length = 0 := rfl; omega
   have l2' : ((Str.empty ++ (toString x : Str)) ++ (Str.ofString ":")).length ≤ 11 := by rw [app_len]; omega
   refine ⟨_, rfl, x, rfl, hlog, by rw [sizeLine_eq]; omega, by rw [sizeLine_eq]; exact Nat.le_trans l2' (by decide), ?_⟩
   refine ⟨_, rfl, _, rfl, c, _, rfl, cnt_get (s6 _ _ (s1 _ _ hc)) hxk, g x, rfl, ok.2.2.1, ok.2.2.2, fun H7 s7 => ?_⟩
   have fl := fig_le ok.2.2.1 ok.2.2.2
   refine ⟨_, rfl, by rw [sizeLine_eq]; omega, (show (cntS g x).length ≤ sizeLine by rw [sizeLine_eq]; omega), (show (cntS g x).length ≤ sizeLine by rw [sizeLine_eq]; omega), ?_⟩
   refine ⟨_, s7 _ _ h6, by rw [List.length_map, List.length_map, List.length_take]; exact small1000 (by omega), _, rfl, Same.add (s6.trans s7) hD, ?_⟩
   rw [upd_same, List.take_add_one, hx, List.map_append, List.map_append]
   rfl
  ·rintro σ H6 ⟨v, rfl, s6, h6⟩
   rw [List.length_map, List.take_length] at h6
   have sm := sum_leS (B := 71) (l := out1.map (cntS g)) fun y hy => by
    obtain ⟨x, hx, rfl⟩ := List.mem_map.mp hy
    exact cnt_len (hk x (pm1.mem_iff.mp hx))
   have jl := join_len (Str.ofString " ") (out1.map (cntS g))
   have e1 : (Str.ofString " ").length = 1 := by decide
   rw [List.length_map] at sm jl
   rw [e1] at jl
   refine ⟨_, D, out1.map (cntS g), rfl, rfl, SqL.of h6, by decide, by rw [List.length_map]; omega, k _ _ (s1.trans s6) (Asc.joinS (fun c hc => by have hc : c ∈ [32] := hc; rw [List.mem_singleton.mp hc]; decide) fun y hy => ?_) (by omega)⟩
   obtain ⟨x, hx, rfl⟩ := List.mem_map.mp hy
   exact asc_cnt g x
end
end KT
set_option maxHeartbeats 4000000
namespace KT
open PySem L2
noncomputable def GoodC (H : Hp) (c : Addr) (M : List (Option Nat)) (ns : List Int) (g : Int → Int) : Prop := CntAt H c ns g ∧ OkC M ns g ∧ ∀ x ∈ keys ns ns.length, g x < 1000000000000000000000000000000000000000000000000000000000000
noncomputable def BadC (H : Hp) (c : Addr) (ns : List Int) : Prop := ∃ (kvs : List (Key × V)) (ks : List Int), H c = some (.dK kvs) ∧ kvs.map (·.1) = ks.map Sum.inl ∧ ks.length < 64 ∧ ¬ ks.Perm (keys ns ns.length)
theorem Deeds.more {H H' : Hp} {p st q CH dx : Addr} {fs : List (Str × V)} {ds : List Str} {qs : List Addr} {r : Str} {v : V} (hp : H p = some (.ins CH dx fs)) (d1 : H st = some (.lst (qs.map V.ref))) (d2 : qs.length = ds.length) (d3 : ∀ (i : Nat) (q : Addr) (x : Str), qs[i]? = some q → ds[i]? = some x → ∃ v, H q = some (.tup [.str x, v])) (o : Oth2 p st H H') (st9 : H' st = some (.lst (qs.map V.ref ++ [.ref q]))) (q9 : H' q = some (.tup [.str r, v])) : Deeds H' st (ds ++ [r]) := by
 refine ⟨qs ++ [q], by rw [st9, List.map_append]; rfl, by rw [List.length_append, List.length_append, d2]; rfl, fun i z y hz hy => ?_⟩
 by_cases c : i < qs.length
 ·rw [List.getElem?_append_left c] at hz
  rw [List.getElem?_append_left (by omega)] at hy
  obtain ⟨v, hv⟩ := d3 i z y hz hy
  exact ⟨v, o _ _ (fun e => by rw [e, hp] at hv; cases hv) (fun e => by rw [e, d1] at hv; cases hv) hv⟩
 ·have hi : i = qs.length := by
   have := (List.getElem?_eq_some_iff.mp hz).1
   rw [List.length_append, List.length_singleton] at this
   omega
  subst hi
  rw [List.getElem?_append_right (Nat.le_refl _), Nat.sub_self] at hz
  rw [List.getElem?_append_right (by omega), d2, Nat.sub_self] at hy
  cases hz
  cases hy
  exact ⟨_, q9⟩
noncomputable def sp_Hall_pour (CT CS CH EB ET EN : Addr) : Sp := fun vs H Q E => ∃ (p st c : Addr) (M : List (Option Nat)) (ns : List Int) (l1 l2 ds : List Str) (x : Str), vs = [.ref p, .str x, .ref c] ∧ HS CT CS CH H p st M ns l1 l2 ds ∧ TD M ns ∧ ns.length < 64 ∧ ds.length ≤ 800 ∧ l2.length ≤ 800 ∧ Asc x ∧ x.length ≤ 900 ∧
 (isN x = false → ∀ H', Same H H' → E (.ref EB) none H') ∧ (isN x = true → x ∈ l1 ∨ x ∈ l2 → ∀ H', Same H H' → E (.ref ET) none H') ∧
 (isN x = true → x ∉ l1 → x ∉ l2 → (BadC H c ns ∧ ∀ H', Same H H' → E (.ref EN) none H') ∨ (∃ g, GoodC H c M ns g ∧ ∀ (H' : Hp) (r : Str), Asc r → Oth2 p st H H' → HS CT CS CH H' p st M ns l1 (l2 ++ [x]) (ds ++ [r]) → Q .non H'))
noncomputable def sp_Hall_lift (CT CS CH EU : Addr) : Sp := fun vs H Q E => ∃ (p st : Addr) (M : List (Option Nat)) (ns : List Int) (l1 l2 ds : List Str) (x : Str), vs = [.ref p, .str x] ∧ HS CT CS CH H p st M ns l1 l2 ds ∧ TD M ns ∧ ds.length ≤ 800 ∧ l1.length ≤ 800 ∧ l2.length ≤ 800 ∧ l1.Nodup ∧ l2.Nodup ∧ Asc x ∧ x.length ≤ 900 ∧
 (x ∉ l1 → x ∉ l2 → ∀ H', Same H H' → E (.ref EU) none H') ∧ (x ∈ l1 ∨ x ∈ l2 → ∀ (H' : Hp) (r : Str), Asc r → Oth2 p st H H' → HS CT CS CH H' p st M ns (l1.filter fun y => decide (y ≠ x)) (l2.filter fun y => decide (y ≠ x)) (ds ++ [r]) → Q .non H')
theorem keys_lift {L : List (Str × V)} {x : Str} : (L.filter fun kv => decide (kv.1 ≠ x)).map (·.1) = (L.map (·.1)).filter fun y => decide (y ≠ x) := by rw [List.filter_map]; rfl
theorem td_ne {M : List (Option Nat)} {ns : List Int} (td : TD M ns) : ns ≠ [] := fun z => by
 obtain ⟨n, h1, _, h2⟩ := td.n
 have := td.len
 rw [z, List.length_nil] at this
 omega
section
variable {P : Program} {w : World} {K : PySem.W.Frag} {mg : Str → Option Value} {base : Heap} {t : Adr}
theorem sc_Hall_pour : FnScope ["self", "name", "counts", "now", "pools"] ["self", "name", "counts"] (defScope s_Hall_pour) := ⟨rfl, rfl, rfl, by decide +kernel, rfl, by decide +kernel, by decide +kernel⟩
theorem ok_Hall_pour (T : Txt w K mg t) : FnOk P w K mg base (CXr P w) 5 t.f_Hall_pour t.d_Hall_pour ["self", "name", "counts"] (sp_Hall_pour t.C_Tent t.C_Scene t.C_Hall t.E_BadName t.E_Taken t.E_NoCounts) := by
 refine T.p_Hall_pour.F.okX sc_Hall_pour (fun vs H Q E h => ?_) (fun cdv A outer s H vs Q E hr h => ?_)
 ·obtain ⟨p, st, c, M, ns, l1, l2, ds, x, rfl, _⟩ := h
  rfl
 ·obtain ⟨p, st, c, M, ns, l1, l2, ds, x, rfl, ⟨dx, be, sc, un, dxs, te, th, po, wo, L1, L2, hp, hsc, hth, hpo, ta, hds, rfl, rfl⟩, td, h64, hdl, hl2, hx, hxz, kB, kT, kQ⟩ := h
  have hu := hu_of hr
  refine ⟨_, (pssx_cons (psx_of (ps_set (i := 3) sc_Hall_pour.nd rfl (Or.inl rfl) (pe_fld (pv 0) rfl)))
   (pssx_cons (psx_expr (pex_call (ok_look_new_name T) (hr.mono (by decide)) rfl T.p_look_new_name.g T.p_look_new_name.F.kp T.p_look_new_name.b .nil (pa_cons (pv 3) (pa_cons (pv 1) pa_nil))))
   (pssx_cons (psx_expr (pex_call (ok_look_countsB T) (hr.mono (by decide)) rfl T.p_look_counts.g T.p_look_counts.F.kp T.p_look_counts.b .nil (pa_cons (pe_fld (pv 3) rfl) (pa_cons (pv 2) pa_nil))))
   (pssx_cons (psx_of (ps_set (i := 4) sc_Hall_pour.nd rfl (Or.inl rfl) (pe_call (ok_with_item T) (hr.mono (by decide)) rfl T.p_with_item.g T.p_with_item.F.kp T.p_with_item.b .nil passR (pa_cons (pe_fld (pv 3) rfl) (pa_cons (pv 1) (pa_cons (pe_callTy call_dictD (by rfl) T.n_dict PySem.Pv.boot_dict (pa_cons (pv 2) pa_nil)) pa_nil))))))
   (pssx_one (psx_of (ps_expr (pe_meth (pv 0) T.cl_Hall T.p_Hall_enter.m (ok_Hall_enter T) (hr.mono (by decide)) T.p_Hall_enter.b .nil passR (pa_cons (pe_call (ok_row_text T) (hr.mono (by decide)) rfl T.p_row_text.g T.p_row_text.F.kp T.p_row_text.b .nil passR (pa_cons (pe_lst (pa_cons pe_str (pa_cons (pv 1) (pa_cons (pe_call (ok_counts_text T) (hr.mono (by decide)) rfl T.p_counts_text.g T.p_counts_text.F.kp T.p_counts_text.b .nil passR (pa_cons (pv 2) pa_nil)) pa_nil)))) pa_nil)) (pa_cons (pe_make T.mk_Scene (ok_Scene_init T) (hr.mono (by decide)) rfl T.gC_Scene T.p_Scene_init.b .nil passR (pa_cons (pe_fld (pv 3) rfl) (pa_cons (pe_fld (pv 3) rfl) (pa_cons (pv 4) (pa_cons (pe_fld (pv 3) rfl) pa_nil))))) pa_nil)))))))))), ?_⟩
  refine ⟨_, rfl, p, _, dx, _, .ref sc, rfl, hp, T.cl_Hall, T.a_Hall_scene, rfl, ?_⟩
  refine ⟨_, rfl, _, rfl, sc, dxs, th, po, _, _, x, L1, L2, rfl, hsc, hth, hpo, hx.all, hxz, kB, fun e1 e2 => kT e1 (by rw [hasS_mem, hasS_mem, Bool.or_eq_true, decide_eq_true_eq, decide_eq_true_eq] at e2; exact e2), fun e1 e2 H1 s1 => ?_⟩
  rw [hasS_mem, hasS_mem, Bool.or_eq_false_iff, decide_eq_false_iff_not, decide_eq_false_iff_not] at e2
  refine ⟨_, rfl, sc, _, dxs, _, .ref te, rfl, s1 _ _ hsc, T.cl_Scene, T.a_Scene_tent, rfl, _, rfl, ?_⟩
  rcases kQ e1 e2.1 e2.2 with ⟨⟨kvs, ks, b1, b2, b3, b4⟩, kE⟩ | ⟨g, ⟨⟨ks, hc, hperm⟩, okc, gb⟩, kG⟩
  ·exact .inr ⟨te, c, M, ns, kvs, ks, rfl, ta.same s1, h64, s1 _ _ b1, b2, b3, b4, fun H' s' => kE H' (s1.trans s')⟩
  refine .inl ⟨te, c, M, ns, g, rfl, ta.same s1, td, h64, ⟨ks, s1 _ _ hc, hperm⟩, okc, fun H2 s2 => ?_⟩
  have s02 := s1.trans s2
  have hn2 : hasS L2 x = false := by rw [hasS_mem]; exact decide_eq_false e2.2
  have hx8 : x.length ≤ 8 := by
   unfold isN at e1
   rw [Bool.and_eq_true, Bool.and_eq_true, decide_eq_true_eq, decide_eq_true_eq] at e1
   omega
  refine ⟨_, rfl, sc, _, dxs, _, .ref po, rfl, s02 _ _ hsc, T.cl_Scene, T.a_Scene_pools, rfl, _, rfl, _, rfl, c, _, rfl, .inl (s02 _ _ hc), fun w' hw' => ?_⟩
  have s3 : Same H2 (upd H2 w' (.dK (dI ks g))) := Same.new hw'
  generalize upd H2 w' (.dK (dI ks g)) = H3 at s3 ⊢
  rw [List.length_map] at hl2
  refine ⟨po, x, .ref w', L2, rfl, s3 _ _ (s02 _ _ hpo), by omega, hn2, fun po' H4 s4 hpo' h4 => ?_⟩
  have s04 := s02.trans (s3.trans s4)
  have hp4 := s04 _ _ hp
  refine ⟨_, rfl, p, dx, _, rfl, hp4, rfl, ?_⟩
  have hkk : ∀ y ∈ ks, 0 ≤ y ∧ y ≤ 9999 ∧ 0 ≤ g y ∧ g y < 1000000000000000000000000000000000000000000000000000000000000 := fun y hy => by
   have hy' := hperm.mem_iff.mp hy
   obtain ⟨i, _, hi⟩ := keys_mem.mp hy'
   exact ⟨(td.rng i y hi).1, (td.rng i y hi).2, okc.nn y hy', gb y hy'⟩
  have hkl : ks.length < 64 := by have h1 := hperm.length_eq; have h2 := keys_le ns ns.length; omega
  refine ⟨_, rfl, _, rfl, c, ks, g, rfl, s04 _ _ hc, hkl, hkk, fun H5 r5 s5 a5 l5 => ?_⟩
  refine ⟨(by show 3 ≤ sizeLine; decide), fun l2' hl2 => ?_⟩
  have s6 := Same.new (o := .lst [V.str (Str.ofString "pour"), V.str x, V.str r5]) hl2
  refine ⟨l2', [.inl (Str.ofString "pour"), .inl x, .inl r5], rfl, upd_same, (by show 3 ≤ 900; decide), fun y hy => ?_, ?_, fun H7 s7 => ?_⟩
  ·rcases List.mem_cons.mp hy with rfl | hy
   ·exact True.intro
   ·rcases List.mem_cons.mp hy with rfl | hy
    ·exact True.intro
    ·rw [List.mem_singleton.mp hy]; exact True.intro
  ·show ((Str.ofString "pour").length + (x.length + (r5.length + 0))) + 3 ≤ 1048576
   have : (Str.ofString "pour").length = 4 := by decide
   omega
  have s47 := s5.trans (s6.trans s7)
  have s07 := s04.trans s47
  have hsc7 := s07 _ _ hsc
  have hasc : Asc (Txt.join (Str.ofString " ") (([.inl (Str.ofString "pour"), .inl x, .inl r5] : List (Str ⊕ Int)).map wS)) := asc_row fun y hy => by
   rcases List.mem_cons.mp hy with rfl | hy
   ·intro c hc; revert c hc; show ∀ c ∈ [112, 111, 117, 114], c < 128; decide
   ·rcases List.mem_cons.mp hy with rfl | hy
    ·exact hx
    ·rw [List.mem_singleton.mp hy]; exact a5
  generalize Txt.join (Str.ofString " ") _ = rr at hasc ⊢
  refine ⟨_, rfl, sc, _, dxs, _, .ref te, rfl, hsc7, T.cl_Scene, T.a_Scene_tent, rfl, _, rfl, sc, _, dxs, _, .ref th, rfl, hsc7, T.cl_Scene, T.a_Scene_threads, rfl, _, rfl, _, rfl, sc, _, dxs, _, wo, rfl, hsc7, T.cl_Scene, T.a_Scene_worths, rfl, ?_⟩
  intro sc' dxs' hsc' hdxs' hne'
  refine ⟨sc', dxs', _, _, _, _, rfl, upd_same, rfl, ?_⟩
  rw [upd_again]
  have s8 : Same H7 (upd (upd H7 dxs' (.own sc')) sc' (.ins t.C_Scene dxs' (sflds (.ref te) (.ref th) (.ref po') wo))) := Same.add (Same.new hdxs') hsc'
  have c8 : (upd (upd H7 dxs' (.own sc')) sc' (.ins t.C_Scene dxs' (sflds (.ref te) (.ref th) (.ref po') wo))) sc' = some (.ins t.C_Scene dxs' (sflds (.ref te) (.ref th) (.ref po') wo)) := upd_same
  generalize upd (upd H7 dxs' (.own sc')) sc' (.ins t.C_Scene dxs' (sflds (.ref te) (.ref th) (.ref po') wo)) = H8 at s8 c8 ⊢
  have hds' := hds
  obtain ⟨qs, d1, d2, d3⟩ := hds
  have s08 := s07.trans s8
  have s48 := s47.trans s8
  refine ⟨p, dx, be, sc, st, un, sc', rr, qs.map V.ref, rfl, s08 _ _ hp, s08 _ _ d1, by rw [List.length_map]; omega, fun q un' H9 hq hun o9 p9 st9 q9 u9 => ?_⟩
  have o09 : Oth2 p st H H9 := fun b u b1 b2 e => o9 b u b1 b2 (s08 b u e)
  have ne : ∀ {HX : Hp} {b : Addr}, Same H HX → HX b = none → b ≠ p ∧ b ≠ st := fun {HX b} sx hb => ⟨(fun z => by rw [z, sx _ _ hp] at hb; cases hb), (fun z => by rw [z, sx _ _ d1] at hb; cases hb)⟩
  obtain ⟨n1, n2⟩ := ne s07 hsc'
  obtain ⟨n3, n4⟩ := ne (s02.trans s3) hpo'
  have kp : ∀ {b kvs}, H b = some (.dK kvs) → H9 b = some (.dK kvs) := fun {b kvs} e => o09 _ _ (fun z => by rw [z, hp] at e; cases e) (fun z => by rw [z, d1] at e; cases e) e
  exact kG H9 rr hasc o09 ⟨dx, be, sc', un', dxs', te, th, po', wo, L1, L2 ++ [(x, .ref w')], p9, o9 _ _ n1 n2 c8, kp hth, o9 _ _ n3 n4 (s48 _ _ h4), ta.oth2 (td_ne td) td.len.symm hp hds' o09, Deeds.more hp d1 d2 d3 o09 st9 q9, rfl, by rw [List.map_append]; rfl⟩
theorem sc_Hall_lift : FnScope ["self", "name", "now", "threads", "pools"] ["self", "name"] (defScope s_Hall_lift) := ⟨rfl, rfl, rfl, by decide +kernel, rfl, by decide +kernel, by decide +kernel⟩
theorem ok_Hall_lift (T : Txt w K mg t) : FnOk P w K mg base (CXr P w) 3 t.f_Hall_lift t.d_Hall_lift ["self", "name"] (sp_Hall_lift t.C_Tent t.C_Scene t.C_Hall t.E_Unknown) := by
 refine T.p_Hall_lift.F.okX sc_Hall_lift (fun vs H Q E h => ?_) (fun cdv A outer s H vs Q E hr h => ?_)
 ·obtain ⟨p, st, M, ns, l1, l2, ds, x, rfl, _⟩ := h
  rfl
 ·obtain ⟨p, st, M, ns, l1, l2, ds, x, rfl, ⟨dx, be, sc, un, dxs, te, th, po, wo, L1, L2, hp, hsc, hth, hpo, ta, hds, rfl, rfl⟩, td, hdl, hl1, hl2, nd1, nd2, hx, hxz, kU, kQ⟩ := h
  have hu := hu_of hr
  refine ⟨_, (pssx_cons (psx_of (ps_set (i := 2) sc_Hall_lift.nd rfl (Or.inl rfl) (pe_fld (pv 0) rfl)))
   (pssx_cons (psx_if (PW.pt (pw_and (pt_cmp (pc_dnotin hu (pv 1) (pe_fld (pv 2) rfl)) (by with_unfolding_all rfl)) (pw_and1 (pt_cmp (pc_dnotin hu (pv 1) (pe_fld (pv 2) rfl)) (by with_unfolding_all rfl))))) (pssx_one (psx_raise T.x_Unknown FBV rfl T.gx_Unknown rfl (pa_cons pe_str pa_nil))) pssx_nil)
   (pssx_cons (psx_of (ps_par (i := 3) (j := 4) rfl sc_Hall_lift.nd rfl rfl (by decide) rfl rfl (pa_cons (pe_call (ok_without_item T) (hr.mono (by decide)) rfl T.p_without_item.g T.p_without_item.F.kp T.p_without_item.b .nil passR (pa_cons (pe_fld (pv 2) rfl) (pa_cons (pv 1) pa_nil))) (pa_cons (pe_call (ok_without_item T) (hr.mono (by decide)) rfl T.p_without_item.g T.p_without_item.F.kp T.p_without_item.b .nil passR (pa_cons (pe_fld (pv 2) rfl) (pa_cons (pv 1) pa_nil))) pa_nil)) (by rfl)))
   (pssx_one (psx_of (ps_expr (pe_meth (pv 0) T.cl_Hall T.p_Hall_enter.m (ok_Hall_enter T) (hr.mono (by decide)) T.p_Hall_enter.b .nil passR (pa_cons (pe_call (ok_row_text T) (hr.mono (by decide)) rfl T.p_row_text.g T.p_row_text.F.kp T.p_row_text.b .nil passR (pa_cons (pe_lst (pa_cons pe_str (pa_cons (pv 1) pa_nil))) pa_nil)) (pa_cons (pe_make T.mk_Scene (ok_Scene_init T) (hr.mono (by decide)) rfl T.gC_Scene T.p_Scene_init.b .nil passR (pa_cons (pe_fld (pv 2) rfl) (pa_cons (pv 3) (pa_cons (pv 4) (pa_cons (pe_fld (pv 2) rfl) pa_nil))))) pa_nil))))))))), ?_⟩
  refine seq_postX (fun σ H' => σ = [some (.ref p), some (.str x), some (.ref sc), none, none] ∧ H = H') (fun nx hnx => ⟨_, rfl, p, _, dx, _, .ref sc, rfl, hp, T.cl_Hall, T.a_Hall_scene, rfl, hnx _ _ ⟨rfl, rfl⟩⟩) ?_
  rintro σ H' ⟨rfl, rfl⟩
  refine seq_postX (fun σ H' => σ = [some (.ref p), some (.str x), some (.ref sc), none, none] ∧ H = H' ∧ (x ∈ L1.map (·.1) ∨ x ∈ L2.map (·.1))) (fun nx hnx => ?_) ?_
  ·refine ⟨_, rfl, _, rfl, sc, _, dxs, _, .ref th, rfl, hsc, T.cl_Scene, T.a_Scene_threads, rfl, th, _, rfl, .inl ⟨_, Sum.inr x, .inl hth, rfl, rfl⟩, _, rfl, ?_⟩
   rw [dS_val, hasS_mem]
   by_cases c1 : x ∈ L1.map (·.1)
   ·rw [decide_eq_true c1]
    exact iteF (hnx _ _ ⟨rfl, rfl, .inl c1⟩)
   ·rw [decide_eq_false c1]
    refine iteT ⟨_, rfl, _, rfl, sc, _, dxs, _, .ref po, rfl, hsc, T.cl_Scene, T.a_Scene_pools, rfl, po, _, rfl, .inl ⟨_, Sum.inr x, .inl hpo, rfl, rfl⟩, _, rfl, ?_⟩
    rw [dS_val, hasS_mem]
    by_cases c2 : x ∈ L2.map (·.1)
    ·rw [decide_eq_true c2]
     exact iteF (hnx _ _ ⟨rfl, rfl, .inr c2⟩)
    ·rw [decide_eq_false c2]
     exact iteT ⟨by decide, kU c1 c2 H (Same.refl _)⟩
  rintro σ H' ⟨rfl, rfl, hin⟩
  rw [List.length_map] at hl1 hl2
  refine ⟨_, rfl, sc, _, dxs, _, .ref th, rfl, hsc, T.cl_Scene, T.a_Scene_threads, rfl, _, rfl, th, x, L1, rfl, hth, by omega, nd1, fun th' H1 s1 hth' h1 => ?_⟩
  refine ⟨_, rfl, sc, _, dxs, _, .ref po, rfl, s1 _ _ hsc, T.cl_Scene, T.a_Scene_pools, rfl, _, rfl, po, x, L2, rfl, s1 _ _ hpo, by omega, nd2, fun po' H4 s4 hpo' h4 => ?_⟩
  have s04 := s1.trans s4
  have hp4 := s04 _ _ hp
  refine ⟨_, _, rfl, _, rfl, p, dx, _, rfl, hp4, rfl, ?_⟩
  refine ⟨_, rfl, (by show 2 ≤ sizeLine; decide), fun l2' hl2 => ?_⟩
  have s6 := Same.new (o := .lst [V.str (Str.ofString "lift"), V.str x]) hl2
  refine ⟨l2', [.inl (Str.ofString "lift"), .inl x], rfl, upd_same, (by show 2 ≤ 900; decide), fun y hy => ?_, ?_, fun H7 s7 => ?_⟩
  ·rcases List.mem_cons.mp hy with rfl | hy
   ·exact True.intro
   ·rw [List.mem_singleton.mp hy]; exact True.intro
  ·show ((Str.ofString "lift").length + (x.length + 0)) + 2 ≤ 1048576
   have : (Str.ofString "lift").length = 4 := by decide
   omega
  have s47 := s6.trans s7
  have s07 := s04.trans s47
  have hsc7 := s07 _ _ hsc
  have hasc : Asc (Txt.join (Str.ofString " ") (([.inl (Str.ofString "lift"), .inl x] : List (Str ⊕ Int)).map wS)) := asc_row fun y hy => by
   rcases List.mem_cons.mp hy with rfl | hy
   ·intro c hc; revert c hc; show ∀ c ∈ [108, 105, 102, 116], c < 128; decide
   ·rw [List.mem_singleton.mp hy]; exact hx
  generalize Txt.join (Str.ofString " ") _ = rr at hasc ⊢
  refine ⟨_, rfl, sc, _, dxs, _, .ref te, rfl, hsc7, T.cl_Scene, T.a_Scene_tent, rfl, _, rfl, _, rfl, _, rfl, sc, _, dxs, _, wo, rfl, hsc7, T.cl_Scene, T.a_Scene_worths, rfl, ?_⟩
  intro sc' dxs' hsc' hdxs' hne'
  refine ⟨sc', dxs', _, _, _, _, rfl, upd_same, rfl, ?_⟩
  rw [upd_again]
  have s8 : Same H7 (upd (upd H7 dxs' (.own sc')) sc' (.ins t.C_Scene dxs' (sflds (.ref te) (.ref th') (.ref po') wo))) := Same.add (Same.new hdxs') hsc'
  have c8 : (upd (upd H7 dxs' (.own sc')) sc' (.ins t.C_Scene dxs' (sflds (.ref te) (.ref th') (.ref po') wo))) sc' = some (.ins t.C_Scene dxs' (sflds (.ref te) (.ref th') (.ref po') wo)) := upd_same
  generalize upd (upd H7 dxs' (.own sc')) sc' (.ins t.C_Scene dxs' (sflds (.ref te) (.ref th') (.ref po') wo)) = H8 at s8 c8 ⊢
  have hds' := hds
  obtain ⟨qs, d1, d2, d3⟩ := hds
  have s08 := s07.trans s8
  have s48 := s47.trans s8
  refine ⟨p, dx, be, sc, st, un, sc', rr, qs.map V.ref, rfl, s08 _ _ hp, s08 _ _ d1, by rw [List.length_map]; omega, fun q un' H9 hq hun o9 p9 st9 q9 u9 => ?_⟩
  have o09 : Oth2 p st H H9 := fun b u b1 b2 e => o9 b u b1 b2 (s08 b u e)
  have ne : ∀ {HX : Hp} {b : Addr}, Same H HX → HX b = none → b ≠ p ∧ b ≠ st := fun {HX b} sx hb => ⟨(fun z => by rw [z, sx _ _ hp] at hb; cases hb), (fun z => by rw [z, sx _ _ d1] at hb; cases hb)⟩
  obtain ⟨n1, n2⟩ := ne s07 hsc'
  obtain ⟨n3, n4⟩ := ne (Same.refl _) hth'
  obtain ⟨n5, n6⟩ := ne s1 hpo'
  exact kQ hin H9 rr hasc o09 ⟨dx, be, sc', un', dxs', te, th', po', wo, _, _, p9, o9 _ _ n1 n2 c8, o9 _ _ n3 n4 ((s4.trans s48) _ _ h1), o9 _ _ n5 n6 (s48 _ _ h4), ta.oth2 (td_ne td) td.len.symm hp hds' o09, Deeds.more hp d1 d2 d3 o09 st9 q9, keys_lift, keys_lift⟩
end
end KT
set_option maxHeartbeats 4000000
namespace KT
open PySem L2
noncomputable def sp_l_go (CT CS CH EB ET EN EM EC EU : Addr) : Sp := fun vs H Q E => ∃ (p : Addr) (d : Int) (x : Str) (v : V), vs = [.ref p, .int d, .str x, v] ∧ (∃ dx fs, H p = some (.ins CH dx fs) ∧ fs.lookup ("lay" : Str) = none ∧ fs.lookup ("pour" : Str) = none ∧ fs.lookup ("lift" : Str) = none) ∧
 ((d = 0 ∧ sp_Hall_lay CT CS CH EB ET EN EM [.ref p, .str x, v] H (fun _ H' => Q .non H') E) ∨ (d = 1 ∧ sp_Hall_pour CT CS CH EB ET EC [.ref p, .str x, v] H (fun _ H' => Q .non H') E) ∨ (d = 2 ∧ sp_Hall_lift CT CS CH EU [.ref p, .str x] H (fun _ H' => Q .non H') E))
noncomputable def dueN (x : Str) (l1 l2 : List Str) : Str := if isN x = false then "bad name" else if x ∈ l1 ∨ x ∈ l2 then "taken" else ""
noncomputable def dueL (M : List (Option Nat)) (x : Str) (l1 l2 : List Str) (ws : List Int) : Str := if dueN x l1 l2 ≠ "" then dueN x l1 l2 else if plainB M ws = false then "no thread" else if 400 < ws.length then "too many" else ""
noncomputable def Hok (CT CS CH : Addr) (H : Hp) (p st : Addr) (M : List (Option Nat)) (ns : List Int) (l1 l2 ds : List Str) : Prop := HS CT CS CH H p st M ns l1 l2 ds ∧ TD M ns ∧ ns.length < 64 ∧ ds.length ≤ 800 ∧ l1.length ≤ 800 ∧ l2.length ≤ 800 ∧ l1.Nodup ∧ l2.Nodup
noncomputable def sp_tL (CT CS CH : Addr) : Sp := fun vs H Q _ => ∃ (p st a : Addr) (M : List (Option Nat)) (ns : List Int) (l1 l2 ds : List Str) (x : Str) (ws : List Int), vs = [.ref p, .int 0, .str x, .ref a] ∧ Hok CT CS CH H p st M ns l1 l2 ds ∧ Asc x ∧ x.length ≤ 900 ∧ H a = some (.lst (ws.map V.int)) ∧ ws.length ≤ 900 ∧ (plainB M ws = true → ∀ i ∈ ws, 0 ≤ i ∧ i < 1000000) ∧
 (dueL M x l1 l2 ws ≠ "" → ∀ H', Same H H' → Q (.str (dueL M x l1 l2 ws)) H') ∧ (dueL M x l1 l2 ws = "" → ∀ (H' : Hp) (r : Str), Asc r → Oth2 p st H H' → HS CT CS CH H' p st M ns (l1 ++ [x]) l2 (ds ++ [r]) → Q (.str "") H')
noncomputable def sp_tP (CT CS CH : Addr) : Sp := fun vs H Q _ => ∃ (p st c : Addr) (M : List (Option Nat)) (ns : List Int) (l1 l2 ds : List Str) (x : Str), vs = [.ref p, .int 1, .str x, .ref c] ∧ Hok CT CS CH H p st M ns l1 l2 ds ∧ Asc x ∧ x.length ≤ 900 ∧
  ((BadC H c ns ∧ ∀ H', Same H H' → Q (.str (if dueN x l1 l2 ≠ "" then dueN x l1 l2 else "no counts")) H') ∨
   (∃ g, GoodC H c M ns g ∧ (dueN x l1 l2 ≠ "" → ∀ H', Same H H' → Q (.str (dueN x l1 l2)) H') ∧ (dueN x l1 l2 = "" → ∀ (H' : Hp) (r : Str), Asc r → Oth2 p st H H' → HS CT CS CH H' p st M ns l1 (l2 ++ [x]) (ds ++ [r]) → Q (.str "") H')))
noncomputable def sp_tU (CT CS CH : Addr) : Sp := fun vs H Q _ => ∃ (p st : Addr) (v : V) (M : List (Option Nat)) (ns : List Int) (l1 l2 ds : List Str) (x : Str), vs = [.ref p, .int 2, .str x, v] ∧ Hok CT CS CH H p st M ns l1 l2 ds ∧ Asc x ∧ x.length ≤ 900 ∧
 (x ∉ l1 → x ∉ l2 → ∀ H', Same H H' → Q (.str "unknown") H') ∧ (x ∈ l1 ∨ x ∈ l2 → ∀ (H' : Hp) (r : Str), Asc r → Oth2 p st H H' → HS CT CS CH H' p st M ns (l1.filter fun y => decide (y ≠ x)) (l2.filter fun y => decide (y ≠ x)) (ds ++ [r]) → Q (.str "") H')
theorem hfl_no {be sc st un : Addr} : (hflds be sc st un).lookup ("lay" : Str) = none ∧ (hflds be sc st un).lookup ("pour" : Str) = none ∧ (hflds be sc st un).lookup ("lift" : Str) = none := ⟨rfl, rfl, rfl⟩
section
variable {P : Program} {w : World} {K : PySem.W.Frag} {mg : Str → Option Value} {base : Heap} {t : Adr}
theorem sc_l_go : FnScope ["_law_hall", "_law_door", "_law_name_here", "_law_thing"] ["_law_hall", "_law_door", "_law_name_here", "_law_thing"] (defScope s_l_go) := ⟨rfl, rfl, rfl, by decide +kernel, rfl, by decide +kernel, by decide +kernel⟩
theorem ok_l_go (T : Txt w K mg t) : FnOk P w K mg base (CXr P w) 8 t.f_l_go t.d_l_go ["_law_hall", "_law_door", "_law_name_here", "_law_thing"] (sp_l_go t.C_Tent t.C_Scene t.C_Hall t.E_BadName t.E_Taken t.E_NoThread t.E_TooMany t.E_NoCounts t.E_Unknown) := by
 refine T.p_l_go.F.okX sc_l_go (fun vs H Q E h => ?_) (fun cdv A outer s H vs Q E hr h => ?_)
 ·obtain ⟨p, d, x, v, rfl, _⟩ := h
  rfl
 ·obtain ⟨p, d, x, v, rfl, ⟨dx, fs, hp, f1, f2, f3⟩, h⟩ := h
  refine ⟨_, (pssx_one (psx_if (pt_cmpR op_eq (pv 1) pe_int (nomark _)) (pssx_one (psx_expr (pex_meth (pv 0) T.cl_Hall T.p_Hall_lay.m (ok_Hall_lay T) (hr.mono (by decide)) T.p_Hall_lay.b .nil (pa_cons (pv 2) (pa_cons (pv 3) pa_nil))))) (pssx_one (psx_if (pt_cmpR op_eq (pv 1) pe_int (nomark _)) (pssx_one (psx_expr (pex_meth (pv 0) T.cl_Hall T.p_Hall_pour.m (ok_Hall_pour T) (hr.mono (by decide)) T.p_Hall_pour.b .nil (pa_cons (pv 2) (pa_cons (pv 3) pa_nil))))) (pssx_one (psx_expr (pex_meth (pv 0) T.cl_Hall T.p_Hall_lift.m (ok_Hall_lift T) (hr.mono (by decide)) T.p_Hall_lift.b .nil (pa_cons (pv 2) pa_nil)))))))), ?_⟩
  rcases h with ⟨rfl, h⟩ | ⟨rfl, h⟩ | ⟨rfl, h⟩
  ·refine ⟨_, rfl, rfl, _, rfl, iteT ?_⟩
   exact ⟨_, rfl, p, dx, _, rfl, hp, f1, _, rfl, _, rfl, h⟩
  ·refine ⟨_, rfl, rfl, _, rfl, iteF ⟨_, rfl, rfl, _, rfl, iteT ?_⟩⟩
   exact ⟨_, rfl, p, dx, _, rfl, hp, f2, _, rfl, _, rfl, h⟩
  ·refine ⟨_, rfl, rfl, _, rfl, iteF ⟨_, rfl, rfl, _, rfl, iteF ?_⟩⟩
   exact ⟨_, rfl, p, dx, _, rfl, hp, f3, _, rfl, h⟩
theorem sc_l_told : FnScope ["_law_hall", "_law_door", "_law_name_here", "_law_thing", "_law_told_here"] ["_law_hall", "_law_door", "_law_name_here", "_law_thing"] (defScope s_l_told) := ⟨rfl, rfl, rfl, by decide +kernel, rfl, by decide +kernel, by decide +kernel⟩
theorem ok_l_tL (T : Txt w K mg t) : FnOk P w K mg base (CXr P w) 9 t.f_l_told t.d_l_told ["_law_hall", "_law_door", "_law_name_here", "_law_thing"] (sp_tL t.C_Tent t.C_Scene t.C_Hall) := by
 refine T.p_l_told.F.okR sc_l_told (fun vs H Q E h => ?_) (fun cdv A outer s H vs Q E hr h => ?_)
 ·obtain ⟨p, st, a, M, ns, l1, l2, ds, x, ws, rfl, _⟩ := h
  rfl
 ·obtain ⟨p, st, a, M, ns, l1, l2, ds, x, ws, rfl, ⟨⟨dx, be, sc, un, dxs, te, th, po, wo, L1, L2, hp, hsc, hth, hpo, ta, hds, rfl, rfl⟩, td, h64, hdl, hl1, hl2, nd1, nd2⟩, hx, hxz, ha, hwl, hrg, k1, k2⟩ := h
  refine ⟨_, (pss_cons (ps_set (i := 4) sc_l_told.nd rfl (Or.inl rfl) pe_str)
   (pss_cons (ps_tryN (pssx_one (psx_expr (pex_call (ok_l_go T) (hr.mono (by decide)) rfl T.p_l_go.g T.p_l_go.F.kp T.p_l_go.b .nil (pa_cons (pv 0) (pa_cons (pv 1) (pa_cons (pv 2) (pa_cons (pv 3) pa_nil))))))) (hs_cons rfl T.gx_TooMany (fun _ => (pss_one (ps_set (i := 4) sc_l_told.nd rfl (Or.inl rfl) pe_str))) (hs_cons rfl T.gx_NoCounts (fun _ => (pss_one (ps_set (i := 4) sc_l_told.nd rfl (Or.inl rfl) pe_str))) (hs_cons rfl T.gx_NoThread (fun _ => (pss_one (ps_set (i := 4) sc_l_told.nd rfl (Or.inl rfl) pe_str))) (hs_cons rfl T.gx_Unknown (fun _ => (pss_one (ps_set (i := 4) sc_l_told.nd rfl (Or.inl rfl) pe_str))) (hs_cons rfl T.gx_Taken (fun _ => (pss_one (ps_set (i := 4) sc_l_told.nd rfl (Or.inl rfl) pe_str))) (hs_cons rfl T.gx_BadName (fun _ => (pss_one (ps_set (i := 4) sc_l_told.nd rfl (Or.inl rfl) pe_str))) hs_off)))))))
   (pss_one (ps_ret (pv 4))))), ?_⟩
  unfold dueL dueN at k1 k2
  rw [List.length_map] at hl1
  refine ⟨_, rfl, _, rfl, _, rfl, _, rfl, p, 0, x, .ref a, rfl, ⟨dx, _, hp, hfl_no⟩, .inl ⟨rfl, p, dx, be, sc, st, un, dxs, te, th, po, a, wo, x, L1, L2, M, ns, ws, ds, rfl, hp, hsc, hth, hpo, ta, td.len.symm, by omega, hds, hdl, hl1, hx.all, hxz, ha, hwl, hrg, fun e H' s' => ?_, fun e1 e2 H' s' => ?_, fun e1 e2 e3 H' s' => ?_, fun e1 e2 e3 e4 H' s' => ?_, fun e1 e2 e3 e4 H' sc' dxs' th' w' un' r ar o9 p9 c9 t9 w9 d9 u9 => ?_⟩⟩
  ·refine ⟨false, T.nx_BadName_TooMany, iteF ⟨false, T.nx_BadName_NoCounts, iteF ⟨false, T.nx_BadName_NoThread, iteF ⟨false, T.nx_BadName_Unknown, iteF ⟨false, T.nx_BadName_Taken, iteF ⟨true, T.yx_BadName_BadName, iteT ⟨_, rfl, ?_⟩⟩⟩⟩⟩⟩⟩
   rw [if_pos e, if_pos (by decide)] at k1
   exact k1 (by decide) H' s'
  all_goals have e1' : ¬ isN x = false := by rw [e1]; decide
  all_goals rw [hasS_mem, hasS_mem] at e2
  ·refine ⟨false, T.nx_Taken_TooMany, iteF ⟨false, T.nx_Taken_NoCounts, iteF ⟨false, T.nx_Taken_NoThread, iteF ⟨false, T.nx_Taken_Unknown, iteF ⟨true, T.yx_Taken_Taken, iteT ⟨_, rfl, ?_⟩⟩⟩⟩⟩⟩
   rw [Bool.or_eq_true, decide_eq_true_eq, decide_eq_true_eq] at e2
   rw [if_neg e1', if_pos e2, if_pos (by decide)] at k1
   exact k1 (by decide) H' s'
  all_goals rw [Bool.or_eq_false_iff, decide_eq_false_iff_not, decide_eq_false_iff_not] at e2
  all_goals have e2' : ¬ (x ∈ L1.map (·.1) ∨ x ∈ L2.map (·.1)) := fun z => z.elim e2.1 e2.2
  ·refine ⟨false, T.nx_NoThread_TooMany, iteF ⟨false, T.nx_NoThread_NoCounts, iteF ⟨true, T.yx_NoThread_NoThread, iteT ⟨_, rfl, ?_⟩⟩⟩⟩
   rw [if_neg e1', if_neg e2', if_neg (by decide), if_pos e3] at k1
   exact k1 (by decide) H' s'
  all_goals have e3' : ¬ plainB M ws = false := by rw [e3]; decide
  ·refine ⟨true, T.yx_TooMany_TooMany, iteT ⟨_, rfl, ?_⟩⟩
   rw [if_neg e1', if_neg e2', if_neg (by decide), if_neg e3', if_pos e4] at k1
   exact k1 (by decide) H' s'
  ·refine ⟨_, rfl, ?_⟩
   rw [if_neg e1', if_neg e2', if_neg (by decide), if_neg e3', if_neg (by omega)] at k2
   have o09 : Oth2 p st H H' := o9
   have d1 := hds
   obtain ⟨qs, q1, _⟩ := id hds
   have kp : ∀ {b kvs}, H b = some (.dK kvs) → H' b = some (.dK kvs) := fun {b kvs} e => o09 _ _ (fun z => by rw [z, hp] at e; cases e) (fun z => by rw [z, q1] at e; cases e) e
   exact k2 rfl H' r ar o09 ⟨dx, be, sc', un', dxs', te, th', po, wo, _, L2, p9, c9, t9, kp hpo, ta.oth2 (td_ne td) td.len.symm hp hds o09, d9, by rw [List.map_append]; rfl, rfl⟩
theorem ok_l_tP (T : Txt w K mg t) : FnOk P w K mg base (CXr P w) 9 t.f_l_told t.d_l_told ["_law_hall", "_law_door", "_law_name_here", "_law_thing"] (sp_tP t.C_Tent t.C_Scene t.C_Hall) := by
 refine T.p_l_told.F.okR sc_l_told (fun vs H Q E h => ?_) (fun cdv A outer s H vs Q E hr h => ?_)
 ·obtain ⟨p, st, c, M, ns, l1, l2, ds, x, rfl, _⟩ := h
  rfl
 ·obtain ⟨p, st, c, M, ns, l1, l2, ds, x, rfl, ⟨hs, td, h64, hdl, hl1, hl2, nd1, nd2⟩, hx, hxz, h⟩ := h
  refine ⟨_, (pss_cons (ps_set (i := 4) sc_l_told.nd rfl (Or.inl rfl) pe_str)
   (pss_cons (ps_tryN (pssx_one (psx_expr (pex_call (ok_l_go T) (hr.mono (by decide)) rfl T.p_l_go.g T.p_l_go.F.kp T.p_l_go.b .nil (pa_cons (pv 0) (pa_cons (pv 1) (pa_cons (pv 2) (pa_cons (pv 3) pa_nil))))))) (hs_cons rfl T.gx_TooMany (fun _ => (pss_one (ps_set (i := 4) sc_l_told.nd rfl (Or.inl rfl) pe_str))) (hs_cons rfl T.gx_NoCounts (fun _ => (pss_one (ps_set (i := 4) sc_l_told.nd rfl (Or.inl rfl) pe_str))) (hs_cons rfl T.gx_NoThread (fun _ => (pss_one (ps_set (i := 4) sc_l_told.nd rfl (Or.inl rfl) pe_str))) (hs_cons rfl T.gx_Unknown (fun _ => (pss_one (ps_set (i := 4) sc_l_told.nd rfl (Or.inl rfl) pe_str))) (hs_cons rfl T.gx_Taken (fun _ => (pss_one (ps_set (i := 4) sc_l_told.nd rfl (Or.inl rfl) pe_str))) (hs_cons rfl T.gx_BadName (fun _ => (pss_one (ps_set (i := 4) sc_l_told.nd rfl (Or.inl rfl) pe_str))) hs_off)))))))
   (pss_one (ps_ret (pv 4))))), ?_⟩
  obtain ⟨dx, be, sc, un, dxs, te, th, po, wo, L1, L2, hp, _⟩ := id hs
  have kn : dueN x l1 l2 ≠ "" → ∀ H', Same H H' → Q (.str (dueN x l1 l2)) H' := fun e H' s' => by
   rcases h with ⟨_, k⟩ | ⟨g, _, k, _⟩
   ·have := k H' s'; rw [if_pos e] at this; exact this
   ·exact k e H' s'
  unfold dueN at kn h
  refine ⟨_, rfl, _, rfl, _, rfl, _, rfl, p, 1, x, .ref c, rfl, ⟨dx, _, hp, hfl_no⟩, .inr (.inl ⟨rfl, p, st, c, M, ns, l1, l2, ds, x, rfl, hs, td, h64, hdl, hl2, hx, hxz, fun e H' s' => ?_, fun e1 e2 H' s' => ?_, fun e1 e2 e3 => ?_⟩)⟩
  ·refine ⟨false, T.nx_BadName_TooMany, iteF ⟨false, T.nx_BadName_NoCounts, iteF ⟨false, T.nx_BadName_NoThread, iteF ⟨false, T.nx_BadName_Unknown, iteF ⟨false, T.nx_BadName_Taken, iteF ⟨true, T.yx_BadName_BadName, iteT ⟨_, rfl, ?_⟩⟩⟩⟩⟩⟩⟩
   rw [if_pos e] at kn
   exact kn (by decide) H' s'
  all_goals have e1' : ¬ isN x = false := by rw [e1]; decide
  ·refine ⟨false, T.nx_Taken_TooMany, iteF ⟨false, T.nx_Taken_NoCounts, iteF ⟨false, T.nx_Taken_NoThread, iteF ⟨false, T.nx_Taken_Unknown, iteF ⟨true, T.yx_Taken_Taken, iteT ⟨_, rfl, ?_⟩⟩⟩⟩⟩⟩
   rw [if_neg e1', if_pos e2] at kn
   exact kn (by decide) H' s'
  ·have e2' : ¬ (x ∈ l1 ∨ x ∈ l2) := fun z => z.elim e2 e3
   rw [if_neg e1', if_neg e2'] at h
   rcases h with ⟨b, k⟩ | ⟨g, gc, _, k⟩
   ·refine .inl ⟨b, fun H' s' => ?_⟩
    refine ⟨false, T.nx_NoCounts_TooMany, iteF ⟨true, T.yx_NoCounts_NoCounts, iteT ⟨_, rfl, ?_⟩⟩⟩
    rw [if_neg (by decide)] at k
    exact k H' s'
   ·exact .inr ⟨g, gc, fun H' r ar o hs' => ⟨_, rfl, k rfl H' r ar o hs'⟩⟩
theorem ok_l_tU (T : Txt w K mg t) : FnOk P w K mg base (CXr P w) 9 t.f_l_told t.d_l_told ["_law_hall", "_law_door", "_law_name_here", "_law_thing"] (sp_tU t.C_Tent t.C_Scene t.C_Hall) := by
 refine T.p_l_told.F.okR sc_l_told (fun vs H Q E h => ?_) (fun cdv A outer s H vs Q E hr h => ?_)
 ·obtain ⟨p, st, v, M, ns, l1, l2, ds, x, rfl, _⟩ := h
  rfl
 ·obtain ⟨p, st, v, M, ns, l1, l2, ds, x, rfl, ⟨hs, td, h64, hdl, hl1, hl2, nd1, nd2⟩, hx, hxz, k1, k2⟩ := h
  refine ⟨_, (pss_cons (ps_set (i := 4) sc_l_told.nd rfl (Or.inl rfl) pe_str)
   (pss_cons (ps_tryN (pssx_one (psx_expr (pex_call (ok_l_go T) (hr.mono (by decide)) rfl T.p_l_go.g T.p_l_go.F.kp T.p_l_go.b .nil (pa_cons (pv 0) (pa_cons (pv 1) (pa_cons (pv 2) (pa_cons (pv 3) pa_nil))))))) (hs_cons rfl T.gx_TooMany (fun _ => (pss_one (ps_set (i := 4) sc_l_told.nd rfl (Or.inl rfl) pe_str))) (hs_cons rfl T.gx_NoCounts (fun _ => (pss_one (ps_set (i := 4) sc_l_told.nd rfl (Or.inl rfl) pe_str))) (hs_cons rfl T.gx_NoThread (fun _ => (pss_one (ps_set (i := 4) sc_l_told.nd rfl (Or.inl rfl) pe_str))) (hs_cons rfl T.gx_Unknown (fun _ => (pss_one (ps_set (i := 4) sc_l_told.nd rfl (Or.inl rfl) pe_str))) (hs_cons rfl T.gx_Taken (fun _ => (pss_one (ps_set (i := 4) sc_l_told.nd rfl (Or.inl rfl) pe_str))) (hs_cons rfl T.gx_BadName (fun _ => (pss_one (ps_set (i := 4) sc_l_told.nd rfl (Or.inl rfl) pe_str))) hs_off)))))))
   (pss_one (ps_ret (pv 4))))), ?_⟩
  obtain ⟨dx, be, sc, un, dxs, te, th, po, wo, L1, L2, hp, _⟩ := id hs
  refine ⟨_, rfl, _, rfl, _, rfl, _, rfl, p, 2, x, v, rfl, ⟨dx, _, hp, hfl_no⟩, .inr (.inr ⟨rfl, p, st, M, ns, l1, l2, ds, x, rfl, hs, td, hdl, hl1, hl2, nd1, nd2, hx, hxz, fun e1 e2 H' s' => ?_, fun e H' r ar o hs' => ⟨_, rfl, k2 e H' r ar o hs'⟩⟩)⟩
  exact ⟨false, T.nx_Unknown_TooMany, iteF ⟨false, T.nx_Unknown_NoCounts, iteF ⟨false, T.nx_Unknown_NoThread, iteF ⟨true, T.yx_Unknown_Unknown, iteT ⟨_, rfl, k1 e1 e2 H' s'⟩⟩⟩⟩⟩
theorem ok_l_told (T : Txt w K mg t) : FnOk P w K mg base (CXr P w) 9 t.f_l_told t.d_l_told ["_law_hall", "_law_door", "_law_name_here", "_law_thing"] (fun vs H Q E => sp_tL t.C_Tent t.C_Scene t.C_Hall vs H Q E ∨ sp_tP t.C_Tent t.C_Scene t.C_Hall vs H Q E ∨ sp_tU t.C_Tent t.C_Scene t.C_Hall vs H Q E) := (ok_l_tL T).or ((ok_l_tP T).or (ok_l_tU T))
end
end KT
set_option maxHeartbeats 4000000
namespace KT
open PySem L2
noncomputable def smL : Str := Str.ofString "abcdefghijklmnopqrstuvwxyz"
theorem smL_len : smL.cps.toList.length = 26 := by decide +kernel
theorem smL_asc : Asc smL := by show ∀ c ∈ smL.cps.toList, c < 128; decide +kernel
noncomputable def sgL : Str := Str.ofString "ABZ019 _-.~{@"
theorem sgL_len : sgL.length = 13 := by decide +kernel
theorem sgL_asc : Asc sgL := by show ∀ c ∈ sgL.cps.toList, c < 128; decide +kernel
noncomputable def nlL : Str := Str.ofString "nightlong"
theorem nlL_len : nlL.length = 9 := by decide +kernel
theorem nlL_asc : Asc nlL := by show ∀ c ∈ nlL.cps.toList, c < 128; decide +kernel
theorem asc_nil : Asc (Str.ofString "") := by show ∀ c ∈ (Str.ofString "").cps.toList, c < 128; decide +kernel
theorem at_text {x : Str} (h : Asc x) {i : Int} (h0 : 0 ≤ i) (h1 : i < x.length) : ∃ c, atI x.cps.toList i = some c ∧ Asc ⟨#[c]⟩ := by
 obtain ⟨n, rfl⟩ : ∃ n : Nat, i = n := ⟨_, (Int.toNat_of_nonneg h0).symm⟩
 have hn : n < x.cps.size := by have : x.length = x.cps.size := rfl; omega
 refine ⟨x.cps[n], atI_nat (by rw [Array.getElem?_toList]; exact Array.getElem?_eq_getElem hn), h.one (Array.getElem?_eq_getElem hn)⟩
theorem cut_mid {xs : List Int} (hx : xs.length = 12) {e : Int} (h0 : 0 ≤ e) (h1 : e < 8) : cutV (xs.map V.int) (some 3) (some (4 + e)) = ((xs.drop 3).take (1 + e.toNat)).map V.int := by
 obtain ⟨k, rfl⟩ : ∃ k : Nat, e = k := ⟨_, (Int.toNat_of_nonneg h0).symm⟩
 unfold cutV
 rw [List.length_map, hx, show (some (3 : Int)) = some ((3 : Nat) : Int) from rfl, show (4 + (k : Int)) = ((4 + k : Nat) : Int) by omega, HT.sIx_nat, HT.sIx_nat, List.map_take, List.map_drop]
 congr 1
 omega
noncomputable def sp_l_name : Sp := fun vs H Q _ => ∃ c : Int, vs = [.int c] ∧ ∀ (H' : Hp) (x : Str), Same H H' → Asc x → x.length ≤ 100 → Q (.str x) H'
noncomputable def sp_l_good : Sp := fun vs H Q _ => ∃ x : Str, vs = [.str x] ∧ Asc x ∧ x.length ≤ 900 ∧ ∀ H', Same H H' → Q (.bl (isN x)) H'
section
variable {P : Program} {w : World} {K : PySem.W.Frag} {mg : Str → Option Value} {base : Heap} {t : Adr}
theorem sc_l_name : FnScope ["_law_cell_here", "_law_nums", "_law_small", "_law_name_here", "_law_at", "_law_signs", "_law_sign"] ["_law_cell_here"] (defScope s_l_name) := ⟨rfl, rfl, rfl, by decide +kernel, rfl, by decide +kernel, by decide +kernel⟩
theorem ok_l_name (T : Txt w K mg t) : FnOk P w K mg base (CXr P w) 2 t.f_l_name t.d_l_name ["_law_cell_here"] sp_l_name := by
  refine T.p_l_name.F.okR sc_l_name (fun vs H Q E h => ?_) (fun cdv A outer s H vs Q E hr h => ?_)
  · obtain ⟨c, rfl, _⟩ := h
    rfl
  · obtain ⟨c, rfl, k⟩ := h
    refine ⟨_, (pss_cons (ps_set (i := 1) sc_l_name.nd rfl (Or.inl rfl) (pe_call (ok_l_numbers T) (hr.mono (by decide)) rfl T.p_l_numbers.g T.p_l_numbers.F.kp T.p_l_numbers.b .nil passR (pa_cons (pv 0) (pa_cons pe_int pa_nil))))
      (pss_cons (ps_set (i := 2) sc_l_name.nd rfl (Or.inr rfl) pe_str)
      (pss_cons (ps_set (i := 3) sc_l_name.nd rfl (Or.inl rfl) (pe_bm PySem.F.plainAttrs_str PySem.F.slot_str_join PySem.F.type_str_join mt_join pe_str (pa_cons (pe_compG (ts := ["_law_num"]) (fv := [("_law_small", 2)]) ⟨rfl, by decide +kernel, by decide +kernel, blkFree (by rfl), ⟨⟨rfl, rfl, Or.inl rfl⟩, trivial⟩⟩ rfl (pi_list (pe_slice sl_list (pv 1) (po_some pe_int) (po_some (pe_op op_add pe_int (pe_op op_mod (pe_ix ix_list (pv 1) pe_int (fun _ _ => rfl)) pe_int))))) (fun _ _ _ _ => (pg_name (i := 0) (show List.Nodup (["_law_num", "_law_small"] : List Str) from by decide +kernel) rfl (Or.inl rfl) (Or.inr rfl))) (fun _ _ _ _ => pts_nil) (fun _ _ _ => rfl) (fun _ _ _ _ _ _ => pb_emit (pe_ix ix_str (pv 1) (pe_op op_mod (pv 0) pe_int) (fun _ _ => rfl)))) pa_nil)))
      (pss_cons (ps_if (pt_cmpR op_eq (pe_op op_mod (pe_ix ix_list (pv 1) pe_int (fun _ _ => rfl)) pe_int) pe_int (nomark _)) (pss_cons (ps_set (i := 4) sc_l_name.nd rfl (Or.inl rfl) (pe_op op_mod (pe_ix ix_list (pv 1) pe_int (fun _ _ => rfl)) (pe_callB call_len_str (by rfl) T.n_len PySem.boot_len (pa_cons (pv 3) pa_nil))))
      (pss_cons (ps_set (i := 5) sc_l_name.nd rfl (Or.inl rfl) (pe_op op_add_str pe_str (pv 2)))
      (pss_cons (ps_set (i := 6) sc_l_name.nd rfl (Or.inl rfl) (pe_ix ix_str (pv 5) (pe_op op_mod (pe_ix ix_list (pv 1) pe_int (fun _ _ => rfl)) (pe_callB call_len_str (by rfl) T.n_len PySem.boot_len (pa_cons (pv 5) pa_nil))) (fun _ _ => rfl)))
      (pss_one (ps_set (i := 3) sc_l_name.nd rfl (Or.inl rfl) (pe_op op_add_str (pe_op op_add_str (pe_slice sl_str (pv 3) po_none (po_some (pv 4))) (pv 6)) (pe_slice sl_str (pv 3) (po_some (pe_op op_add (pv 4) pe_int)) po_none))))))) pss_nil)
      (pss_cons (ps_if (pt_cmpR op_eq (pe_op op_mod (pe_ix ix_list (pv 1) pe_int (fun _ _ => rfl)) pe_int) pe_int (nomark _)) (pss_one (ps_set (i := 3) sc_l_name.nd rfl (Or.inl rfl) (pe_op op_add_str (pv 3) (pe_slice sl_str pe_str po_none (po_some (pe_op op_mod (pe_ix ix_list (pv 1) pe_int (fun _ _ => rfl)) pe_int)))))) pss_nil)
      (pss_cons (ps_if (pt_cmpR op_eq (pe_ix ix_list (pv 1) pe_int (fun _ _ => rfl)) pe_int (nomark _)) (pss_one (ps_set (i := 3) sc_l_name.nd rfl (Or.inl rfl) pe_str)) pss_nil)
      (pss_one (ps_ret (pv 3))))))))), ?_⟩
    refine seq_post (fun σ H' => ∃ (a : Addr) (xs : List Int), σ = [some (.int c), some (.ref a), none, none, none, none, none] ∧ Same H H' ∧ H' a = some (.lst (xs.map V.int)) ∧ xs.length = 12 ∧ ∀ x ∈ xs, 0 ≤ x ∧ x < 1009) (fun nx hnx => ⟨_, rfl, c, 12, rfl, by decide, fun a xs H' s' _ h' hl hx => hnx _ _ ⟨a, xs, rfl, s', h', hl, hx⟩⟩) ?_
    rintro σ H1 ⟨a, xs, rfl, s1, h1, hl, hx⟩
    have at' : ∀ i : Nat, i < 12 → ∃ y, atI (xs.map V.int) (i : Int) = some (V.int y) ∧ 0 ≤ y ∧ y < 1009 := fun i hi => by
      have e : xs[i]? = some (xs[i]'(by omega)) := List.getElem?_eq_getElem (by omega)
      exact ⟨_, map_at e, hx _ (List.mem_of_getElem? e)⟩
    obtain ⟨y0, a0, y00, y01⟩ := at' 0 (by decide)
    obtain ⟨y1, a1, y10, y11⟩ := at' 1 (by decide)
    obtain ⟨y2, a2, y20, y21⟩ := at' 2 (by decide)
    obtain ⟨y3, a3, y30, y31⟩ := at' 11 (by decide)
    refine seq_post (fun σ H' => σ = [some (.int c), some (.ref a), some (.str smL), none, none, none, none] ∧ Same H1 H') (fun nx hnx => hnx _ _ ⟨rfl, Same.refl _⟩) ?_
    rintro σ H2 ⟨rfl, s2⟩
    have h2 := s2 _ _ h1
    refine seq_post (fun σ H' => ∃ x : Str, σ = [some (.int c), some (.ref a), some (.str smL), some (.str x), none, none, none] ∧ Same H2 H' ∧ Asc x ∧ 1 ≤ x.length ∧ x.length ≤ 8) (fun nx hnx => ?_) ?_
    · refine ⟨rfl, _, rfl, _, rfl, _, rfl, a, _, _, _, rfl, rfl, SqL.of h2, a0, _, _, rfl, rfl, (by show (0 : Int) < 8; decide), ?_⟩
      have ec := cut_mid hl (e := y0 % 8) (by omega) (by omega)
      have hyl : ((xs.drop 3).take (1 + (y0 % 8).toNat)).length = 1 + (y0 % 8).toNat := by rw [List.length_take, List.length_drop]; omega
      have hym : ∀ y ∈ (xs.drop 3).take (1 + (y0 % 8).toNat), 0 ≤ y ∧ y < 1009 := fun y hy => hx y (List.mem_of_mem_drop (List.mem_of_mem_take hy))
      generalize (xs.drop 3).take (1 + (y0 % 8).toNat) = ys at ec hyl hym
      refine ⟨_, _, rfl, rfl, _, rfl, a, _, rfl, SqL.of h2, fun l2 hl2 => ?_⟩
      have h3 : (upd H2 l2 (.lst (cutV (xs.map V.int) (some 3) (some (4 + y0 % 8))))) l2 = some (.lst (ys.map V.int)) := by rw [upd_same, ec]
      have s3 : Same H2 (upd H2 l2 (.lst (cutV (xs.map V.int) (some 3) (some (4 + y0 % 8))))) := Same.new hl2
      refine ⟨l2, rfl, ⟨_, SqL.of h3⟩, fun D hD => ?_⟩
      refine loop_list (xs := ys.map V.int) (fun i σ H6 => ∃ (v : Option V) (zs : List Str), σ = [v, some (.str smL)] ∧ Same (upd H2 l2 (.lst (cutV (xs.map V.int) (some 3) (some (4 + y0 % 8))))) H6 ∧ H6 D = some (.lst (zs.map V.str)) ∧ zs.length = i ∧ ∀ z ∈ zs, z.length = 1 ∧ Asc z) ⟨none, [], rfl, Same.new hD, upd_same, rfl, fun z hz => by cases hz⟩ ?_ ?_ ?_
      · rintro i σ H6 _ ⟨v, zs, rfl, s6, _⟩
        exact SqL.of (s6 _ _ h3)
      · rintro i y σ H6 hy ⟨v, zs, rfl, s6, h6, zl, hz⟩
        rw [List.getElem?_map] at hy
        obtain ⟨y, hy', rfl⟩ := Option.map_eq_some_iff.mp hy
        have hil : i < ys.length := (List.getElem?_eq_some_iff.mp hy').1
        obtain ⟨ch, hc1, hc2⟩ := at_text smL_asc (i := y % 26) (by omega) (by have : smL.length = 26 := smL_len; omega)
        dsimp only [gName, tYes]
        rw [if_pos rfl]
        refine ⟨_, rfl, _, rfl, _, _, rfl, rfl, (by show (0 : Int) < 26; decide), smL, y % 26, ch, rfl, rfl, (by show 26 ≤ sizeLine; decide), hc1, ?_⟩
        refine ⟨_, h6, by rw [List.length_map]; exact small1000 (by omega), _, zs ++ [⟨#[ch]⟩], rfl, Same.add s6 hD, by rw [upd_same, List.map_append]; rfl, by rw [List.length_append, zl]; rfl, fun z hz' => ?_⟩
        rcases List.mem_append.mp hz' with q | q
        · exact hz z q
        · rw [List.mem_singleton.mp q]; exact ⟨rfl, hc2⟩
      · rintro σ H6 ⟨v, zs, rfl, s6, h6, zl, hz⟩
        rw [List.length_map] at zl
        have jl : (Txt.join (Str.ofString "") zs).length = zs.length := PySem.W.KT.join_ones zs fun z hz' => (hz z hz').1
        have sm := sum_leS (B := 1) (l := zs) fun z hz' => Nat.le_of_eq (hz z hz').1
        refine ⟨_, D, zs, rfl, rfl, SqL.of h6, by decide, by omega, ?_⟩
        exact hnx _ _ ⟨_, rfl, s3.trans s6, Asc.join fun z hz' => (hz z hz').2, by omega, by omega⟩
    rintro σ H3 ⟨x, rfl, s3, ax, x1, x8⟩
    have h3 := s3 _ _ h2
    refine seq_post (fun σ H' => ∃ (x : Str) (v4 v5 v6 : Option V), σ = [some (.int c), some (.ref a), some (.str smL), some (.str x), v4, v5, v6] ∧ H3 = H' ∧ Asc x ∧ x.length ≤ 40) (fun nx hnx => ?_) ?_
    · refine ⟨_, rfl, _, _, _, _, rfl, rfl, SqL.of h3, a1, _, _, rfl, rfl, (by show (0 : Int) < 3; decide), rfl, _, rfl, ?_⟩
      refine ite2 (fun _ => ?_) (fun _ => hnx _ _ ⟨x, none, none, none, rfl, rfl, ax, by omega⟩)
      have hxs : x.length ≤ sizeLine := by rw [sizeLine_eq]; omega
      refine ⟨_, rfl, _, _, _, _, rfl, rfl, SqL.of h3, a2, _, rfl, x, rfl, hxs, _, _, rfl, rfl, (by show (0 : Int) < x.length; omega), ?_⟩
      have hsl : (sgL ++ smL).length = 39 := by rw [app_len, sgL_len]; rfl
      refine ⟨_, rfl, sgL, smL, rfl, rfl, by rw [← app_len, hsl, sizeLine_eq]; decide, ?_⟩
      obtain ⟨ch, hc1, hc2⟩ := at_text (sgL_asc.app smL_asc) (i := y3 % ((sgL ++ smL).length : Int)) (by rw [hsl]; omega) (by rw [hsl]; omega)
      refine ⟨_, rfl, _, rfl, _, _, _, _, rfl, rfl, SqL.of h3, a3, _, rfl, (sgL ++ smL), rfl, by rw [hsl, sizeLine_eq]; decide, _, _, rfl, rfl, (by show (0 : Int) < ((sgL ++ smL).length : Int); rw [hsl]; decide), (sgL ++ smL), _, ch, rfl, rfl, by rw [hsl, sizeLine_eq]; decide, hc1, ?_⟩
      have q1 := Txt.slice_le x none (some (y2 % (x.length : Int)))
      have q2 := Txt.slice_le x (some (y2 % (x.length : Int) + 1)) none
      have q3 : (⟨#[ch]⟩ : Str).length = 1 := rfl
      have q4 := app_len (Txt.slice x none (some (y2 % (x.length : Int)))) ⟨#[ch]⟩
      refine ⟨_, rfl, _, rfl, _, rfl, x, rfl, hxs, _, rfl, Txt.slice x none (some (y2 % (x.length : Int))), ⟨#[ch]⟩, rfl, rfl, by rw [sizeLine_eq]; omega, ?_⟩
      refine ⟨_, rfl, _, rfl, _, _, rfl, rfl, _, rfl, x, rfl, hxs, Txt.slice x none (some (y2 % (x.length : Int))) ++ ⟨#[ch]⟩, Txt.slice x (some (y2 % (x.length : Int) + 1)) none, rfl, rfl, by rw [sizeLine_eq]; omega, ?_⟩
      refine hnx _ _ ⟨_, _, _, _, rfl, rfl, ((ax.slice _ _).app hc2).app (ax.slice _ _), ?_⟩
      rw [app_len]
      omega
    rintro σ H4 ⟨x, v4, v5, v6, rfl, rfl, ax, x40⟩
    refine seq_post (fun σ H' => ∃ x : Str, σ = [some (.int c), some (.ref a), some (.str smL), some (.str x), v4, v5, v6] ∧ H3 = H' ∧ Asc x ∧ x.length ≤ 49) (fun nx hnx => ?_) ?_
    · refine ⟨_, rfl, _, _, _, _, rfl, rfl, SqL.of h3, a1, _, _, rfl, rfl, (by show (0 : Int) < 3; decide), rfl, _, rfl, ?_⟩
      refine ite2 (fun _ => ?_) (fun _ => hnx _ _ ⟨x, rfl, rfl, ax, by omega⟩)
      have q1 := Txt.slice_le nlL none (some (y2 % 10))
      rw [nlL_len] at q1
      refine ⟨_, rfl, _, rfl, _, _, _, _, rfl, rfl, SqL.of h3, a2, _, _, rfl, rfl, (by show (0 : Int) < 10; decide), _, rfl, nlL, rfl, by rw [nlL_len, sizeLine_eq]; decide, x, Txt.slice nlL none (some (y2 % 10)), rfl, rfl, by rw [sizeLine_eq]; omega, ?_⟩
      refine hnx _ _ ⟨_, rfl, rfl, ax.app (nlL_asc.slice _ _), ?_⟩
      rw [app_len]
      omega
    rintro σ H4 ⟨x, rfl, rfl, ax, x49⟩
    refine seq_post (fun σ H' => ∃ x : Str, σ = [some (.int c), some (.ref a), some (.str smL), some (.str x), v4, v5, v6] ∧ H3 = H' ∧ Asc x ∧ x.length ≤ 49) (fun nx hnx => ?_) ?_
    · refine ⟨_, rfl, _, _, _, _, rfl, rfl, SqL.of h3, a1, rfl, _, rfl, ?_⟩
      exact ite2 (fun _ => hnx _ _ ⟨_, rfl, rfl, asc_nil, by decide⟩) (fun _ => hnx _ _ ⟨x, rfl, rfl, ax, x49⟩)
    rintro σ H4 ⟨x, rfl, rfl, ax, x49⟩
    exact ⟨_, rfl, k _ x (s1.trans (s2.trans s3)) ax (by omega)⟩
theorem sc_l_good : FnScope ["_law_name_here", "_law_small", "_law_bad"] ["_law_name_here"] (defScope s_l_good) := ⟨rfl, rfl, rfl, by decide +kernel, rfl, by decide +kernel, by decide +kernel⟩
theorem ok_l_good (T : Txt w K mg t) : FnOk P w K mg base (CXr P w) 1 t.f_l_good t.d_l_good ["_law_name_here"] sp_l_good := by
  refine T.p_l_good.F.okR sc_l_good (fun vs H Q E h => ?_) (fun cdv A outer s H vs Q E hr h => ?_)
  · obtain ⟨x, rfl, _⟩ := h
    rfl
  · obtain ⟨x, rfl, ax, hxl, k⟩ := h
    refine ⟨_, (pss_cons (ps_set (i := 1) sc_l_good.nd rfl (Or.inr rfl) pe_str)
      (pss_cons (ps_setCompG (ts := ["_law_sign"]) (fv := [("_law_small", 1)]) (i := 2) ⟨rfl, by decide +kernel, by decide +kernel, blkFree (by rfl), ⟨⟨rfl, rfl, Or.inl rfl⟩, trivial⟩⟩ rfl sc_l_good.nd rfl rfl (by rfl) (pi_str (pv 0)) (fun _ _ _ _ => (pg_name (i := 0) (show List.Nodup (["_law_sign", "_law_small"] : List Str) from by decide +kernel) rfl (Or.inl rfl) (Or.inr rfl))) (fun _ _ _ _ => (pts_one (pt_cmpR op_notInS (pv 0) (pv 1) (by with_unfolding_all rfl)))) (fun _ _ _ => rfl) (fun _ _ _ _ _ _ => pb_emit (pv 0)))
      (pss_one (ps_ret (pe_and (pe_chain op_lt op_lt pe_int (pe_callB call_len_str (by rfl) T.n_len PySem.boot_len (pa_cons (pv 0) pa_nil)) pe_int) (pe_one (pe_cmpR op_eq (pe_callB call_len_seq (by rfl) T.n_len PySem.boot_len (pa_cons (pv 2) pa_nil)) pe_int (nomark _)))))))), ?_⟩
    refine seq_post (fun σ H' => σ = [some (.str x), some (.str smL), none] ∧ H = H') (fun nx hnx => hnx _ _ ⟨rfl, rfl⟩) ?_
    rintro σ H1 ⟨rfl, rfl⟩
    have hs : x.length = x.cps.size := rfl
    refine seq_post (fun σ H' => ∃ D : Addr, σ = [some (.str x), some (.str smL), some (.ref D)] ∧ Same H H' ∧ H' D = some (.lst ((x.cps.toList.filter fun c => !Txt.contains smL ⟨#[c]⟩).map fun c => V.str ⟨#[c]⟩))) (fun nx hnx => ?_) ?_
    · refine ⟨_, rfl, x, rfl, ax.all, fun D hD => ?_⟩
      refine loop_str (fun i σ H6 => ∃ v, σ = [v, some (.str smL)] ∧ Same H H6 ∧ H6 D = some (.lst (((x.cps.toList.take i).filter fun c => !Txt.contains smL ⟨#[c]⟩).map fun c => V.str ⟨#[c]⟩))) ⟨none, rfl, Same.new hD, upd_same⟩ ?_ ?_
      · rintro i c σ H6 hc ⟨v, rfl, s6, h6⟩
        have hil : i < x.cps.size := (Array.getElem?_eq_some_iff.mp hc).1
        have hc' : x.cps.toList[i]? = some c := by rw [Array.getElem?_toList]; exact hc
        have et : x.cps.toList.take (i + 1) = x.cps.toList.take i ++ [c] := by rw [List.take_add_one, hc']; rfl
        dsimp only [gName]
        refine ⟨_, rfl, _, rfl, _, _, rfl, rfl, _, rfl, ?_⟩
        cases e : Txt.contains smL ⟨#[c]⟩ with
        | true =>
          refine iteF ⟨_, rfl, s6, ?_⟩
          rw [h6, et, List.filter_append]
          simp [e]
        | false =>
          refine iteT ⟨_, rfl, _, h6, ?_, _, rfl, Same.add s6 hD, ?_⟩
          · rw [List.length_map]
            have := List.length_filter_le (fun c => !Txt.contains smL ⟨#[c]⟩) (x.cps.toList.take i)
            rw [List.length_take] at this
            exact small1000 (by omega)
          · rw [upd_same, et, List.filter_append]
            simp [e]
      · rintro σ H6 ⟨v, rfl, s6, h6⟩
        rw [← Array.length_toList, List.take_length] at h6
        exact hnx _ _ ⟨D, rfl, s6, h6⟩
    rintro σ H2 ⟨D, rfl, s2, h2⟩
    have he : decide (((x.cps.toList.filter fun c => !Txt.contains smL ⟨#[c]⟩).map fun c => V.str ⟨#[c]⟩).length = 0) = (mdL x smL).all id := by
      unfold mdL
      rw [List.length_map, Bool.eq_iff_iff, decide_eq_true_eq, List.length_eq_zero_iff, List.filter_eq_nil_iff, List.all_map, List.all_eq_true]
      constructor
      · intro h c hc
        have := h c hc
        simpa using this
      · intro h c hc
        have := h c hc
        simpa using this
    have kk := k H2 s2
    unfold isN at kk
    rw [show Str.ofString "abcdefghijklmnopqrstuvwxyz" = smL from rfl, ← he] at kk
    refine ⟨_, rfl, x, rfl, by rw [sizeLine_eq]; omega, _, _, rfl, rfl, _, rfl, ?_⟩
    refine ite2 (fun z => ?_) (fun z => ?_)
    · refine ⟨_, _, rfl, rfl, _, rfl, ?_⟩
      have z1 : (1 : Int) ≤ x.length := by have := of_decide_eq_true z; omega
      rw [decide_eq_true z1, Bool.true_and] at kk
      refine ite2 (fun z2 => ?_) (fun z2 => ?_)
      · have z3 : (x.length : Int) ≤ 8 := by have := of_decide_eq_true z2; omega
        rw [decide_eq_true z3, Bool.true_and] at kk
        refine ⟨_, rfl, D, _, rfl, .inl (SqL.of h2), rfl, ?_⟩
        have ee : ∀ n : Nat, decide (V.int (n : Int) = V.int 0) = decide (n = 0) := fun n => by simp
        show Q (.bl (decide (V.int ((((x.cps.toList.filter fun c => !Txt.contains smL ⟨#[c]⟩).map fun c => V.str ⟨#[c]⟩).length : Nat) : Int) = V.int 0))) H2
        rw [ee]
        exact kk
      · have z3 : ¬ (x.length : Int) ≤ 8 := fun h => z2 (decide_eq_true (by omega))
        rw [decide_eq_false z3, Bool.false_and] at kk
        exact kk
    · have z1 : ¬ (1 : Int) ≤ x.length := fun h => z (decide_eq_true (by omega))
      rw [decide_eq_false z1, Bool.false_and, Bool.false_and] at kk
      exact ⟨_, rfl, iteF kk⟩
end
end KT
set_option maxHeartbeats 4000000
namespace KT
open PySem L2
theorem Pl.wind {M : List (Option Nat)} {ws vs : List Nat} {m s : Nat} (h : Pl M ws) (hl : vs.length = m * ws.length) (hne : vs ≠ []) (hg : ∀ k, k < vs.length → vs[k]? = ws[(k + s) % ws.length]?) : Pl M vs := by
 have dv : ws.length ∣ vs.length := ⟨m, by rw [hl, Nat.mul_comm]⟩
 have hp : 0 < vs.length := by cases vs with | nil => exact absurd rfl hne | cons _ _ => simp
 refine ⟨hne, fun p hm => ?_, fun k a p ha hp' m' hm' => ?_⟩
 ·obtain ⟨k, hk, e⟩ := List.mem_iff_getElem.mp hm
  have := hg k hk
  rw [List.getElem?_eq_getElem hk, e] at this
  exact h.has p (List.mem_of_getElem? this.symm)
 ·have hk : k < vs.length := (List.getElem?_eq_some_iff.mp ha).1
  rw [hg k hk] at ha
  rw [hg _ (Nat.mod_lt _ hp)] at hp'
  refine h.nxt ((k + s) % ws.length) a p ha ?_ m' hm'
  rw [← hp']
  congr 1
  rw [Nat.mod_add_mod, ← Nat.mod_add_mod ((k + 1) % vs.length), Nat.mod_mod_of_dvd _ dv, Nat.mod_add_mod]
  congr 1
  omega
theorem Pl.turn {M : List (Option Nat)} {ws : List Nat} {m b : Nat} (h : Pl M ws) (hb : b < m * ws.length) : Pl M (rot (List.replicate m ws).flatten b) := by
 have hl := repl_len ws m
 have hrl : (rot (List.replicate m ws).flatten b).length = m * ws.length := by rw [rot_len _ (by omega), hl]
 refine h.wind (m := m) (s := b) hrl (fun z => ?_) fun k hk => ?_
 ·rw [z] at hrl
  simp only [List.length_nil] at hrl
  omega
 ·rw [hrl] at hk
  rw [rot_get (by omega) (by omega), hl, repl_get ws m _ (Nat.mod_lt _ (by omega)), Nat.mod_mod_of_dvd _ ⟨m, Nat.mul_comm _ _⟩]
theorem wI_rep (ws : List Nat) (m : Nat) : (List.replicate m (wI ws)).flatten = wI (List.replicate m ws).flatten := by
 unfold wI; rw [List.map_flatten, List.map_replicate]
theorem plain_rng {M : List (Option Nat)} {ws : List Int} (hM : M.length ≤ 1000) (h : plainB M ws = true) : ∀ i ∈ ws, 0 ≤ i ∧ i < 1000000 := fun i hi => by
 unfold plainB at h
 rw [Bool.and_eq_true, Bool.and_eq_true, List.all_map, List.all_eq_true] at h
 have := h.2.1 i hi
 have : crossB M i = true := this
 unfold crossB at this
 rw [Bool.and_eq_true, decide_eq_true_eq] at this
 omega
theorem plain_neg (M : List (Option Nat)) : plainB M [-1] = false := by
 unfold plainB crossB
 rfl
theorem rowI_zero (n : Nat) : (List.replicate n [V.int 0]).flatten = rowI n (fun _ => 0) := by
 unfold rowI
 induction n with
 | zero => rfl
 | succ n ih => rw [List.replicate_succ', List.flatten_append, ih, List.range_succ, List.map_append]; rfl
theorem dueN_good {x : Str} {l1 l2 : List Str} (h : isN x = true) (h1 : x ∉ l1) (h2 : x ∉ l2) : dueN x l1 l2 = "" := by
 unfold dueN
 rw [if_neg (by rw [h]; decide), if_neg (fun z => z.elim h1 h2)]
theorem dueN_bad {x : Str} {l1 l2 : List Str} (h : isN x = false) : dueN x l1 l2 = "bad name" := by
 unfold dueN
 rw [if_pos h]
theorem dueN_taken {x : Str} {l1 l2 : List Str} (h : isN x = true) (h1 : x ∈ l1 ∨ x ∈ l2) : dueN x l1 l2 = "taken" := by
 unfold dueN
 rw [if_neg (by rw [h]; decide), if_pos h1]
theorem dueL_no {M : List (Option Nat)} {x : Str} {l1 l2 : List Str} {ws : List Int} (h : plainB M ws = false) : dueL M x l1 l2 ws = if dueN x l1 l2 ≠ "" then dueN x l1 l2 else "no thread" := by
 unfold dueL
 rw [if_pos h]
theorem dueL_far {M : List (Option Nat)} {x : Str} {l1 l2 : List Str} {ws : List Int} (h : plainB M ws = true) (h4 : 400 < ws.length) : dueL M x l1 l2 ws = if dueN x l1 l2 ≠ "" then dueN x l1 l2 else "too many" := by
 unfold dueL
 rw [if_neg (show ¬ plainB M ws = false by rw [h]; decide), if_pos h4]
theorem dueL_good {M : List (Option Nat)} {x : Str} {l1 l2 : List Str} {ws : List Int} (h : plainB M ws = true) (h4 : ws.length ≤ 400) : dueL M x l1 l2 ws = dueN x l1 l2 := by
 unfold dueL
 rw [if_neg (show ¬ plainB M ws = false by rw [h]; decide), if_neg (show ¬ 400 < ws.length by omega)]
 by_cases c : dueN x l1 l2 = ""
 ·rw [if_neg (fun z => z c)]; exact c.symm
 ·rw [if_pos c]
theorem nothr_ne {d : Str} : (if d ≠ "" then d else ("no thread" : Str)) ≠ "" := by
 by_cases c : d = ""
 ·rw [if_neg (fun z => z c)]; decide
 ·rw [if_pos c]; exact c
theorem far_ne {d : Str} : (if d ≠ "" then d else ("too many" : Str)) ≠ "" := by
 by_cases c : d = ""
 ·rw [if_neg (fun z => z c)]; decide
 ·rw [if_pos c]; exact c
theorem len0 {d : Str} (h : d.length = 0) : d = "" := by
 have : d.cps = #[] := Array.eq_empty_of_size_eq_zero h
 cases d
 cases this
 rfl
theorem isN_a : isN "a" = true := by decide +kernel
theorem isN_th : isN "thread" = true := by decide +kernel
theorem isN_fa : isN "family" = true := by decide +kernel
theorem asc_a : Asc "a" := by show ∀ c ∈ ("a" : Str).cps.toList, c < 128; decide +kernel
theorem asc_th : Asc "thread" := by show ∀ c ∈ ("thread" : Str).cps.toList, c < 128; decide +kernel
theorem asc_fa : Asc "family" := by show ∀ c ∈ ("family" : Str).cps.toList, c < 128; decide +kernel
theorem inV2 {x A1 A2 : Str} : inV (.str x) [.str A1, .str A2] = decide (x = A1 ∨ x = A2) := by
 show ((A1 == x) || ((A2 == x) || false)) = _
 rw [Bool.or_false, Bool.eq_iff_iff, Bool.or_eq_true, beq_iff_eq, beq_iff_eq, decide_eq_true_eq]
 exact ⟨fun z => z.imp Eq.symm Eq.symm, fun z => z.imp Eq.symm Eq.symm⟩
theorem dueN_len {x : Str} {l1 l2 : List Str} : (dueN x l1 l2).length ≤ sizeLine := by
 unfold dueN
 split
 ·decide +kernel
 ·split
  ·decide +kernel
  ·decide +kernel
theorem ne_same {A B : Prop} {s s' : Str} (e : s = s') (h : B) : if (!decide (V.str s = V.str s')) = true then A else B := by
 subst e
 rw [decide_eq_true rfl]
 exact iteF h
noncomputable def ScA (K : PySem.W.Frag) (H : Hp) (a p st : Addr) (xs : List V) : Prop := (Rd H a (.lst xs) ∧ a ≠ p ∧ a ≠ st) ∨ ∃ (o : Obj) (its : Array Value) (n : Nat), K.lookup a = some o ∧ o.cls = .type "list" ∧ o.dict = none ∧ o.data = .seq its n ∧ its.size ≤ sizeLine ∧ Vals xs its.toList
theorem ScA.seq {K : PySem.W.Frag} {H : Hp} {a p st : Addr} {xs : List V} (h : ScA K H a p st xs) : SqL K H a xs := h.imp (·.1) id
structure KI (K : PySem.W.Frag) (CT CS CH : Addr) (a wd cn p st : Addr) (sc : List Int) (ws : List Nat) (M : List (Option Nat)) (ns : List Int) (H : Hp) (l1 l2 ds : List Str) : Prop where
 scr : ScA K H a p st (sc.map V.int)
 wrd : H wd = some (.lst ((wI ws).map V.int))
 cnt : ∃ g, GoodC H cn M ns g
 hal : Hok CT CS CH H p st M ns l1 l2 ds
 asc : ∀ r ∈ ds, Asc r
 n1 : wd ≠ p
 n2 : wd ≠ st
 n3 : cn ≠ p
 n4 : cn ≠ st
theorem KI.same {K : PySem.W.Frag} {CT CS CH a wd cn p st : Addr} {sc : List Int} {ws : List Nat} {M : List (Option Nat)} {ns : List Int} {H H' : Hp} {l1 l2 ds : List Str} (h : KI K CT CS CH a wd cn p st sc ws M ns H l1 l2 ds) (s : Same H H') : KI K CT CS CH a wd cn p st sc ws M ns H' l1 l2 ds := by
 obtain ⟨b1, b2, ⟨g, ⟨ks, c1, c2⟩, c3⟩, ⟨b4, b5⟩, b6, n1, n2, n3, n4⟩ := h
 refine ⟨b1.imp (fun z => ⟨z.1.imp (s _ _) fun zz38 => ?_, z.2⟩) id, s _ _ b2, ⟨g, ⟨ks, s _ _ c1, c2⟩, c3⟩, ⟨b4.same s, b5⟩, b6, n1, n2, n3, n4⟩
 obtain ⟨o, e⟩ := zz38
 exact ⟨o, s _ _ e⟩
theorem KI.oth {K : PySem.W.Frag} {CT CS CH a wd cn p st : Addr} {sc : List Int} {ws : List Nat} {M : List (Option Nat)} {ns : List Int} {H H' : Hp} {l1 l2 ds k1 k2 : List Str} {r : Str} (h : KI K CT CS CH a wd cn p st sc ws M ns H l1 l2 ds) (s : Oth2 p st H H') (hs : HS CT CS CH H' p st M ns k1 k2 (ds ++ [r])) (hr : Asc r) (hd : ds.length ≤ 700) (q1 : k1.length ≤ 800) (q2 : k2.length ≤ 800) (q3 : k1.Nodup) (q4 : k2.Nodup) : KI K CT CS CH a wd cn p st sc ws M ns H' k1 k2 (ds ++ [r]) := by
 obtain ⟨b1, b2, ⟨g, ⟨ks, c1, c2⟩, c3⟩, ⟨b4, td, h64, _⟩, b6, n1, n2, n3, n4⟩ := h
 refine ⟨b1.imp (fun z => ⟨z.1.imp (s _ _ z.2.1 z.2.2) fun ⟨o, e⟩ => ⟨o, s _ _ z.2.1 z.2.2 e⟩, z.2⟩) id, s _ _ n1 n2 b2, ⟨g, ⟨ks, s _ _ n3 n4 c1, c2⟩, c3⟩, ⟨hs, td, h64, by rw [List.length_append, List.length_singleton]; omega, q1, q2, q3, q4⟩, fun y hy => ?_, n1, n2, n3, n4⟩
 rcases List.mem_append.mp hy with z | z
 ·exact b6 y z
 ·rw [List.mem_singleton.mp z]; exact hr
noncomputable abbrev S55 (a m r p wd cn q dl fr : Addr) (x d : Str) : St := [some (.ref a), some (.ref m), some (.ref r), some (.ref p), some (.ref wd), some (.ref cn), some (.str x), some (.ref q), some (.str d), some (.ref dl), some (.ref fr)]
structure KJ (K : PySem.W.Frag) (CT CS CH : Addr) (a wd cn p st q dl fr : Addr) (sc : List Int) (ws : List Nat) (M : List (Option Nat)) (ns : List Int) (A1 A2 r1 r2 : Str) (Rw : List Int) (H : Hp) : Prop where
 ki : KI K CT CS CH a wd cn p st sc ws M ns H [A1] [A2] [r1, r2]
 pr : H q = some (.tup [.str A1, .str A2])
 de : H dl = some (.lst ([r1, r2].map V.str))
 fa : H fr = some (.lst (Rw.map V.int))
theorem KJ.same {K : PySem.W.Frag} {CT CS CH a wd cn p st q dl fr : Addr} {sc : List Int} {ws : List Nat} {M : List (Option Nat)} {ns : List Int} {A1 A2 r1 r2 : Str} {Rw : List Int} {H H' : Hp} (h : KJ K CT CS CH a wd cn p st q dl fr sc ws M ns A1 A2 r1 r2 Rw H) (s : Same H H') : KJ K CT CS CH a wd cn p st q dl fr sc ws M ns A1 A2 r1 r2 Rw H' := ⟨h.ki.same s, s _ _ h.pr, s _ _ h.de, s _ _ h.fa⟩
section
variable {P : Program} {w : World} {K : PySem.W.Frag} {mg : Str → Option Value} {base : Heap} {t : Adr}
theorem sc_law : FnScope ["_law_script", "_law_mates", "_law_rows_here", "_law_hall", "_law_word", "_law_counts", "_law_name_here", "_law_pair", "_law_due", "_law_deeds", "_law_far"] ["_law_script"] (defScope s_law) := ⟨rfl, rfl, rfl, by decide +kernel, rfl, by decide +kernel, by decide +kernel⟩
theorem ok_law (T : Txt w K mg t) : FnOk P w K mg base (CXr P w) 10 t.f_law t.d_law ["_law_script"] (sp_law K) := by
 refine T.p_law.F.okR sc_law (fun vs H Q E h => ?_) (fun cdv A outer s H vs Q E hr h => ?_)
 ·obtain ⟨a, ns, rfl, _⟩ := h
  rfl
 ·obtain ⟨a, sc, rfl, hS, hl, k⟩ := h
  refine ⟨_, (pss_cons (ps_asg (pe_call (ok_l_tent T) (hr.mono (by decide)) rfl T.p_l_tent.g T.p_l_tent.F.kp T.p_l_tent.b .nil passR (pa_cons (pv 0) pa_nil)) (pg_tup rfl (pgs_cons (pg_name (i := 1) sc_law.nd rfl (Or.inl rfl)) (pgs_cons (pg_name (i := 2) sc_law.nd rfl (Or.inl rfl)) pgs_nil))))
   (pss_cons (ps_set (i := 3) sc_law.nd rfl (Or.inl rfl) (pe_make T.mk_Hall (ok_Hall_init T) (hr.mono (by decide)) rfl T.gC_Hall T.p_Hall_init.b .nil passR (pa_cons (pe_callTy call_list_of (by rfl) T.n_list PySem.Pv.boot_list (pa_cons (pv 2) pa_nil)) pa_nil)))
   (pss_cons (ps_set (i := 4) sc_law.nd rfl (Or.inl rfl) (pe_call (ok_l_thread T) (hr.mono (by decide)) rfl T.p_l_thread.g T.p_l_thread.F.kp T.p_l_thread.b .nil passR (pa_cons (pv 0) (pa_cons pe_int (pa_cons (pv 1) pa_nil)))))
   (pss_cons (ps_set (i := 5) sc_law.nd rfl (Or.inl rfl) (pe_call (ok_l_named T) (hr.mono (by decide)) rfl T.p_l_named.g T.p_l_named.F.kp T.p_l_named.b .nil passR (pa_cons (pv 2) (pa_cons (pe_op op_rep (pe_lst (pa_cons pe_int pa_nil)) (pe_callB call_len_seq (by rfl) T.n_len PySem.boot_len (pa_cons (pv 1) pa_nil))) pa_nil))))
   (pss_cons (ps_if (pt_cmpR op_eq (pe_callB call_len_seq (by rfl) T.n_len PySem.boot_len (pa_cons (pv 4) pa_nil)) pe_int (nomark _)) (pss_one (ps_ret (pe_cmpR op_eq (pe_call (ok_l_told T) (hr.mono (by decide)) rfl T.p_l_told.g T.p_l_told.F.kp T.p_l_told.b .nil passR (pa_cons (pv 3) (pa_cons pe_int (pa_cons pe_str (pa_cons (pe_lst (pa_cons (pe_op op_sub pe_int pe_int) pa_nil)) pa_nil))))) pe_str (nomark _)))) pss_nil)
   (pss_cons (ps_set (i := 6) sc_law.nd rfl (Or.inl rfl) (pe_call (ok_l_name T) (hr.mono (by decide)) rfl T.p_l_name.g T.p_l_name.F.kp T.p_l_name.b .nil passR (pa_cons (pe_call (ok_l_cell T) (hr.mono (by decide)) rfl T.p_l_cell.g T.p_l_cell.F.kp T.p_l_cell.b .nil passR (pa_cons (pv 0) (pa_cons pe_int pa_nil))) pa_nil)))
   (pss_cons (ps_set (i := 7) sc_law.nd rfl (Or.inl rfl) (pe_tup (pa_cons pe_str (pa_cons pe_str pa_nil))))
   (pss_cons (ps_if (PW.pt (pw_and (pt_val (pe_call (ok_l_good T) (hr.mono (by decide)) rfl T.p_l_good.g T.p_l_good.F.kp T.p_l_good.b .nil passR (pa_cons (pv 6) pa_nil))) (pw_and1 (pt_cmpR op_notIn_seq (pv 6) (pv 7) (by with_unfolding_all rfl))))) (pss_one (ps_set (i := 7) sc_law.nd rfl (Or.inl rfl) (pe_ix ix_tup (pe_tup (pa_cons (pv 7) (pa_cons (pe_tup (pa_cons (pv 6) (pa_cons pe_str pa_nil))) (pa_cons (pe_tup (pa_cons pe_str (pa_cons (pv 6) pa_nil))) pa_nil)))) (pe_op op_mod (pe_call (ok_l_cell T) (hr.mono (by decide)) rfl T.p_l_cell.g T.p_l_cell.F.kp T.p_l_cell.b .nil passR (pa_cons (pv 0) (pa_cons pe_int pa_nil))) pe_int) (fun _ _ => rfl)))) pss_nil)
   (pss_cons (ps_if (PW.pt (pw_or (pt_cmpR op_ne (pe_call (ok_l_told T) (hr.mono (by decide)) rfl T.p_l_told.g T.p_l_told.F.kp T.p_l_told.b .nil passR (pa_cons (pv 3) (pa_cons pe_int (pa_cons (pe_ix ix_tup (pv 7) pe_int (fun _ _ => rfl)) (pa_cons (pv 4) pa_nil))))) pe_str (nomark _)) (pw_or1 (pt_cmpR op_ne (pe_call (ok_l_told T) (hr.mono (by decide)) rfl T.p_l_told.g T.p_l_told.F.kp T.p_l_told.b .nil passR (pa_cons (pv 3) (pa_cons pe_int (pa_cons (pe_ix ix_tup (pv 7) pe_int (fun _ _ => rfl)) (pa_cons (pv 5) pa_nil))))) pe_str (nomark _))))) (pss_one (ps_ret pe_bl)) pss_nil)
   (pss_cons (ps_set (i := 8) sc_law.nd rfl (Or.inl rfl) pe_str)
   (pss_cons (ps_if (pt_val (pe_call (ok_l_good T) (hr.mono (by decide)) rfl T.p_l_good.g T.p_l_good.F.kp T.p_l_good.b .nil passR (pa_cons (pv 6) pa_nil))) (pss_one (ps_set (i := 8) sc_law.nd rfl (Or.inl rfl) (pe_ifExp (pt_cmpR op_in_seq (pv 6) (pv 7) (by with_unfolding_all rfl)) pe_str pe_str))) pss_nil)
   (pss_cons (ps_set (i := 9) sc_law.nd rfl (Or.inl rfl) (pe_meth0 (pv 3) T.cl_Hall T.p_Hall_deeds.m (ok_Hall_deeds T) (hr.mono (by decide)) T.p_Hall_deeds.b .nil passR))
   (pss_cons (ps_set (i := 10) sc_law.nd rfl (Or.inl rfl) (pe_op op_rep (pv 4) (pe_op op_add pe_int (pe_op op_fdiv pe_int (pe_callB call_len_seq (by rfl) T.n_len PySem.boot_len (pa_cons (pv 4) pa_nil))))))
   (pss_cons (ps_if (pt_cmpR op_ne (pe_call (ok_l_told T) (hr.mono (by decide)) rfl T.p_l_told.g T.p_l_told.F.kp T.p_l_told.b .nil passR (pa_cons (pv 3) (pa_cons pe_int (pa_cons (pv 6) (pa_cons (pe_lst pa_nil) pa_nil))))) (pe_orS (pv 8) (pe_one pe_str)) (nomark _)) (pss_one (ps_ret pe_bl)) pss_nil)
   (pss_cons (ps_if (pt_cmpR op_ne (pe_call (ok_l_told T) (hr.mono (by decide)) rfl T.p_l_told.g T.p_l_told.F.kp T.p_l_told.b .nil passR (pa_cons (pv 3) (pa_cons pe_int (pa_cons (pv 6) (pa_cons pe_dnewK pa_nil))))) (pe_orS (pv 8) (pe_one pe_str)) (nomark _)) (pss_one (ps_ret pe_bl)) pss_nil)
   (pss_cons (ps_if (PW.pt (pw_or (pt_cmpR op_ne (pe_call (ok_l_told T) (hr.mono (by decide)) rfl T.p_l_told.g T.p_l_told.F.kp T.p_l_told.b .nil passR (pa_cons (pv 3) (pa_cons pe_int (pa_cons (pv 6) (pa_cons (pv 10) pa_nil))))) (pe_orS (pv 8) (pe_one pe_str)) (nomark _)) (pw_or1 (pt_cmpR (op_neD hr.units) (pe_meth0 (pv 3) T.cl_Hall T.p_Hall_deeds.m (ok_Hall_deeds T) (hr.mono (by decide)) T.p_Hall_deeds.b .nil passR) (pv 9) (nomark _))))) (pss_one (ps_ret pe_bl)) pss_nil)
   (pss_cons (ps_if (PW.pt (pw_or (pt_cmpR (op_neD hr.units) (pe_meth0 (pv 3) T.cl_Hall T.p_Hall_names.m (ok_Hall_names T) (hr.mono (by decide)) T.p_Hall_names.b .nil passR) (pe_lst (pa_cons (pe_ix ix_tup (pv 7) pe_int (fun _ _ => rfl)) pa_nil)) (nomark _)) (pw_or1 (pt_cmpR (op_neD hr.units) (pe_meth0 (pv 3) T.cl_Hall T.p_Hall_families.m (ok_Hall_families T) (hr.mono (by decide)) T.p_Hall_families.b .nil passR) (pe_lst (pa_cons (pe_ix ix_tup (pv 7) pe_int (fun _ _ => rfl)) pa_nil)) (nomark _))))) (pss_one (ps_ret pe_bl)) pss_nil)
   (pss_cons (ps_if (PW.pt (pw_and (pt_cmpR op_ne (pv 8) pe_str (nomark _)) (pw_and1 (pt_cmpR op_ne (pe_call (ok_l_told T) (hr.mono (by decide)) rfl T.p_l_told.g T.p_l_told.F.kp T.p_l_told.b .nil passR (pa_cons (pv 3) (pa_cons pe_int (pa_cons (pv 6) (pa_cons (pv 4) pa_nil))))) (pv 8) (nomark _))))) (pss_one (ps_ret pe_bl)) pss_nil)
   (pss_cons (ps_if (PW.pt (pw_and (pt_cmpR op_ne (pv 8) pe_str (nomark _)) (pw_and1 (pt_cmpR op_ne (pe_call (ok_l_told T) (hr.mono (by decide)) rfl T.p_l_told.g T.p_l_told.F.kp T.p_l_told.b .nil passR (pa_cons (pv 3) (pa_cons pe_int (pa_cons (pv 6) (pa_cons (pv 5) pa_nil))))) (pv 8) (nomark _))))) (pss_one (ps_ret pe_bl)) pss_nil)
   (pss_cons (ps_if (pt_cmpR op_ne (pe_call (ok_l_told T) (hr.mono (by decide)) rfl T.p_l_told.g T.p_l_told.F.kp T.p_l_told.b .nil passR (pa_cons (pv 3) (pa_cons pe_int (pa_cons (pv 6) (pa_cons pe_str pa_nil))))) (pe_ifExp (pt_cmpR op_in_seq (pv 6) (pv 7) (by with_unfolding_all rfl)) pe_str pe_str) (nomark _)) (pss_one (ps_ret pe_bl)) pss_nil)
   (pss_cons (ps_if (pt_cmpR op_eq (pv 8) pe_str (nomark _)) (pss_one (ps_ret (pe_cmpR (op_eqD hr.units) (pe_meth0 (pv 3) T.cl_Hall T.p_Hall_deeds.m (ok_Hall_deeds T) (hr.mono (by decide)) T.p_Hall_deeds.b .nil passR) (pv 9) (nomark _)))) pss_nil)
   (pss_one (ps_ret (pe_and (pe_cmpR op_eq (pe_call (ok_l_told T) (hr.mono (by decide)) rfl T.p_l_told.g T.p_l_told.F.kp T.p_l_told.b .nil passR (pa_cons (pv 3) (pa_cons pe_int (pa_cons (pv 6) (pa_cons (pv 5) pa_nil))))) pe_str (nomark _)) (pe_one (pe_cmpR op_eq (pe_call (ok_l_told T) (hr.mono (by decide)) rfl T.p_l_told.g T.p_l_told.F.kp T.p_l_told.b .nil passR (pa_cons (pv 3) (pa_cons pe_int (pa_cons (pv 6) (pa_cons (pv 4) pa_nil))))) pe_str (nomark _))))))))))))))))))))))))))), ?_⟩
  refine seq_cut fun nxC hnxC => ?_
  refine ⟨_, rfl, a, sc, rfl, hS, hl, fun pq m r M ns H1 sm1 hp hm hr1 td h42 hm0 hr0 => ?_⟩
  refine ⟨pq, _, rfl, SqT.of hp, rfl, _, _, rfl, _, _, rfl, rfl, ?_⟩
  refine hnxC _ _ ?_
  have hMl := td.len
  obtain ⟨ts, g1, g2, g3⟩ := id hr1
  refine seq_cut fun nxC hnxC => ?_
  refine ⟨_, rfl, r, _, rfl, .inl (SqL.of g1), fun l hl1 => ?_⟩
  intro p dx hp hdx hne
  obtain ⟨rl2, s2⟩ := tent_new (C := t.C_Hall) g1 g2 g3 hl1 hp hdx
  refine ⟨p, l, dx, M, ns, rfl, upd_same, rl2, td, by omega, fun H3 old hn => ⟨rfl, ?_⟩⟩
  obtain ⟨be, sc', st, un, dxs, th, po, wo, ks, hn, hst⟩ := hn
  have s12 : Same H1 _ := fun b u e => s2 b u ((Same.new hl1) b u e)
  have s3 : Same H1 H3 := fun b u e => old b u (ne_of_none ((Same.new hl1) b u e) hp) (s12 b u e)
  have hp1 : H1 p = none := (upd_none hp).2
  have hst1 : H1 st = none := by
   cases e : H1 st with
   | none => rfl
   | some u => have z := s12 _ _ e; rw [hst] at z; cases z
  refine hnxC _ _ ?_
  have hr3 := hr1.same s3
  have hm3 := s3 _ _ hm
  have hS1 := sm1.seq hS
  have hS3 : SqL K H3 a (sc.map V.int) := s3.seq hS1
  have hA3 : ScA K H3 a p st (sc.map V.int) := hS1.imp (fun z => ⟨z.imp (s3 _ _) fun ⟨o, e⟩ => ⟨o, s3 _ _ e⟩, z.elim (fun e => ⟨ne_of_none e hp1, ne_of_none e hst1⟩) fun ⟨o, e⟩ => ⟨ne_of_none e hp1, ne_of_none e hst1⟩⟩) id
  have hs3 : HS t.C_Tent t.C_Scene t.C_Hall H3 p st M ns [] [] [] := ⟨dx, be, sc', un, dxs, be, th, po, .ref wo, [], [], hn.ins, hn.scn, hn.thr, hn.poo, hn.tent, ⟨[], hn.sta, rfl, fun i q x hq => by simp at hq⟩, rfl, rfl⟩
  have hp3 : H3 p ≠ none := by rw [hn.ins]; exact fun z => nomatch z
  have hst3 : H3 st ≠ none := by rw [hn.sta]; exact fun z => nomatch z
  clear rl2 s2 old hn hne g1 g2 g3 hm0 hr0 hr1 hm s12 hdx hl1 hst
  try dsimp only [gName]
  refine seq_cut fun nxC hnxC => ?_
  refine ⟨_, rfl, _, rfl, a, m, sc, 3, M, rfl, hS3, hl, by decide, by decide, hm3, h42, ⟨_, td.n.choose_spec.2.2⟩, td.inv, fun wd ws H4 s4 hwd h4 hw60 hpl => ?_⟩
  refine hnxC _ _ ?_
  have h4' : H4 wd = some (.lst ((wI ws).map V.int)) := by rw [h4, List.map_map]; rfl
  have hm4 := s4 _ _ hm3
  try dsimp only [gName]
  refine seq_cut fun nxC hnxC => ?_
  refine ⟨_, rfl, (by show 1 ≤ sizeLine; decide), fun l0 hl0 => ?_⟩
  have s5 : Same H4 (upd H4 l0 (.lst [V.int 0])) := Same.new hl0
  have h5 : (upd H4 l0 (.lst [V.int 0])) l0 = some (.lst [V.int 0]) := upd_same
  generalize upd H4 l0 (.lst [V.int 0]) = H5 at s5 h5 ⊢
  refine ⟨_, rfl, m, _, rfl, .inl (SqL.of (s5 _ _ hm4)), l0, _, _, rfl, rfl, h5, by omega, by rw [List.length_map]; omega, by rw [List.length_map]; show 1 * _ ≤ _; rw [sizeLine_eq]; omega, fun l6 hl6 => ?_⟩
  have e6 : (List.replicate (((M.map mV).length : Nat) : Int).toNat [V.int 0]).flatten = rowI ns.length (fun _ => 0) := by rw [Int.toNat_natCast, List.length_map, ← hMl]; exact rowI_zero _
  rw [e6]
  have s6 : Same H5 (upd H5 l6 (.lst (rowI ns.length fun _ => 0))) := Same.new hl6
  have h6 : (upd H5 l6 (.lst (rowI ns.length fun _ => 0))) l6 = some (.lst (rowI ns.length fun _ => 0)) := upd_same
  generalize upd H5 l6 (.lst (rowI ns.length fun _ => 0)) = H6 at s6 h6 ⊢
  have s46 := s5.trans s6
  refine ⟨r, l6, ns, fun _ => 0, rfl, (hr3.same s4).same s46, by omega, h6, fun cn g H7 s7 hcn hd hg => ?_⟩
  refine hnxC _ _ ?_
  have s47 := s46.trans s7
  have s37 := s4.trans s47
  have hg0 : ∀ x ∈ keys ns ns.length, g x = 0 := fun x hx => (hg x hx).choose_spec.2
  have gc : GoodC H7 cn M ns g := by
   have hk : ∀ i, i < ns.length → g (ns.getD i 0) = 0 := fun i hi => hg0 _ (key_at hi)
   refine ⟨⟨_, hd, List.Perm.refl _⟩, ⟨fun x hx => by rw [hg0 x hx]; exact Int.le_refl _, fun i x _ hx => hg0 x (keys_mem.mpr ⟨i, (List.getElem?_eq_some_iff.mp hx).1, hx⟩), fun j hj => ?_, fun j hj => ?_⟩, fun x hx => by rw [hg0 x hx]; decide⟩
   ·rw [hk _ (by omega), hk _ (by omega), hk _ (by omega)]; rfl
   ·rw [hk _ (by omega), hk _ (by omega), hk _ (by omega)]; decide
  have nn : ∀ {HX : Hp} {b : Addr}, Same H3 HX → HX b = none → b ≠ p ∧ b ≠ st := fun {HX b} sx hb => ⟨fun z => by cases e : H3 p with | none => exact hp3 e | some u => (rw [z, sx _ _ e] at hb; cases hb), fun z => by cases e : H3 st with | none => exact hst3 e | some u => (rw [z, sx _ _ e] at hb; cases hb)⟩
  obtain ⟨n1, n2⟩ := nn (Same.refl _) hwd
  obtain ⟨n3, n4⟩ := nn (s4.trans s46) hcn
  have ki : KI K t.C_Tent t.C_Scene t.C_Hall a wd cn p st sc ws M ns H7 [] [] [] := ⟨hA3.imp (fun z => ⟨z.1.imp (s37 _ _) fun ⟨o, e⟩ => ⟨o, s37 _ _ e⟩, z.2⟩) id, s47 _ _ h4', ⟨g, gc⟩, ⟨hs3.same s37, td, by omega, by decide, by decide, by decide, List.nodup_nil, List.nodup_nil⟩, fun r hr => (by cases hr), n1, n2, n3, n4⟩
  have hM : M.length ≤ 1000 := by omega
  clear gc hg0 hg hd hcn h6 h5 h4 h4' hm3 hm4 hr3 hS3 hA3 hs3 s47 s46 s37 s7 s6 s5 s4 nn hl6 hl0 hwd n1 n2 n3 n4 hp3 hst3 e6 hS1 hS hp1 hst1 s3 hp sm1
  try dsimp only [gName]
  refine seq_cut fun nxC hnxC => ?_
  refine ⟨_, rfl, wd, _, rfl, .inl (SqL.of ki.wrd), rfl, _, rfl, ?_⟩
  refine ite2 (fun z => ?_) (fun z => ?_)
  ·refine ⟨_, rfl, _, _, rfl, rfl, (by show 1 ≤ sizeLine; decide), fun l8 hl8 => ?_⟩
   have s8 : Same H7 (upd H7 l8 (.lst [V.int (0 - 1)])) := Same.new hl8
   have e8 : dueL M "a" [] [] [-1] = "no thread" := by rw [dueL_no (plain_neg M), dueN_good isN_a (fun z => by cases z) (fun z => by cases z), if_neg (by decide)]
   refine .inl ⟨p, st, l8, M, ns, [], [], [], "a", [-1], rfl, (ki.same s8).hal, asc_a, by decide, upd_same, by decide, plain_rng hM, fun _ H' s' => ⟨rfl, ?_⟩, fun e => absurd e (by rw [e8]; decide)⟩
   rw [e8, decide_eq_true rfl]
   exact k _
  have hP : Pl M ws := by
   rcases hpl with rfl | hP
   ·exact absurd rfl z
   ·exact hP
  have hw0 : 0 < ws.length := by have := hP.ne; cases ws with | nil => exact absurd rfl this | cons _ _ => simp
  have hpb : plainB M (wI ws) = true := plain_iff.mpr hP
  dsimp only [tNext]
  refine hnxC _ _ ?_
  refine seq_cut fun nxC hnxC => ?_
  refine ⟨_, rfl, a, sc, 4, rfl, ki.scr.seq, hl, by decide, by decide, _, rfl, fun H8 x s8 ax hx100 => ?_⟩
  refine hnxC _ _ ?_
  have ki := ki.same s8
  clear s8
  try dsimp only [gName]
  refine seq_post (fun σ H' => ∃ (q : Addr), σ = [some (.ref a), some (.ref m), some (.ref r), some (.ref p), some (.ref wd), some (.ref cn), some (.str x), some (.ref q), none, none, none] ∧ KI K t.C_Tent t.C_Scene t.C_Hall a wd cn p st sc ws M ns H' [] [] [] ∧ H' q = some (.tup [.str "thread", .str "family"])) (fun nx hnx => ⟨(by show 2 ≤ sizeLine; decide), fun q hq => hnx _ _ ⟨q, rfl, ki.same (Same.new hq), upd_same⟩⟩) ?_
  rintro σ H9 ⟨q0, rfl, ki, hq0⟩
  refine seq_post (fun σ H' => ∃ (q : Addr) (A1 A2 : Str), σ = [some (.ref a), some (.ref m), some (.ref r), some (.ref p), some (.ref wd), some (.ref cn), some (.str x), some (.ref q), none, none, none] ∧ KI K t.C_Tent t.C_Scene t.C_Hall a wd cn p st sc ws M ns H' [] [] [] ∧ H' q = some (.tup [.str A1, .str A2]) ∧ isN A1 = true ∧ isN A2 = true ∧ A1 ≠ A2 ∧ Asc A1 ∧ Asc A2 ∧ A1.length ≤ 900 ∧ A2.length ≤ 900) (fun nx hnx => ?_) ?_
  ·have hn0 : ∀ H', Same H9 H' → nx [some (.ref a), some (.ref m), some (.ref r), some (.ref p), some (.ref wd), some (.ref cn), some (.str x), some (.ref q0), none, none, none] H' := fun H' s' => hnx _ _ ⟨q0, _, _, rfl, ki.same s', s' _ _ hq0, isN_th, isN_fa, by decide, asc_th, asc_fa, by decide, by decide⟩
   refine ⟨_, rfl, x, rfl, ax, by omega, fun H' s' => ⟨_, rfl, ?_⟩⟩
   cases ex : isN x with
   | false => exact iteF (hn0 H' s')
   | true =>
    refine iteT ⟨_, rfl, _, rfl, q0, _, rfl, .inr (SqT.of (s' _ _ hq0)), rfl, rfl, _, rfl, ?_⟩
    show if (!inV (.str x) [.str "thread", .str "family"]) = true then _ else _
    rw [inV2]
    by_cases c : x = "thread" ∨ x = "family"
    ·rw [decide_eq_true c]; exact iteF (hn0 H' s')
    ·rw [decide_eq_false c]
     refine iteT ?_
     have s1 : ∀ {q1 : Addr}, H' q1 = none → Same H' (upd H' q1 (.tup [V.str x, V.str "family"])) := fun h => Same.new h
     refine ⟨_, rfl, _, rfl, (by show 2 ≤ sizeLine; decide), fun q1 hq1 => ?_⟩
     refine ⟨_, rfl, (by show 2 ≤ sizeLine; decide), fun q2 hq2 => ?_⟩
     refine ⟨(by show 3 ≤ sizeLine; decide), fun q3 hq3 => ?_⟩
     have sA := Same.new (o := .tup [V.str x, V.str "family"]) hq1
     have sB := Same.new (o := .tup [V.str "thread", V.str x]) hq2
     have sC := Same.new (o := .tup [V.ref q0, V.ref q1, V.ref q2]) hq3
     have sT := s'.trans (sA.trans (sB.trans sC))
     refine ⟨_, rfl, a, sc, 5, rfl, (ki.same sT).scr.seq, hl, by decide, by decide, _, _, rfl, rfl, (by show (0 : Int) < 3; decide), ?_⟩
     have h0 := Int.emod_nonneg (cell sc 5) (show (3 : Int) ≠ 0 by decide)
     have h3 := Int.emod_lt_of_pos (cell sc 5) (show (0 : Int) < 3 by decide)
     have e3 : cell sc 5 % 3 = 0 ∨ cell sc 5 % 3 = 1 ∨ cell sc 5 % 3 = 2 := by omega
     rcases e3 with e | e | e
     ·exact ⟨q3, _, _, V.ref q0, rfl, rfl, SqT.of upd_same, (by rw [e]; rfl), hn0 _ sT⟩
     ·exact ⟨q3, _, _, V.ref q1, rfl, rfl, SqT.of upd_same, (by rw [e]; rfl), hnx _ _ ⟨q1, _, _, rfl, ki.same sT, (sB.trans sC) _ _ upd_same, ex, isN_fa, fun z => c (.inr z), ax, asc_fa, by omega, by decide⟩⟩
     ·exact ⟨q3, _, _, V.ref q2, rfl, rfl, SqT.of upd_same, (by rw [e]; rfl), hnx _ _ ⟨q2, _, _, rfl, ki.same sT, sC _ _ upd_same, isN_th, ex, fun z => c (.inl z.symm), asc_th, ax, by decide, by omega⟩⟩
  rintro σ H10 ⟨q, A1, A2, rfl, ki, hq, iA1, iA2, hA, aA1, aA2, lA1, lA2⟩
  clear hq0
  have ne2 : ∀ {H : Hp} {l1 l2 ds : List Str}, KI K t.C_Tent t.C_Scene t.C_Hall a wd cn p st sc ws M ns H l1 l2 ds → H q = some (.tup [.str A1, .str A2]) → q ≠ p ∧ q ≠ st := fun {H l1 l2 ds} ki e => by
   obtain ⟨⟨dx, be, sc', un, dxs, te, th, po, wo, L1, L2, h1, _, _, _, _, ⟨qs, d1, _⟩, _⟩, _⟩ := ki.hal
   exact ⟨(fun z => by rw [z, h1] at e; cases e), (fun z => by rw [z, d1] at e; cases e)⟩
  have hwl : (wI ws).length = ws.length := List.length_map _
  refine seq_post (fun σ H' => ∃ (r1 r2 : Str), σ = [some (.ref a), some (.ref m), some (.ref r), some (.ref p), some (.ref wd), some (.ref cn), some (.str x), some (.ref q), none, none, none] ∧ KI K t.C_Tent t.C_Scene t.C_Hall a wd cn p st sc ws M ns H' [A1] [A2] [r1, r2] ∧ H' q = some (.tup [.str A1, .str A2])) (fun nx hnx => ?_) ?_
  ·have e1 : dueL M A1 [] [] (wI ws) = "" := by rw [dueL_good hpb (by omega)]; exact dueN_good iA1 (fun z => by cases z) (fun z => by cases z)
   refine ⟨_, rfl, _, rfl, q, _, _, V.str A1, rfl, rfl, SqT.of hq, rfl, _, rfl, .inl ⟨p, st, wd, M, ns, [], [], [], A1, wI ws, rfl, ki.hal, aA1, lA1, ki.wrd, by omega, plain_rng hM, fun e => absurd e1 e, fun _ H' r1 ar1 o1 hs1 => ⟨rfl, _, rfl, iteF ?_⟩⟩⟩
   have ki1 := ki.oth o1 hs1 ar1 (by decide) (by show 1 ≤ 800; decide) (by decide) (List.nodup_cons.mpr ⟨by simp, List.nodup_nil⟩) List.nodup_nil
   obtain ⟨n1, n2⟩ := ne2 ki hq
   have hq1 := o1 _ _ n1 n2 hq
   have e2 : dueN A2 [A1] [] = "" := dueN_good iA2 (fun z => hA (List.mem_singleton.mp z).symm) (fun z => by cases z)
   obtain ⟨g, gc⟩ := ki1.cnt
   refine ⟨_, rfl, _, rfl, q, _, _, V.str A2, rfl, rfl, SqT.of hq1, rfl, _, rfl, .inr (.inl ⟨p, st, cn, M, ns, [A1], [], [r1], A2, rfl, ki1.hal, aA2, lA2, .inr ⟨g, gc, fun e => absurd e2 e, fun _ H'' r2 ar2 o2 hs2 => ⟨rfl, _, rfl, iteF ?_⟩⟩⟩)⟩
   have ki2 := ki1.oth o2 hs2 ar2 (by show 1 ≤ 700; decide) (by show 1 ≤ 800; decide) (by show 1 ≤ 800; decide) (List.nodup_cons.mpr ⟨by simp, List.nodup_nil⟩) (List.nodup_cons.mpr ⟨by simp, List.nodup_nil⟩)
   obtain ⟨n3, n4⟩ := ne2 ki1 hq1
   exact hnx _ _ ⟨r1, r2, rfl, ki2, o2 _ _ n3 n4 hq1⟩
  rintro σ H11 ⟨r1, r2, rfl, ki, hq⟩
  refine seq_post (fun σ H' => σ = [some (.ref a), some (.ref m), some (.ref r), some (.ref p), some (.ref wd), some (.ref cn), some (.str x), some (.ref q), some (.str "bad name"), none, none] ∧ H11 = H') (fun nx hnx => hnx _ _ ⟨rfl, rfl⟩) ?_
  rintro σ H12 ⟨rfl, rfl⟩
  refine seq_post (fun σ H' => σ = [some (.ref a), some (.ref m), some (.ref r), some (.ref p), some (.ref wd), some (.ref cn), some (.str x), some (.ref q), some (.str (dueN x [A1] [A2])), none, none] ∧ KI K t.C_Tent t.C_Scene t.C_Hall a wd cn p st sc ws M ns H' [A1] [A2] [r1, r2] ∧ H' q = some (.tup [.str A1, .str A2])) (fun nx hnx => ?_) ?_
  ·refine ⟨_, rfl, x, rfl, ax, by omega, fun H' s' => ⟨_, rfl, ?_⟩⟩
   cases ex : isN x with
   | false =>
    refine iteF (hnx _ _ ⟨?_, ki.same s', s' _ _ hq⟩)
    rw [dueN_bad ex]
   | true =>
    refine iteT ⟨_, rfl, _, rfl, q, _, rfl, .inr (SqT.of (s' _ _ hq)), rfl, rfl, _, rfl, ?_⟩
    show if inV (.str x) [.str A1, .str A2] = true then _ else _
    rw [inV2]
    by_cases c : x = A1 ∨ x = A2
    ·rw [decide_eq_true c]
     refine iteT (hnx _ _ ⟨?_, ki.same s', s' _ _ hq⟩)
     rw [dueN_taken ex (c.imp List.mem_singleton.mpr List.mem_singleton.mpr)]
     rfl
    ·rw [decide_eq_false c]
     refine iteF (hnx _ _ ⟨?_, ki.same s', s' _ _ hq⟩)
     rw [dueN_good ex (fun z => c (.inl (List.mem_singleton.mp z))) (fun z => c (.inr (List.mem_singleton.mp z)))]
     rfl
  rintro σ H13 ⟨rfl, ki, hq⟩
  refine seq_post (fun σ H' => ∃ dl : Addr, σ = [some (.ref a), some (.ref m), some (.ref r), some (.ref p), some (.ref wd), some (.ref cn), some (.str x), some (.ref q), some (.str (dueN x [A1] [A2])), some (.ref dl), none] ∧ KI K t.C_Tent t.C_Scene t.C_Hall a wd cn p st sc ws M ns H' [A1] [A2] [r1, r2] ∧ H' q = some (.tup [.str A1, .str A2]) ∧ H' dl = some (.lst ([r1, r2].map V.str))) (fun nx hnx => ?_) ?_
  ·obtain ⟨dx, be, sc', un, dxs, te, th, po, wo, L1, L2, h1, h2, h3, h4, h5, h6, h7, h8⟩ := ki.hal.1
   exact ⟨_, rfl, p, dx, _, rfl, h1, rfl, p, dx, be, sc', st, un, [r1, r2], rfl, h1, h6, by show 2 ≤ 900; decide, fun dl H' s' _ h' => hnx _ _ ⟨dl, rfl, ki.same s', s' _ _ hq, h'⟩⟩
  rintro σ H14 ⟨dl, rfl, ki, hq, hdl⟩
  obtain ⟨D, hn1, hRm, hD1⟩ : ∃ D : Nat, (1 : Int) + 400 / ((ws.length : Nat) : Int) = (D : Int) ∧ (D * ws.length ≤ 460 ∧ 400 < D * ws.length) ∧ D ≤ 401 := by
   refine ⟨1 + 400 / ws.length, by rw [Int.natCast_add, Int.natCast_ediv]; rfl, ?_, ?_⟩
   ·have h1 := Nat.div_mul_le_self 400 ws.length
    have h2 := Nat.lt_div_mul_add (a := 400) hw0
    rw [Nat.add_mul, Nat.one_mul]
    omega
   ·have := Nat.div_le_self 400 ws.length
    omega
  have hR : Pl M (List.replicate D ws).flatten := by
   have := hP.turn (m := D) (b := 0) (by omega)
   rw [rot_zero] at this
   exact this
  have hRl := repl_len ws D
  refine seq_post (fun σ H' => ∃ fr : Addr, σ = [some (.ref a), some (.ref m), some (.ref r), some (.ref p), some (.ref wd), some (.ref cn), some (.str x), some (.ref q), some (.str (dueN x [A1] [A2])), some (.ref dl), some (.ref fr)] ∧ KI K t.C_Tent t.C_Scene t.C_Hall a wd cn p st sc ws M ns H' [A1] [A2] [r1, r2] ∧ H' q = some (.tup [.str A1, .str A2]) ∧ H' dl = some (.lst ([r1, r2].map V.str)) ∧ H' fr = some (.lst ((wI (List.replicate D ws).flatten).map V.int))) (fun nx hnx => ?_) ?_
  ·refine ⟨_, rfl, _, rfl, wd, _, rfl, .inl (SqL.of ki.wrd), _, _, rfl, rfl, ⟨by rw [List.length_map, hwl]; omega, by rw [List.length_map, hwl]; omega⟩, _, _, rfl, rfl, wd, _, _, rfl, rfl, ki.wrd, ?_, ?_, ?_, fun fr hfr => ?_⟩
   all_goals rw [List.length_map, hwl, hn1]
   ·omega
   ·omega
   ·rw [Int.toNat_natCast, Nat.mul_comm, sizeLine_eq]; omega
   ·rw [Int.toNat_natCast, ← List.map_replicate, ← List.map_flatten, wI_rep]
    exact hnx _ _ ⟨fr, rfl, ki.same (Same.new hfr), Same.new hfr _ _ hq, Same.new hfr _ _ hdl, upd_same⟩
  rintro σ H15 ⟨fr, rfl, ki, hq, hdl, hfr'⟩
  have hRb : plainB M (wI (List.replicate D ws).flatten) = true := plain_iff.mpr hR
  have hRl' : (wI (List.replicate D ws).flatten).length = D * ws.length := by rw [List.length_map]; exact hRl
  generalize wI (List.replicate D ws).flatten = Rw at hRb hRl' hfr'
  clear hR hRl hn1
  have kj : KJ K t.C_Tent t.C_Scene t.C_Hall a wd cn p st q dl fr sc ws M ns A1 A2 r1 r2 Rw H15 := ⟨ki, hq, hdl, hfr'⟩
  clear ki hq hdl hfr'
  obtain ⟨d, hd⟩ : ∃ d, dueN x [A1] [A2] = d := ⟨_, rfl⟩
  have hdl : d.length ≤ sizeLine := by rw [← hd]; exact dueN_len
  rw [hd]
  refine seq_post (fun σ H' => σ = S55 a m r p wd cn q dl fr x d ∧ KJ K t.C_Tent t.C_Scene t.C_Hall a wd cn p st q dl fr sc ws M ns A1 A2 r1 r2 Rw H') (fun nx hnx => ?_) ?_
  ·have e1 : dueL M x [A1] [A2] [] = if d ≠ "" then d else "no thread" := by rw [dueL_no rfl, hd]
   refine ⟨_, rfl, _, rfl, Nat.zero_le _, fun l hl => .inl ⟨p, st, l, M, ns, [A1], [A2], [r1, r2], x, [], rfl, (kj.same (Same.new hl)).ki.hal, ax, by omega, upd_same, Nat.zero_le _, plain_rng hM, fun _ H' s' => ?_, fun e => absurd e (by rw [e1]; exact nothr_ne)⟩⟩
   have kj' := kj.same ((Same.new hl).trans s')
   refine ⟨_, rfl, d, rfl, hdl, fun h0 => ⟨rfl, _, rfl, ne_same ?_ (hnx _ _ ⟨rfl, kj'⟩)⟩, fun h0 => ⟨rfl, _, rfl, ne_same ?_ (hnx _ _ ⟨rfl, kj'⟩)⟩⟩
   ·rw [e1, if_neg (fun z => z (len0 h0))]
   ·rw [e1, if_pos (fun z => h0 (by rw [z]; rfl))]
  rintro σ H16 ⟨rfl, kj⟩
  refine seq_post (fun σ H' => σ = S55 a m r p wd cn q dl fr x d ∧ KJ K t.C_Tent t.C_Scene t.C_Hall a wd cn p st q dl fr sc ws M ns A1 A2 r1 r2 Rw H') (fun nx hnx => ?_) ?_
  ·refine ⟨_, rfl, _, rfl, fun l hl => .inr (.inl ⟨p, st, l, M, ns, [A1], [A2], [r1, r2], x, rfl, (kj.same (Same.new hl)).ki.hal, ax, by omega, .inl ⟨⟨[], [], upd_same, rfl, by decide, fun z => ?_⟩, fun H' s' => ?_⟩⟩)⟩
   ·have h0 := key_at (ns := ns) (i := 0) (by have := td_ne td; cases ns with | nil => exact absurd rfl this | cons _ _ => simp)
    have := z.mem_iff.mpr h0
    cases this
   ·have kj' := kj.same ((Same.new hl).trans s')
    rw [hd]
    refine ⟨_, rfl, d, rfl, hdl, fun h0 => ⟨rfl, _, rfl, ne_same ?_ (hnx _ _ ⟨rfl, kj'⟩)⟩, fun h0 => ⟨rfl, _, rfl, ne_same ?_ (hnx _ _ ⟨rfl, kj'⟩)⟩⟩
    ·rw [if_neg (fun z => z (len0 h0))]
    ·rw [if_pos (fun z => h0 (by rw [z]; rfl))]
  rintro σ H17 ⟨rfl, kj⟩
  have sh : ∀ r ∈ [r1, r2], Asc r := kj.ki.asc
  refine seq_post (fun σ H' => σ = S55 a m r p wd cn q dl fr x d ∧ KJ K t.C_Tent t.C_Scene t.C_Hall a wd cn p st q dl fr sc ws M ns A1 A2 r1 r2 Rw H') (fun nx hnx => ?_) ?_
  ·have e1 : dueL M x [A1] [A2] Rw = if d ≠ "" then d else "too many" := by rw [dueL_far hRb (by omega), hd]
   refine ⟨_, rfl, _, rfl, _, rfl, .inl ⟨p, st, fr, M, ns, [A1], [A2], [r1, r2], x, Rw, rfl, kj.ki.hal, ax, by omega, kj.fa, by omega, plain_rng hM, fun _ H' s' => ?_, fun e => absurd e (by rw [e1]; exact far_ne)⟩⟩
   have kj' := kj.same s'
   obtain ⟨dx, be, sc', un, dxs, te, th, po, wo, L1, L2, h1, h2, h3, h4, h5, h6, h7, h8⟩ := kj'.ki.hal.1
   refine ⟨_, rfl, d, rfl, hdl, fun h0 => ⟨rfl, _, rfl, ne_same ?_ ?_⟩, fun h0 => ⟨rfl, _, rfl, ne_same ?_ ?_⟩⟩
   ·rw [e1, if_neg (fun z => z (len0 h0))]
   ·exact ⟨_, rfl, p, dx, _, rfl, h1, rfl, p, dx, be, sc', st, un, [r1, r2], rfl, h1, h6, by show 2 ≤ 900; decide, fun dl' H'' s'' _ h' => ⟨_, rfl, DV.nev (.lst (SqL.of h') (DVs.strs _)) (.lst (SqL.of (s'' _ _ kj'.de)) (DVs.strs _)) (shaped_strs sh) ⟨_, rfl, iteF (hnx _ _ ⟨rfl, kj'.same s''⟩)⟩⟩⟩
   ·rw [e1, if_pos (fun z => h0 (by rw [z]; rfl))]
   ·exact ⟨_, rfl, p, dx, _, rfl, h1, rfl, p, dx, be, sc', st, un, [r1, r2], rfl, h1, h6, by show 2 ≤ 900; decide, fun dl' H'' s'' _ h' => ⟨_, rfl, DV.nev (.lst (SqL.of h') (DVs.strs _)) (.lst (SqL.of (s'' _ _ kj'.de)) (DVs.strs _)) (shaped_strs sh) ⟨_, rfl, iteF (hnx _ _ ⟨rfl, kj'.same s''⟩)⟩⟩⟩
  rintro σ H18 ⟨rfl, kj⟩
  refine seq_post (fun σ H' => σ = S55 a m r p wd cn q dl fr x d ∧ KJ K t.C_Tent t.C_Scene t.C_Hall a wd cn p st q dl fr sc ws M ns A1 A2 r1 r2 Rw H') (fun nx hnx => ?_) ?_
  ·obtain ⟨dx, be, sc', un, dxs, te, th, po, wo, L1, L2, h1, h2, h3, h4, h5, h6, h7, h8⟩ := id kj.ki.hal.1
   refine ⟨_, rfl, p, dx, _, rfl, h1, rfl, p, st, M, ns, [A1], [A2], [r1, r2], rfl, kj.ki.hal.1, by show 1 < 64; decide, fun qn out hqn pm _ => ?_⟩
   obtain rfl := List.perm_singleton.mp pm
   have kj1 := kj.same (Same.new (o := .lst ([A1].map V.str)) hqn)
   refine ⟨_, rfl, q, _, _, V.str A1, rfl, rfl, SqT.of kj1.pr, rfl, (by show 1 ≤ sizeLine; decide), fun l hl => ?_⟩
   have s2 := Same.new (o := .lst [V.str A1]) hl
   refine DV.nev (.lst (SqL.of (s2 _ _ upd_same)) (DVs.strs [A1])) (.lst (SqL.of upd_same) (DVs.strs [A1])) (shaped_strs fun y hy => by rw [List.mem_singleton.mp hy]; exact aA1) ⟨_, rfl, iteF ?_⟩
   have kj2 := kj1.same s2
   clear kj1
   obtain ⟨dx, be, sc', un, dxs, te, th, po, wo, L1, L2, h1, h2, h3, h4, h5, h6, h7, h8⟩ := id kj2.ki.hal.1
   refine ⟨_, rfl, p, dx, _, rfl, h1, rfl, p, st, M, ns, [A1], [A2], [r1, r2], rfl, kj2.ki.hal.1, by show 1 < 64; decide, fun qn out hqn pm _ => ?_⟩
   obtain rfl := List.perm_singleton.mp pm
   have kj3 := kj2.same (Same.new (o := .lst ([A2].map V.str)) hqn)
   refine ⟨_, rfl, q, _, _, V.str A2, rfl, rfl, SqT.of kj3.pr, rfl, (by show 1 ≤ sizeLine; decide), fun l hl => ?_⟩
   have s4 := Same.new (o := .lst [V.str A2]) hl
   exact DV.nev (.lst (SqL.of (s4 _ _ upd_same)) (DVs.strs [A2])) (.lst (SqL.of upd_same) (DVs.strs [A2])) (shaped_strs fun y hy => by rw [List.mem_singleton.mp hy]; exact aA2) ⟨_, rfl, iteF (hnx _ _ ⟨rfl, kj3.same s4⟩)⟩
  rintro σ H19 ⟨rfl, kj⟩
  refine seq_post (fun σ H' => σ = S55 a m r p wd cn q dl fr x d ∧ KJ K t.C_Tent t.C_Scene t.C_Hall a wd cn p st q dl fr sc ws M ns A1 A2 r1 r2 Rw H') (fun nx hnx => ?_) ?_
  ·refine ⟨_, rfl, rfl, _, rfl, ?_⟩
   by_cases c : d = ""
   ·exact ne_same c (hnx _ _ ⟨rfl, kj⟩)
   ·rw [decide_eq_false (fun z => c (by injection z))]
    have e1 : dueL M x [A1] [A2] (wI ws) = d := by rw [dueL_good hpb (by omega), hd]
    refine iteT ⟨_, rfl, _, rfl, _, rfl, .inl ⟨p, st, wd, M, ns, [A1], [A2], [r1, r2], x, wI ws, rfl, kj.ki.hal, ax, by omega, kj.ki.wrd, by omega, plain_rng hM, fun _ H' s' => ⟨_, rfl, rfl, _, rfl, ne_same e1 (hnx _ _ ⟨rfl, kj.same s'⟩)⟩, fun e => absurd (e1.symm.trans e) c⟩⟩
  rintro σ H20 ⟨rfl, kj⟩
  refine seq_post (fun σ H' => σ = S55 a m r p wd cn q dl fr x d ∧ KJ K t.C_Tent t.C_Scene t.C_Hall a wd cn p st q dl fr sc ws M ns A1 A2 r1 r2 Rw H') (fun nx hnx => ?_) ?_
  ·refine ⟨_, rfl, rfl, _, rfl, ?_⟩
   by_cases c : d = ""
   ·exact ne_same c (hnx _ _ ⟨rfl, kj⟩)
   ·rw [decide_eq_false (fun z => c (by injection z))]
    obtain ⟨g, gc⟩ := kj.ki.cnt
    refine iteT ⟨_, rfl, _, rfl, _, rfl, .inr (.inl ⟨p, st, cn, M, ns, [A1], [A2], [r1, r2], x, rfl, kj.ki.hal, ax, by omega, .inr ⟨g, gc, fun _ H' s' => ⟨_, rfl, rfl, _, rfl, ne_same hd (hnx _ _ ⟨rfl, kj.same s'⟩)⟩, fun e => absurd (hd.symm.trans e) c⟩⟩)⟩
  rintro σ H21 ⟨rfl, kj⟩
  have nst : dl ≠ p ∧ dl ≠ st := by
   obtain ⟨⟨dx, be, sc', un, dxs, te, th, po, wo, L1, L2, h1, _, _, _, _, ⟨qs, d1, d2, _⟩, _⟩, _⟩ := kj.ki.hal
   have e := kj.de
   refine ⟨(fun z => by rw [z, h1] at e; cases e), (fun z => ?_)⟩
   rw [z, d1] at e
   injection e with e
   injection e with e
   cases qs with
   | nil => cases e
   | cons _ _ => injection e with e _; cases e
  refine seq_post (fun σ H' => ∃ l1 l2 ds : List Str, σ = S55 a m r p wd cn q dl fr x d ∧ KI K t.C_Tent t.C_Scene t.C_Hall a wd cn p st sc ws M ns H' l1 l2 ds ∧ H' dl = some (.lst ([r1, r2].map V.str)) ∧ x ∉ l1 ∧ x ∉ l2 ∧ ds.length ≤ 3 ∧ l1.length ≤ 1 ∧ l2.length ≤ 1 ∧ (isN x = false → ds = [r1, r2])) (fun nx hnx => ?_) ?_
  ·refine ⟨_, rfl, _, rfl, .inr (.inr ⟨p, st, .str "", M, ns, [A1], [A2], [r1, r2], x, rfl, kj.ki.hal, ax, by omega, fun c1 c2 H' s' => ?_, fun hin H' r3 ar o hs => ?_⟩)⟩
   ·have kj' := kj.same s'
    refine ⟨_, rfl, _, rfl, q, _, rfl, .inr (SqT.of kj'.pr), rfl, rfl, _, rfl, ?_⟩
    show if inV (.str x) [.str A1, .str A2] = true then _ else _
    rw [inV2, decide_eq_false (fun z => z.elim (fun e => c1 (List.mem_singleton.mpr e)) (fun e => c2 (List.mem_singleton.mpr e)))]
    exact iteF ⟨rfl, _, rfl, ne_same rfl (hnx _ _ ⟨[A1], [A2], [r1, r2], rfl, kj'.ki, kj'.de, c1, c2, by show 2 ≤ 3; decide, by show 1 ≤ 1; decide, by show 1 ≤ 1; decide, fun _ => rfl⟩)⟩
   ·obtain ⟨n1, n2⟩ := ne2 kj.ki kj.pr
    have hq' := o _ _ n1 n2 kj.pr
    have hl1 := List.length_filter_le (fun y => decide (y ≠ x)) [A1]
    have hl2 := List.length_filter_le (fun y => decide (y ≠ x)) [A2]
    rw [List.length_singleton] at hl1 hl2
    have ki' := kj.ki.oth o hs ar (by show 2 ≤ 700; decide) (by omega) (by omega) (List.Pairwise.filter _ kj.ki.hal.2.2.2.2.2.2.1) (List.Pairwise.filter _ kj.ki.hal.2.2.2.2.2.2.2)
    have hin' : x = A1 ∨ x = A2 := hin.imp List.mem_singleton.mp List.mem_singleton.mp
    refine ⟨_, rfl, _, rfl, q, _, rfl, .inr (SqT.of hq'), rfl, rfl, _, rfl, ?_⟩
    show if inV (.str x) [.str A1, .str A2] = true then _ else _
    rw [inV2, decide_eq_true hin']
    refine iteT ⟨rfl, _, rfl, ne_same rfl (hnx _ _ ⟨_, _, _, rfl, ki', o _ _ nst.1 nst.2 kj.de, fun z => ?_, fun z => ?_, by show 3 ≤ 3; decide, hl1, hl2, fun e => ?_⟩)⟩
    ·have := (List.mem_filter.mp z).2
     exact (of_decide_eq_true this) rfl
    ·have := (List.mem_filter.mp z).2
     exact (of_decide_eq_true this) rfl
    ·rcases hin' with h | h
     ·rw [h, iA1] at e; cases e
     ·rw [h, iA2] at e; cases e
  rintro σ H22 ⟨l1, l2, ds, rfl, ki, hdl', c1, c2, hd3, hl1, hl2, hbad⟩
  refine seq_post (fun σ H' => σ = S55 a m r p wd cn q dl fr x d ∧ H22 = H' ∧ isN x = true) (fun nx hnx => ?_) ?_
  ·refine ⟨_, rfl, rfl, _, rfl, ?_⟩
   cases ex : isN x with
   | false =>
    rw [dueN_bad ex] at hd
    subst hd
    rw [decide_eq_true rfl]
    obtain rfl := hbad ex
    obtain ⟨dx, be, sc', un, dxs, te, th, po, wo, L1, L2, h1, h2, h3, h4, h5, h6, h7, h8⟩ := ki.hal.1
    exact iteT ⟨_, rfl, p, dx, _, rfl, h1, rfl, p, dx, be, sc', st, un, [r1, r2], rfl, h1, h6, by show 2 ≤ 900; decide, fun dl2 H'' s'' _ h' => ⟨_, rfl, DV.eqv (.lst (SqL.of h') (DVs.strs _)) (.lst (SqL.of (s'' _ _ hdl')) (DVs.strs _)) (shaped_strs sh) (k _)⟩⟩
   | true =>
    have : d ≠ "bad name" := by
     rw [← hd]
     by_cases c : x ∈ [A1] ∨ x ∈ [A2]
     ·rw [dueN_taken ex c]; decide
     ·rw [dueN_good ex (fun z => c (.inl z)) (fun z => c (.inr z))]; decide
    rw [decide_eq_false (fun z => this (by injection z))]
    exact iteF (hnx _ _ ⟨rfl, rfl, ex⟩)
  rintro σ H23 ⟨rfl, rfl, ex⟩
  obtain ⟨g, gc⟩ := ki.cnt
  refine ⟨_, rfl, _, rfl, _, rfl, .inr (.inl ⟨p, st, cn, M, ns, l1, l2, ds, x, rfl, ki.hal, ax, by omega, .inr ⟨g, gc, fun e => absurd (dueN_good ex c1 c2) e, fun _ H' r4 ar o hs => ⟨rfl, _, rfl, ?_⟩⟩⟩)⟩
  rw [decide_eq_true rfl]
  have ki' := ki.oth o hs ar (by omega) (by omega) (by rw [List.length_append, List.length_singleton]; omega) ki.hal.2.2.2.2.2.2.1 (List.nodup_append.mpr ⟨ki.hal.2.2.2.2.2.2.2, List.nodup_cons.mpr ⟨by simp, List.nodup_nil⟩, fun y hy z hz => by rw [List.mem_singleton.mp hz]; exact fun e => c2 (e ▸ hy)⟩)
  have e1 : dueL M x l1 (l2 ++ [x]) (wI ws) = "taken" := by rw [dueL_good hpb (by omega)]; exact dueN_taken ex (.inr (List.mem_append_right _ (List.mem_singleton.mpr rfl)))
  refine iteT ⟨_, rfl, _, rfl, _, rfl, .inl ⟨p, st, wd, M, ns, l1, l2 ++ [x], ds ++ [r4], x, wI ws, rfl, ki'.hal, ax, by omega, ki'.wrd, by omega, plain_rng hM, fun _ H'' s' => ⟨rfl, ?_⟩, fun e => absurd (e1.symm.trans e) (by decide)⟩⟩
  rw [e1, decide_eq_true rfl]
  exact k _
end
end KT
set_option maxHeartbeats 4000000
open PySem PySem.W PyProof.Rows
namespace PySem.W.Fast
def tw11586968136608210181 := 0
def tw14936751285730582940 := 0
def tw15386632156649392537 := 0
def tw999296756215049258 := 0
def tw12430577983154146434 := 0
def tw11003925043069549853 := 0
def tw7897793635057166875 := 0
def tw9814245976613645383 := 0
def tw4994614191576161231 := 0
def tw18379079624008038823 := 0
def tw14185285676091363121 := 0
def tw10156613687715182859 := 0
def tw5868755333242512886 := 0
def tw3572789486058921649 := 0
def tw12068059757604521156 := 0
def tw11293386247505934060 := 0
def tw17078551092963930819 := 0
def tw7646718503009472792 := 0
def tw6769904779034773491 := 0
def tw8359367223026957876 := 0
def tw13515812298772614832 := 0
def tw16435507924035706521 := 0
def tw7967279233780572069 := 0
def tw5694993480504296573 := 0
def tw17047958612076604757 := 0
def tw11010644556299756888 := 0
def tw17973592055480546807 := 0
def tw15581619838949457184 := 0
def tw1445361467497163473 := 0
def tw10986731475189886513 := 0
def tw3495576374285621636 := 0
def tw8677035567504242759 := 0
def tw3449760475557936002 := 0
def tw14284550609034243486 := 0
def tw7448065273625971833 := 0
def tw6347497008169528826 := 0
def tw5842634561801720311 := 0
def tw12890847947236563310 := 0
def tw844900144691699261 := 0
def tw621729276561519260 := 0
def tw15914888597357834248 := 0
def tw13951008858586082675 := 0
def tw1302192925427220995 := 0
def tw44401835352602648 := 0
def tw6247172960425624669 := 0
def tw5009760926947957953 := 0
def tw10589504059829937309 := 0
def tw18293721746247244987 := 0
def tw16562729508852506027 := 0
def tw4204217905004645580 := 0
def tw4356227662347573037 := 0
def tw17032443315771409802 := 0
def tw15708677719509995641 := 0
def tw16855259961096139651 := 0
def tw3023161770472707239 := 0
def tw15354794761777705117 := 0
def tw11312532326886824029 := 0
def tw14842371975218647480 := 0
def tw1715766881414077084 := 0
def tw12063337978612621505 := 0
def tw7571072083276955799 := 0
def tw6266424983107095246 := 0
def tw14777697081538511432 := 0
def tw13456581936295490663 := 0
def tw8641616569608821515 := 0
def tw11057863289753472154 := 0
def tw11799355489187448906 := 0
def tw10112346835874467025 := 0
def tw6714749669805056261 := 0
def tw1090340648034552578 := 0
def tw15022542703309828021 := 0
def tw12462852066714578185 := 0
def tw9910261041801669866 := 0
def tw11874586948676304780 := 0
def tw11718088072023833579 := 0
def tw12261345641670737991 := 0
def tw13067877500653045246 := 0
def tw15370231868858247794 := 0
def tw1481826722442193854 := 0
def tw6514904592537460916 := 0
def tw5158026411199620961 := 0
def tw13711857772414802277 := 0
def tw10818871551650810246 := 0
def tw7645333634619821918 := 0
def tw11030572334706250654 := 0
def tw13782284456423970624 := 0
def tw12517809814006489587 := 0
def tw429753792249814665 := 0
def tw8900352813486585329 := 0
def tw14886778406759077619 := 0
def tw4339089696110088220 := 0
def tw14789014801158947795 := 0
def tw3568704040579207963 := 0
def tw12083102910329797100 := 0
def tw10478773619669152860 := 0
def tw5872458269431429316 := 0
def tw16063994170684427062 := 0
def tw8660691987998455682 := 0
def tw12851151107919635398 := 0
def tw13679409053109247265 := 0
def tw12928672787382408451 := 0
def tw5254893830065657051 := 0
def tw10462090500659918378 := 0
def tw5628587426422365761 := 0
def tw11622264600358673922 := 0
def tw5106583533717964819 := 0
def tw7280294644001317934 := 0
def tw3799385389372558761 := 0
def tw5738402506068190026 := 0
def tw11026894018654789332 := 0
def tw9135323619633859817 := 0
def tw4435052440202889242 := 0
def tw11176844265145692954 := 0
def tw11277632267783839010 := 0
def tw9849806591663342791 := 0
def tw8055304579985251459 := 0
def tw17018454876826652476 := 0
def tw13685250281579280218 := 0
def tw6825512588798964986 := 0
def tw8903756688431269309 := 0
def tw5959093127526806532 := 0
def tw18085391398261535380 := 0
def tw6105382028617820669 := 0
def tw3932974949548632156 := 0
def tw13635049342867021723 := 0
def tw11390582089139330203 := 0
def tw16101256134270799711 := 0
def tw9576799655739364045 := 0
def tw16532870181069818749 := 0
def tw1072270853177140034 := 0
def tw3976327363276626386 := 0
def tw8640153532185990768 := 0
def tw11097011638527529296 := 0
def tw355936666041326531 := 0
def tw9357834250561499099 := 0
def tw11502014335548661526 := 0
def tw10532551232006151302 := 0
def tw3647509885430005908 := 0
def tw12772157912795509106 := 0
def tw5574078156694290277 := 0
def tw1347660946680830720 := 0
def tw4313851218021289333 := 0
def tw7954553681045553095 := 0
def tw3238274571977773714 := 0
def tw17534938679061197718 := 0
def tw10022767057369263008 := 0
def tw359523239468148876 := 0
def tw8090505198954698241 := 0
def tw12535380113192147535 := 0
def tw16302227548101091375 := 0
def tw10130782644182391954 := 0
def tw14230439480033033266 := 0
def tw13889430564984681476 := 0
def tw17033370011663376530 := 0
def tw9689836269765701307 := 0
def tw4509539154275579025 := 0
def tw10472098774735350355 := 0
def tw5635663820083748279 := 0
def tw144945440721496865 := 0
def tw13222804723711939303 := 0
def tw8216922213886564420 := 0
def tw14913173467303483159 := 0
def tw15865171188499640089 := 0
def tw5779825187132033186 := 0
def tw12354081220022951045 := 0
def tw8611543585884954636 := 0
def tw2109206561858023062 := 0
def tw9425502603956954630 := 0
def tw5812836004646665048 := 0
def tw8424521602840047453 := 0
def tw7214756521475409219 := 0
def tw5569163316453973492 := 0
def tw14195777641466766203 := 0
def tw14904945228430148709 := 0
def tw874191199815420501 := 0
def tw4785255214442442842 := 0
def tw13314479312717658635 := 0
def tw14976089034343145227 := 0
def tw16857192567392035522 := 0
def tw135476717180180203 := 0
def tw6034829363586138684 := 0
def tw5462029003496064636 := 0
def tw16032207785909656982 := 0
def tw17352040152545515603 := 0
def tw2616471354183154533 := 0
def tw4166190773380730941 := 0
def tw12507783449811808058 := 0
def tw11311914362327040629 := 0
def tw13935612824695407285 := 0
def tw14632888072406240472 := 0
def tw4863100802627897159 := 0
def tw18074618598313103991 := 0
def tw10184745249554424650 := 0
def tw6756332160966456877 := 0
def tw63593948050542659 := 0
def tw12538813383431051561 := 0
def tw14217412875844776443 := 0
def tw10757214907113763677 := 0
def tw17004421459386912820 := 0
def tw4406041499986451797 := 0
def tw11347694830067578679 := 0
def tw8874650505866884887 := 0
def tw2058320507746177207 := 0
def tw5411413483494332337 := 0
def tw17291727332879098952 := 0
def tw4412892594396983134 := 0
def tw1141453420021891379 := 0
def tw10844122808297066995 := 0
def tw17485116538543846624 := 0
def tw6935340999113888924 := 0
def tw3644423197817504647 := 0
def tw14022112175394742018 := 0
def tw3765119337643068319 := 0
def tw7947042818206433321 := 0
def tw17266120414487485566 := 0
def tw894832014779859136 := 0
def tw2352408392181028978 := 0
def tw5552807637809857942 := 0
def tw14979518331891180426 := 0
def tw7341065339081310058 := 0
def tw17400638757681832204 := 0
def tw13951196080547031207 := 0
def tw17063766639496251204 := 0
def tw3765961421669926825 := 0
def tw15476847676788623689 := 0
def tw7064499223962926027 := 0
def tw1776272813754412423 := 0
def tw3556777288149096990 := 0
def tw13061868145865383216 := 0
def tw11466317426058494776 := 0
def tw8509976906105969843 := 0
def tw9416793253992521186 := 0
def tw17219737246519136162 := 0
def tw9883756611142784345 := 0
def tw11890568681495207284 := 0
def tw620530449624045061 := 0
def tw17516267978769055490 := 0
def tw12041141718589989084 := 0
def tw6175854783189699774 := 0
def tw3199593688162358487 := 0
def tw4584725933706678134 := 0
def tw11515552299750949127 := 0
def tw13999883566002835860 := 0
def tw16323947439557827418 := 0
def tw3610230413399198179 := 0
def tw11804201934849567125 := 0
def tw8417772045696027624 := 0
def tw8536894733382118308 := 0
def tw628536253186953446 := 0
def tw2648109034385793183 := 0
def tw8882746294646025004 := 0
def tw4977582497195925578 := 0
def tw7570863383998564183 := 0
def tw3766033233389193111 := 0
def tw596992600592529987 := 0
def tw7609652086248360952 := 0
def tw8294593085239217589 := 0
def tw18389518349707915439 := 0
def tw12968246626469568231 := 0
def tw8714123585438530255 := 0
def tw15504925229501432862 := 0
def tw8980388898822966018 := 0
def tw6207923247363744674 := 0
def tw392155430346697425 := 0
def tw3793065760478869240 := 0
def tw9671103366835029389 := 0
def tw2789073629454464983 := 0
def tw1831399623644761966 := 0
def tw3452698203706714106 := 0
def tw642619865216617946 := 0
def tw3385642517436910163 := 0
def tw12773989135211670766 := 0
def tw13748236808507762661 := 0
def tw14449211044658413317 := 0
def tw12979832736618332870 := 0
def tw12183157729621612010 := 0
def tw15856998431689801122 := 0
def tw16824712710126103103 := 0
def tw1666226162602679213 := 0
def tw10180260032418924550 := 0
def tw11948974332685632614 := 0
def tw1444748343595461328 := 0
def tw18038966866005750427 := 0
def tw12181638143690474308 := 0
def tw16735290917768442372 := 0
def tw426668366010945319 := 0
def tw15779280129786120157 := 0
def tw924367362518318368 := 0
def tw8012945678659471005 := 0
def tw17450949020136057601 := 0
def tw15319862008992628139 := 0
def tw4104190685879639637 := 0
def tw10847786430556606094 := 0
def tw2048296112445850421 := 0
def tw6271673966146791075 := 0
def tw5204761881577530882 := 0
def tw16952550241980197510 := 0
def tw16095653053565465825 := 0
def tw17409762628302360945 := 0
def tw4934438352486572642 := 0
def tw4464281601115405954 := 0
def tw1953868709947526010 := 0
def tw8395016663633047562 := 0
def tw7239548233905455113 := 0
def tw9954833176737419898 := 0
def tw14709009006583078997 := 0
def tw16206551890824381855 := 0
def tw5877047638879933159 := 0
def tw16153850786501231703 := 0
def tw16667337332841919579 := 0
def tw2009904926646256825 := 0
def tw12643506853073852695 := 0
def tw8895933306784269614 := 0
def tw13442270580711386271 := 0
def tw2362445911922784472 := 0
def tw15709981441717792512 := 0
def tw6689287497025667688 := 0
def tw5106327265289802046 := 0
def tw17098744113347681791 := 0
def tw9630656365210628075 := 0
def tw13827236973660782435 := 0
def tw16006205804765804400 := 0
def tw9475906527521753539 := 0
def tw15317031707709057396 := 0
def tw1849277656835779754 := 0
def tw12441518435658046535 := 0
def tw525206551984613357 := 0
def tw14643276532652147288 := 0
def tw785854044388001906 := 0
def tw2328025364851867508 := 0
def tw2417150247839281884 := 0
def tw10737183146398824337 := 0
def tw11444222704260847423 := 0
def tw11083331245264633434 := 0
def tw2408246184003758199 := 0
def tw14559073813400886435 := 0
def tw10192462457636050287 := 0
def tw4808351640971772833 := 0
def tw18291994627001845382 := 0
def tw14539277208756935344 := 0
def tw3393738338832086196 := 0
def tw9511042037535658070 := 0
def tw4557551055188364554 := 0
def tw11189566312890178094 := 0
def tw15874908091686977571 := 0
def tw9095116411819899659 := 0
def tw14386982323069603466 := 0
def tw18100558499817070931 := 0
def tw17434333982064685961 := 0
def tw722830243230453211 := 0
def tw4819587003318924344 := 0
def tw5672399827367681337 := 0
def tw14450217570471938256 := 0
def tw13095139594611609272 := 0
def tw8727463350087308491 := 0
def tw12014792833710907320 := 0
def tw17227539190498850498 := 0
def tw2862557833634316830 := 0
def tw12836654147787822893 := 0
def tw1717004687089079763 := 0
def tw4616208137572070806 := 0
def tw10227075191702043912 := 0
def tw3630493772168347452 := 0
def tw7499247486703707900 := 0
def tw10835568082928164477 := 0
def tw7984137503785189609 := 0
def tw759482529605875017 := 0
def tw1583920394570467429 := 0
def tw8273403813196685479 := 0
def tw9665842584006259749 := 0
def tw2198172949062098046 := 0
def tw17510481996753307644 := 0
def tw14843749393810429433 := 0
def tw7037693648587141993 := 0
def tw1482704413373850791 := 0
def tw12060648361253513517 := 0
def tw6669629923231174667 := 0
def tw14546454056724983645 := 0
def tw10363291018795019707 := 0
def tw13777911140523501823 := 0
def tw6109987428422044572 := 0
def tw2562099964903881960 := 0
def tw4583376220500083244 := 0
def tw12535497114733984278 := 0
def tw18026387521135048275 := 0
def tw16658870209666315476 := 0
def tw16917963616697898634 := 0
def tw4354590956918492048 := 0
def tw16945529903079064375 := 0
def tw4577065370292379164 := 0
def tw14303299898404299500 := 0
def tw7737968174084895296 := 0
def tw12992422558547722790 := 0
def tw14207519685226664919 := 0
def tw8658956232270290088 := 0
def tw12083080576449761597 := 0
def tw16786070263611433212 := 0
def tw11383151497582559454 := 0
def tw16266882161061973997 := 0
def tw18234214515045060854 := 0
def tw3456477166503858304 := 0
def tw4264516001327486301 := 0
def tw5971089042637208316 := 0
def tw6962218238955519876 := 0
def tw7644241420551284566 := 0
def tw10622646767962273162 := 0
def tw4876021403312774198 := 0
def tw17342648574084702059 := 0
def tw17878769782867748147 := 0
def tw15850106590550489520 := 0
def tw15331959955084350163 := 0
def tw8963537486313367375 := 0
def tw15964879862841143880 := 0
def tw4872734388575239631 := 0
def tw12723621970026627159 := 0
def tw12641533337546384030 := 0
def tw9545339287018800221 := 0
def tw7763069186615466054 := 0
def tw16755938699491307242 := 0
def tw18015058208996141787 := 0
def tw4478625203705030343 := 0
def tw7705817992091957922 := 0
def tw18019566387590682721 := 0
def tw10124445231323494005 := 0
def tw4392628278797282072 := 0
def tw5816568713799661368 := 0
def tw13626419299349054415 := 0
def tw7546149578222932235 := 0
def tw138256508046711936 := 0
def tw11119267667689793959 := 0
def tw4426865826836249829 := 0
def tw6732040060865729612 := 0
def tw2245150934738909285 := 0
def tw16400216854912196012 := 0
def tw12496131786813534738 := 0
def tw17338318004363687554 := 0
def tw5297203108815319851 := 0
def tw8027052324064566685 := 0
def tw1250038493634496205 := 0
def tw4755137649186661064 := 0
def tw8863057114221254688 := 0
def tw4244092591425710978 := 0
def tw7625406393064933295 := 0
def tw15718631726723562112 := 0
def tw607376559626563810 := 0
def tw9426925758433200288 := 0
def tw15041149901313036847 := 0
def tw4301679056876365829 := 0
def tw18044387634722523706 := 0
def tw3820838883302000204 := 0
def tw5765238365659151922 := 0
def tw4743861446831750864 := 0
def tw446196136250666759 := 0
def tw11333888215785299236 := 0
def tw6769760460388275476 := 0
def tw5724058782569920573 := 0
def tw1546801011444918528 := 0
def tw4912360156059609182 := 0
def tw8640332988249923266 := 0
def tw13352769545652517284 := 0
def tw10699528945455189470 := 0
def tw14843867345800912788 := 0
def tw6482607189261938861 := 0
def tw16027688211561870522 := 0
def tw10199799401849648342 := 0
def tw6363517404992773396 := 0
def tw11857299132345428988 := 0
def tw7954506224530594962 := 0
def tw8773387797243588450 := 0
def tw14143710059771026470 := 0
def tw4455629443206354983 := 0
def tw15324875592518339709 := 0
def tw15106343428722618134 := 0
def tw6105634520497543247 := 0
def tw12611951022422883188 := 0
def tw8379564018197594624 := 0
def tw10102657104361224265 := 0
def tw2949345463608789923 := 0
def tw13023804420781045653 := 0
def tw18039784912929613976 := 0
def tw2251421490438210368 := 0
def tw684344014390758504 := 0
def tw6304201294540106387 := 0
def tw13889657991905877512 := 0
def tw8107852435909492798 := 0
def tw8020577751377778619 := 0
def tw6491947822962549862 := 0
def tw2951374025265674987 := 0
def tw7978353292868277161 := 0
def tw12214684427421490256 := 0
def tw17307636213369254625 := 0
def tw10293883525764478506 := 0
def tw17470000841929229043 := 0
def tw6346202066221421400 := 0
def tw5594695508721390068 := 0
def tw11102023212986173088 := 0
def tw12043817412174987627 := 0
def tw9591536851580076588 := 0
def tw5532600993174910081 := 0
def tw11830539630092805084 := 0
def tw17675363027960402326 := 0
def tw18073716073089538449 := 0
def tw5063716176536884567 := 0
def tw5466078048930576040 := 0
def tw3186846629116856631 := 0
def tw13089949486771983439 := 0
def tw17792927870133540237 := 0
def tw10405037333182431770 := 0
def tw10088278169256602841 := 0
def tw14222321293298329621 := 0
def tw18431396253287408793 := 0
def tw14164347820238388475 := 0
def tw9915959770250592513 := 0
def tw10615793242168047355 := 0
def tw3279035462106460227 := 0
def tw17642711510922831102 := 0
def tw7697779059038807136 := 0
def tw3895011794002594891 := 0
def tw13854869703101081207 := 0
def tw16223441976732811733 := 0
def tw12573347300444045487 := 0
def tw3431295624579630254 := 0
def tw13898141112983097250 := 0
def tw9228696566551549492 := 0
def tw14278983515992731103 := 0
def tw7528240564395634094 := 0
def tw4790576244215125131 := 0
def tw835508581018375836 := 0
def tw13483812825657809922 := 0
def tw11038284694022811904 := 0
def tw12626632040598510683 := 0
def tw16575110831146687134 := 0
def tw13922373562382989585 := 0
def tw12333199562013917830 := 0
def tw17919342943137341695 := 0
def tw7637181558760276572 := 0
def tw733398713508719998 := 0
def tw17445515688157511493 := 0
def tw14187146733102715704 := 0
def tw3113897325096907257 := 0
def tw800916375131932569 := 0
def tw1338406676144858340 := 0
def tw11723100664786475302 := 0
def tw17533221067040935254 := 0
def tw12148544193108088435 := 0
def tw2587637717324059869 := 0
def tw9981870519352969768 := 0
def tw16939370892822053144 := 0
def tw4157832234130671023 := 0
def tw6232409268452932563 := 0
def tw15196393073889755777 := 0
def tw10286324633045160763 := 0
def tw164435834390381458 := 0
def tw10371639665721671364 := 0
def tw7018788949844869842 := 0
def tw7164781137431037079 := 0
def tw15558087174234242305 := 0
def tw11155578137217420410 := 0
def tw3706290173112287445 := 0
def tw13225960298476188243 := 0
def tw11240972396853187533 := 0
def tw916860176085457207 := 0
def tw3292887944401056228 := 0
def tw9329341602927515849 := 0
def tw6829652973523478580 := 0
def tw14548760925969211396 := 0
def tw18155973547988761893 := 0
def tw11246693478469617673 := 0
def tw15539432134693819711 := 0
def tw12181192507278568853 := 0
def tw11477935154046522909 := 0
def tw4676918698640948802 := 0
def tw8799377643805720000 := 0
def tw101077893440900867 := 0
def tw11931567784947233053 := 0
def tw15817159980744270428 := 0
def tw6761113166629115740 := 0
def tw6207791083576984370 := 0
def tw4905125628172893309 := 0
def tw56703125789771471 := 0
def tw3316451285528984629 := 0
def tw4918156725819162373 := 0
def tw11689336899972478103 := 0
def tw9278545008551304880 := 0
def tw6048222531430728623 := 0
def tw10701290516438831330 := 0
def tw8168721203342198882 := 0
def tw493088125050413174 := 0
def tw1028694321335203822 := 0
def tw12280058055151189835 := 0
def tw9864542171206803972 := 0
def tw11624626527629984086 := 0
def tw3458328683887928399 := 0
def tw13740970094479825128 := 0
def tw17716704637108324751 := 0
def tw3888707685396212094 := 0
def tw3435651695196413898 := 0
def tw9783905697739952760 := 0
def tw2039165579338509174 := 0
def tw13214980954067797964 := 0
def tw14760239365752440428 := 0
def tw14966327258920207253 := 0
def tw1505005001683769588 := 0
def tw16021519028209431391 := 0
def tw4858598237786654303 := 0
def tw14623401414359460014 := 0
def tw10066477835330943887 := 0
def tw1581773081895284373 := 0
def tw2283765975470934417 := 0
def tw2162397352852794101 := 0
def tw15405062842334256298 := 0
def tw17060949644380387106 := 0
def tw3339537356625076305 := 0
def tw7836033383114032370 := 0
def tw5544052094833428293 := 0
def tw1550682209887804716 := 0
def tw5166854093109841791 := 0
def tw2527236716024371349 := 0
def tw16645399260749878821 := 0
def tw213719148801794993 := 0
def tw13094845310762882199 := 0
def tw14917015917578147849 := 0
def tw5489476824226264735 := 0
def tw3436686362043858601 := 0
def tw15086131949335774410 := 0
def tw18008552833408683436 := 0
def tw8348909349852681184 := 0
def tw4035730197453560808 := 0
def tw16692359160918564947 := 0
def tw4866779409340997489 := 0
def tw7556327169290265079 := 0
def tw16654243316122837345 := 0
def tw17684030243213749254 := 0
def tw15403699088428073090 := 0
def tw10174311430647675500 := 0
def tw1387444175526250334 := 0
def tw740710635692579625 := 0
def tw17639567905226956814 := 0
def tw7649522794028479630 := 0
def tw16289543429909670183 := 0
def tw8793072905764041139 := 0
def tw4412212137981260859 := 0
def tw11581254416108163718 := 0
def tw12107076785919847584 := 0
def tw13036995332109092727 := 0
def tw4873371319825963499 := 0
def tw8177804967747547639 := 0
def tw3220709970682960668 := 0
def tw762130402484106104 := 0
def tw2414630609416428708 := 0
def tw11929450511252442642 := 0
def tw5632645118888340903 := 0
def tw8416370266504485349 := 0
def tw1233019106674921330 := 0
def tw16753680433524483884 := 0
def tw3508849991432904756 := 0
def tw6793316691334645143 := 0
def tw11993644495922787767 := 0
def tw13966723741623874992 := 0
def tw9056245751660228647 := 0
def tw12515257814719286681 := 0
def tw16971179084506543031 := 0
def tw16205036742749469193 := 0
def tw15989010240547748635 := 0
def tw4180938201887932427 := 0
def tw1178612869847778353 := 0
def tw4977273705638462156 := 0
def tw522267460734265398 := 0
def tw18080805273749680043 := 0
def tw13624657785377827566 := 0
def tw9902931562593130571 := 0
def tw4721389604292751362 := 0
def tw10142787676770999268 := 0
def tw902252241878563809 := 0
def tw17784922343427910427 := 0
def tw1662591851090831028 := 0
def tw11730006337563056775 := 0
def tw4385063157998988918 := 0
def tw4051141222262176401 := 0
def tw13317649782893383653 := 0
def tw2487403317582110815 := 0
def tw17441978479635263051 := 0
def tw3672401486923414283 := 0
def tw4569764307004252150 := 0
def tw3914538866240820581 := 0
def tw17675737281620389762 := 0
def tw16212035469497830403 := 0
def tw20169549975862873 := 0
def tw10708456989424785860 := 0
def tw3404279401585177142 := 0
def tw11813065027486582734 := 0
def tw1482949888814261533 := 0
def tw15151658516954786289 := 0
def tw9716964923555419427 := 0
def tw10252032249080184588 := 0
def tw8103112552804890924 := 0
def tw16181807758633109058 := 0
def tw297564751380757340 := 0
def tw9527722838216412938 := 0
def tw10757286701692712832 := 0
def tw12079162631709250912 := 0
def tw357570273329765839 := 0
def tw8613300034481109993 := 0
def tw16266765230290458689 := 0
def tw11170090372602919728 := 0
def tw15083503594868905340 := 0
def tw14699815601341371708 := 0
def tw13279853227839550304 := 0
def tw15919669410679812769 := 0
def tw7765705990401744154 := 0
def tw17881090314865018965 := 0
def tw5736053914533408778 := 0
def tw10998435286141037676 := 0
def tw1696181334805578802 := 0
def tw9497542710153207977 := 0
def tw10233574880044603988 := 0
def tw7548017178798625686 := 0
def tw17020794012565473704 := 0
end PySem.W.Fast
set_option maxRecDepth 100000 in
set_option maxHeartbeats 0 in
theorem PySem.Challenge.cw_tentloops_k55_hall_names_holds : PySem.Challenge.rw_tentloops_k55_hall_names.Holds := by
 w_on; o_law; k_head; (case hw => w_witness2)
 k_fill
 refine L2.walk_r (l := PySem.Challenge.rw_tentloops_k55_hall_names) (k := 10) (spl := KT.sp_law) rfl rfl ⟨rfl, by decide, by decide⟩ (fun w h Y => PySem.W.kIn_of Y) (fun K H a ns hl hS => KT.sp_law_start hl hS) ?F
 case F =>
  intro w mg fa h KX G hmg
  have T : ∃ t, KT.Txt w (L2.KOf KX) mg t := by
   dsimp only [L2.KOf]
   refine' ⟨⟨_, _, _, _, _, _, _, _, _, _, _, _, _, _, _, _, _, _, _, _, _, _, _, _, _, _, _, _, _, _, _, _, _, _, _, _, _, _, _, _, _, _, _, _, _, _, _, _, _, _, _, _, _, _, _, _, _, _, _, _, _, _, _, _, _, _, _, _, _, _, _, _, _, _, _, _, _, _, _, _, _, _, _, _, _, _, _, _, _, _, _, _, _, _, _, _, _, _, _, _, _, _, _, _, _, _, _, _, _, _, _, _, _, _, _, _, _, _, _, _, _, _, _, _, _, _, _, _, _, _, _, _, _⟩, ⟨mg_of KX G ?_, ⟨?_, ?_, ?_, ?_⟩, ?_, ?_, ?_, ?_, mg_of KX G ?_, ⟨?_, ?_, ?_, ?_⟩, ?_, ?_, ?_, ?_, mg_of KX G ?_, ⟨?_, ?_, ?_, ?_⟩, ?_, ?_, ?_, ?_, KT.FT.of KX G (KT.ba1 (fun _ _ _ _ _ _ _ _ => rfl) rfl) ?_ ?_ ?_ ?_, KT.FT.of KX G (KT.ba1 (fun _ _ _ _ _ _ _ _ => rfl) rfl) ?_ ?_ ?_ ?_, KT.FT.of KX G (KT.ba2 (fun _ _ _ _ _ _ _ _ _ => rfl) rfl) ?_ ?_ ?_ ?_, KT.FM.of (KT.ba2 (fun _ _ _ _ _ _ _ _ _ => rfl) rfl) ?_ ?_ ?_ ?_ ?_, KT.FM.of (KT.ba1 (fun _ _ _ _ _ _ _ _ => rfl) rfl) ?_ ?_ ?_ ?_ ?_, KT.FM.of (KT.ba1 (fun _ _ _ _ _ _ _ _ => rfl) rfl) ?_ ?_ ?_ ?_ ?_, KT.FM.of (KT.ba2 (fun _ _ _ _ _ _ _ _ _ => rfl) rfl) ?_ ?_ ?_ ?_ ?_, KT.FM.of (KT.ba2 (fun _ _ _ _ _ _ _ _ _ => rfl) rfl) ?_ ?_ ?_ ?_ ?_, KT.FM.of (KT.ba2 (fun _ _ _ _ _ _ _ _ _ => rfl) rfl) ?_ ?_ ?_ ?_ ?_, KT.FM.of (KT.ba2 (fun _ _ _ _ _ _ _ _ _ => rfl) rfl) ?_ ?_ ?_ ?_ ?_, KT.FM.of (KT.ba2 (fun _ _ _ _ _ _ _ _ _ => rfl) rfl) ?_ ?_ ?_ ?_ ?_, KT.FM.of (KT.ba2 (fun _ _ _ _ _ _ _ _ _ => rfl) rfl) ?_ ?_ ?_ ?_ ?_, KT.FT.of KX G (KT.ba2 (fun _ _ _ _ _ _ _ _ _ => rfl) rfl) ?_ ?_ ?_ ?_, KT.FT.of KX G (KT.ba3 (fun _ _ _ _ _ _ _ _ _ _ => rfl) rfl) ?_ ?_ ?_ ?_, KT.FT.of KX G (KT.ba2 (fun _ _ _ _ _ _ _ _ _ => rfl) rfl) ?_ ?_ ?_ ?_, KT.FT.of KX G (KT.ba2 (fun _ _ _ _ _ _ _ _ _ => rfl) rfl) ?_ ?_ ?_ ?_, KT.FT.of KX G (KT.ba2 (fun _ _ _ _ _ _ _ _ _ => rfl) rfl) ?_ ?_ ?_ ?_, KT.FT.of KX G (KT.ba2 (fun _ _ _ _ _ _ _ _ _ => rfl) rfl) ?_ ?_ ?_ ?_, KT.FT.of KX G (KT.ba2 (fun _ _ _ _ _ _ _ _ _ => rfl) rfl) ?_ ?_ ?_ ?_, KT.FT.of KX G (KT.ba2 (fun _ _ _ _ _ _ _ _ _ => rfl) rfl) ?_ ?_ ?_ ?_, KT.FT.of KX G (KT.ba1 (fun _ _ _ _ _ _ _ _ => rfl) rfl) ?_ ?_ ?_ ?_, KT.FT.of KX G (KT.ba1 (fun _ _ _ _ _ _ _ _ => rfl) rfl) ?_ ?_ ?_ ?_, KT.FT.of KX G (KT.ba2 (fun _ _ _ _ _ _ _ _ _ => rfl) rfl) ?_ ?_ ?_ ?_, KT.FT.of KX G (KT.ba1 (fun _ _ _ _ _ _ _ _ => rfl) rfl) ?_ ?_ ?_ ?_, KT.FT.of KX G (KT.ba1 (fun _ _ _ _ _ _ _ _ => rfl) rfl) ?_ ?_ ?_ ?_, KT.FT.of KX G (KT.ba1 (fun _ _ _ _ _ _ _ _ => rfl) rfl) ?_ ?_ ?_ ?_, KT.FT.of KX G (KT.ba1 (fun _ _ _ _ _ _ _ _ => rfl) rfl) ?_ ?_ ?_ ?_, KT.FM.of (KT.ba5 (fun _ _ _ _ _ _ _ _ _ _ _ _ => rfl) rfl) ?_ ?_ ?_ ?_ ?_, KT.FT.of KX G (KT.ba3 (fun _ _ _ _ _ _ _ _ _ _ => rfl) rfl) ?_ ?_ ?_ ?_, KT.FT.of KX G (KT.ba2 (fun _ _ _ _ _ _ _ _ _ => rfl) rfl) ?_ ?_ ?_ ?_, KT.FT.of KX G (KT.ba2 (fun _ _ _ _ _ _ _ _ _ => rfl) rfl) ?_ ?_ ?_ ?_, KT.FT.of KX G (KT.ba1 (fun _ _ _ _ _ _ _ _ => rfl) rfl) ?_ ?_ ?_ ?_, KT.FM.of (KT.ba2 (fun _ _ _ _ _ _ _ _ _ => rfl) rfl) ?_ ?_ ?_ ?_ ?_, KT.FM.of (KT.ba3 (fun _ _ _ _ _ _ _ _ _ _ => rfl) rfl) ?_ ?_ ?_ ?_ ?_, KT.FM.of (KT.ba3 (fun _ _ _ _ _ _ _ _ _ _ => rfl) rfl) ?_ ?_ ?_ ?_ ?_, KT.FM.of (KT.ba3 (fun _ _ _ _ _ _ _ _ _ _ => rfl) rfl) ?_ ?_ ?_ ?_ ?_, KT.FM.of (KT.ba2 (fun _ _ _ _ _ _ _ _ _ => rfl) rfl) ?_ ?_ ?_ ?_ ?_, KT.FM.of (KT.ba1 (fun _ _ _ _ _ _ _ _ => rfl) rfl) ?_ ?_ ?_ ?_ ?_, KT.FM.of (KT.ba1 (fun _ _ _ _ _ _ _ _ => rfl) rfl) ?_ ?_ ?_ ?_ ?_, KT.FM.of (KT.ba1 (fun _ _ _ _ _ _ _ _ => rfl) rfl) ?_ ?_ ?_ ?_ ?_, KT.FM.of (KT.ba1 (fun _ _ _ _ _ _ _ _ => rfl) rfl) ?_ ?_ ?_ ?_ ?_, KT.FM.of (KT.ba1 (fun _ _ _ _ _ _ _ _ => rfl) rfl) ?_ ?_ ?_ ?_ ?_, KT.FM.of (KT.ba2 (fun _ _ _ _ _ _ _ _ _ => rfl) rfl) ?_ ?_ ?_ ?_ ?_, KT.FM.of (KT.ba1 (fun _ _ _ _ _ _ _ _ => rfl) rfl) ?_ ?_ ?_ ?_ ?_, KT.FT.of KX G (KT.ba2 (fun _ _ _ _ _ _ _ _ _ => rfl) rfl) ?_ ?_ ?_ ?_, KT.FT.of KX G (KT.ba2 (fun _ _ _ _ _ _ _ _ _ => rfl) rfl) ?_ ?_ ?_ ?_, KT.FT.of KX G (KT.ba3 (fun _ _ _ _ _ _ _ _ _ _ => rfl) rfl) ?_ ?_ ?_ ?_, KT.FT.of KX G (KT.ba3 (fun _ _ _ _ _ _ _ _ _ _ => rfl) rfl) ?_ ?_ ?_ ?_, KT.FT.of KX G (KT.ba1 (fun _ _ _ _ _ _ _ _ => rfl) rfl) ?_ ?_ ?_ ?_, KT.FT.of KX G (KT.ba2 (fun _ _ _ _ _ _ _ _ _ => rfl) rfl) ?_ ?_ ?_ ?_, KT.FT.of KX G (KT.ba3 (fun _ _ _ _ _ _ _ _ _ _ => rfl) rfl) ?_ ?_ ?_ ?_, KT.FT.of KX G (KT.ba2 (fun _ _ _ _ _ _ _ _ _ => rfl) rfl) ?_ ?_ ?_ ?_, KT.FT.of KX G (KT.ba4 (fun _ _ _ _ _ _ _ _ _ _ _ => rfl) rfl) ?_ ?_ ?_ ?_, KT.FT.of KX G (KT.ba4 (fun _ _ _ _ _ _ _ _ _ _ _ => rfl) rfl) ?_ ?_ ?_ ?_, KT.FT.of KX G (KT.ba1 (fun _ _ _ _ _ _ _ _ => rfl) rfl) ?_ ?_ ?_ ?_, KT.FT.of KX G (KT.ba1 (fun _ _ _ _ _ _ _ _ => rfl) rfl) ?_ ?_ ?_ ?_, KT.FT.of KX G (KT.ba1 (fun _ _ _ _ _ _ _ _ => rfl) rfl) ?_ ?_ ?_ ?_, ⟨?_, ?_, ?_, ?_⟩, ⟨?_, ?_, ?_, ?_⟩, ⟨?_, ?_, ?_, ?_⟩, mg_of KX G ?_, mg_of KX G ?_, mg_of KX G ?_, mg_of KX G ?_, mg_of KX G ?_, mg_of KX G ?_, fun s u => .of_eq rfl, mg_none_of KX G ?_, mg_none_of KX G ?_, mg_none_of KX G ?_, mg_none_of KX G ?_, mg_none_of KX G ?_, mg_none_of KX G ?_, mg_none_of KX G ?_, mg_none_of KX G ?_, mg_none_of KX G ?_, mg_none_of KX G ?_, mg_none_of KX G ?_, mg_none_of KX G ?_, mg_none_of KX G ?_, mg_none_of KX G ?_, mg_none_of KX G ?_, mg_of KX G ?_, ⟨?_⟩, mg_of KX G ?_, ⟨?_⟩, mg_of KX G ?_, ⟨?_⟩, mg_of KX G ?_, ⟨?_⟩, mg_of KX G ?_, ⟨?_⟩, mg_of KX G ?_, ⟨?_⟩, mg_of KX G ?_, ⟨?_⟩, mg_of KX G ?_, mg_of KX G ?_, ⟨?_⟩, mg_of KX G ?_, ⟨?_⟩, ?_, ?_, ?_, ?_, ?_, ?_, ?_, ?_, ?_, ?_, ?_, ?_, ?_, ?_, ?_, ?_, ?_, ?_, ?_, ?_, ?_⟩⟩
   any_goals first | k_is | k_exc | rfl | kernel_rfl
  obtain ⟨t, T⟩ := T
  have e0 := hmg.symm.trans T.p_law.g
  cases e0
  refine' ⟨_, ?b, fun base kb nb => KT.ok_law T⟩
  exact T.bl
#print axioms PySem.Challenge.cw_tentloops_k55_hall_names_holds
