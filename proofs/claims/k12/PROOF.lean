import PyProof.Rows.All
import Wide.All
import OpenK.AllK
import Wide.FinOn
import Lean
import PyProof.EqAt
import PyProof.EqKinds
import PyProof.TupleCall
import PySem.Challenge.RW_tentloops_k12_two_wrongs
set_option Elab.async false
set_option linter.all false
set_option maxRecDepth 100000
namespace L2
open PySem PySem.Spec PyProof.Rows
noncomputable abbrev Key := Sum Int Str
noncomputable def keyIs : Key → Value → Bool
 | .inl k, v => Value.isInt k v
 | .inr x, v => Value.isStrOf x v
noncomputable def keyH (w : World) : Key → Int
 | .inl k => hashInt k
 | .inr x => hashStr w x
theorem keyIs_shape : ∀ {k : Key} {v : Value}, keyIs k v = true → (∃ i t, k = Sum.inl i ∧ v = Value.int i t) ∨ (∃ x t, k = Sum.inr x ∧ v = Value.str x t)
 | .inl i, v, h => by
  obtain ⟨t, e⟩ := Value.isInt_shape (k := i) (v := v) h
  exact .inl ⟨i, t, rfl, e⟩
 | .inr x, v, h => by
  obtain ⟨t, e⟩ := Value.isStrOf_shape (x := x) (v := v) h
  exact .inr ⟨x, t, rfl, e⟩
theorem keyIs_int (i : Int) (t : Tok) : keyIs (.inl i) (.int i t) = true := by simp [keyIs, Value.isInt]
theorem keyIs_str (x : Str) (t : Tok) : keyIs (.inr x) (.str x t) = true := by simp [keyIs, Value.isStrOf]
theorem key_ll (a b : Int) : decide ((Sum.inl a : Key) = Sum.inl b) = (a == b) := by
 by_cases e : a = b
 ·subst e; simp
 ·have h : ¬ (Sum.inl a : Key) = Sum.inl b := fun q => e (Sum.inl.inj q)
  rw [decide_eq_false h]
  exact (beq_eq_false_iff_ne.mpr e).symm
theorem key_rr (a b : Str) : decide ((Sum.inr a : Key) = Sum.inr b) = decide (a = b) := by
 by_cases e : a = b
 ·subst e; simp
 ·have h : ¬ (Sum.inr a : Key) = Sum.inr b := fun q => e (Sum.inr.inj q)
  rw [decide_eq_false h, decide_eq_false e]
theorem key_lr (a : Int) (b : Str) : decide ((Sum.inl a : Key) = Sum.inr b) = false := decide_eq_false (fun q => nomatch q)
theorem key_rl (a : Str) (b : Int) : decide ((Sum.inr a : Key) = Sum.inl b) = false := decide_eq_false (fun q => nomatch q)
noncomputable def mixKind (prog : Program) (w : World) : PySem.KeyKind prog w Key where
 is := keyIs
 hash := keyH w
 inj := fun v a b ha hb => by
  rcases keyIs_shape ha with ⟨i, t, rfl, rfl⟩ | ⟨x, t, rfl, rfl⟩
  ·rcases keyIs_shape hb with ⟨j, u, rfl, e⟩ | ⟨y, u, rfl, e⟩
   ·injection e with e1 _; rw [e1]
   ·exact nomatch e
  ·rcases keyIs_shape hb with ⟨j, u, rfl, e⟩ | ⟨y, u, rfl, e⟩
   ·exact nomatch e
   ·injection e with e1 _; rw [e1]
 byValue := fun k v h => by
  rcases keyIs_shape h with ⟨i, t, rfl, rfl⟩ | ⟨x, t, rfl, rfl⟩ <;> rfl
 pyHash := fun hv h => by
  rcases keyIs_shape hv with ⟨i, t, rfl, rfl⟩ | ⟨x, t, rfl, rfl⟩
  ·exact wpAny_pyHash_int h
  ·exact wpAny_pyHash_str h
 eqBool := fun hu hv h => by
  rcases keyIs_shape hu with ⟨i, t, rfl, rfl⟩ | ⟨x, t, rfl, rfl⟩
  ·rcases keyIs_shape hv with ⟨j, u, rfl, rfl⟩ | ⟨y, u, rfl, rfl⟩
   ·rw [key_ll] at h; exact wpAny_eqBool_int h
   ·rw [key_lr] at h; exact SeqAt.EqAt.int_str i t y u _ _ _ _ h
  ·rcases keyIs_shape hv with ⟨j, u, rfl, rfl⟩ | ⟨y, u, rfl, rfl⟩
   ·rw [key_rl] at h; exact SeqAt.EqAt.str_int x t j u _ _ _ _ h
   ·rw [key_rr] at h; exact wpAny_eqBool_str h
 «strs» := fun k x t v h => by
  rcases keyIs_shape h with ⟨i, u, rfl, e⟩ | ⟨y, u, rfl, e⟩
  ·exact nomatch e
  ·injection e with e1 _
   subst e1
   cases v <;> rfl
theorem mixKind_int (prog : Program) (w : World) (i : Int) (t : Tok) : (mixKind prog w).is (.inl i) (.int i t) = true := keyIs_int i t
theorem mixKind_str (prog : Program) (w : World) (x : Str) (t : Tok) : (mixKind prog w).is (.inr x) (.str x t) = true := keyIs_str x t
end L2
namespace L2
open PySem PySem.Spec PyProof.Rows
inductive V where
 | non | bl (b : Bool) | int (i : Int) | str (x : Str) | byt (b : Array UInt8) | flt (b : UInt64) | ref (a : Addr) | ty (n : String)
 deriving DecidableEq
set_option genInjectivity false
set_option genSizeOf false
noncomputable def RelV : V → Value → Prop
 | .non, u => u = Value.none
 | .bl b, u => u = Value.bool b
 | .int i, u => ∃ t, u = Value.int i t
 | .str x, u => ∃ t, u = Value.str x t
 | .byt b, u => ∃ t, u = Value.bytes b t
 | .flt b, u => ∃ t, u = Value.float b t
 | .ref a, u => u = Value.ref a
 | .ty n, u => u = Value.type n
noncomputable abbrev Vals : List V → List Value → Prop := Paired RelV
theorem Vals.length {xs : List V} {us : List Value} (r : Vals xs us) : xs.length = us.length := Paired.length r
theorem Vals.get : ∀ {xs : List V} {us : List Value} {i : Nat} {x : V}, Vals xs us → xs[i]? = some x → ∃ u, us[i]? = some u ∧ RelV x u
 | _, _, _, _, .nil, e => by simp at e
 | _, _, 0, _, .cons r _, e => by simp at e; subst e; exact ⟨_, rfl, r⟩
 | _, _, i + 1, x, .cons _ t, e => by
  obtain ⟨u, h1, h2⟩ := Vals.get (i := i) (x := x) t (by simpa using e)
  exact ⟨u, by simpa using h1, h2⟩
theorem Vals.set {x : V} {u : Value} (r : RelV x u) : ∀ {xs : List V} {us : List Value} (i : Nat), Vals xs us → Vals (xs.set i x) (us.set i u)
 | _, _, _, .nil => .nil
 | _, _, 0, .cons _ t => .cons r t
 | _, _, i + 1, .cons q t => .cons q (Vals.set r i t)
theorem Vals.append : ∀ {xs ys : List V} {us ws : List Value}, Vals xs us → Vals ys ws → Vals (xs ++ ys) (us ++ ws)
 | _, _, _, _, .nil, s => s
 | _, _, _, _, .cons r t, s => .cons r (Vals.append t s)
theorem Vals.take : ∀ {xs : List V} {us : List Value} (n : Nat), Vals xs us → Vals (xs.take n) (us.take n)
 | _, _, 0, _ => .nil
 | _, _, _ + 1, .nil => .nil
 | _, _, n + 1, .cons r t => .cons r (Vals.take n t)
theorem Vals.drop : ∀ {xs : List V} {us : List Value} (n : Nat), Vals xs us → Vals (xs.drop n) (us.drop n)
 | _, _, 0, r => r
 | _, _, _ + 1, .nil => .nil
 | _, _, n + 1, .cons _ t => Vals.drop n t
noncomputable def RelO : Option V → Option Value → Prop
 | some v, some u => RelV v u
 | none, none => True
 | _, _ => False
noncomputable def KV {κ : Type} : List (κ × V) → List (κ × Value) → Prop := Paired fun (p : κ × V) (q : κ × Value) => p.1 = q.1 ∧ RelV p.2 q.2
noncomputable def kV : Key → V
 | .inl i => .int i
 | .inr x => .str x
inductive HO where
 /-- a list -/
 | lst (xs : List V)
 /-- a tuple (never changes) -/
 | tup (xs : List V)
 /-- a dict whose keys are ints and texts; one whose keys are tuples of ints and texts (the empty one is both) -/
 | dK (kvs : List (Key × V)) | dT (kvs : List (List Key × V))
 /-- a set of ints: its members, its size -/
 | set (S : Int → Bool) (n : Nat)
 /-- an instance of the class at C, its dict at dx, its attributes -/
 | ins (C dx : Addr) (fs : List (Str × V))
 /-- the dict of the instance at x -/
 | own (x : Addr)
 /-- the dict of an exception -/
 | xd (fs : List (Str × V))
 /-- a bound method, f of x -/
 | met (f x : Addr)
 /-- a range object lo, lo + 1, .. below hi -/
 | rng (lo hi : Int)
 /-- a thing that is known to the object (the script; a dict while a loop walks it): read, never written while it is so -/
 | frz (o : Obj) (u : HO)
 /-- a code object's table -/
 | tbl (ps : Array Value)
 /-- any other thing, by what is true of its one object (a def of one's own: SetO a S n := HO.ext fun h => ..) -/
 | ext (φ : Heap → Prop)
noncomputable abbrev Hp := Addr → Option HO
noncomputable def upd (H : Hp) (a : Addr) (o : HO) : Hp := fun b => if b = a then some o else H b
theorem upd_same {H : Hp} {a : Addr} {o : HO} : upd H a o a = some o := by unfold upd; rw [if_pos rfl]
theorem upd_ne {H : Hp} {a b : Addr} {o : HO} (h : b ≠ a) : upd H a o b = H b := by unfold upd; rw [if_neg h]
theorem ne_of {H : Hp} {a b : Addr} {o u : HO} (h : H a = some o) (h' : H b = some u) (d : o ≠ u) : a ≠ b := by
 intro e; subst e; rw [h] at h'; exact d (Option.some.inj h')
theorem ne_of_none {H : Hp} {a b : Addr} {o : HO} (h : H a = some o) (h' : H b = none) : a ≠ b := by
 intro e; subst e; rw [h] at h'; cases h'
section
variable (P : Program) (w : World)
noncomputable def ObjOk (H : Hp) (h : Heap) (a : Addr) : HO → Prop
 | .lst xs => xs.length ≤ sizeLine ∧ ∃ (its : List Value) (n : Nat), Vals xs its ∧ h.get? a = some { cls := .type "list", data := .seq its.toArray n }
 | .tup xs => xs.length ≤ sizeLine ∧ ∃ its : List Value, Vals xs its ∧ IsTup h a its.toArray
 | .dK kvs => kvs.length ≤ sizeLine ∧ (a == sysModules) = false ∧ ∃ vs, KV kvs vs ∧ h.DictOf (mixKind P w) a vs
 | .dT kvs => kvs.length ≤ sizeLine ∧ (a == sysModules) = false ∧ ∃ xs : List (List Key × Addr × Value),
   Paired (fun (p : List Key × V) (q : List Key × Addr × Value) => p.1 = q.1 ∧ H q.2.1 = some (.tup (p.1.map kV)) ∧ RelV p.2 q.2.2) kvs xs ∧
   ∃ o es ep, h.get? a = some o ∧ o.ExactDict ∧ o.data = .dict es ep ∧ es.toList = xs.map (entryOfKey (tupleKind (mixKind P w))) ∧ (xs.map (·.1)).Nodup
 | .set S n => h.SetOf (intKind P w) a S n
 | .ins C dx fs => H dx = some (.own a) ∧ fs.length ≤ 1000 ∧ dx ≠ a ∧ h.get? a = some (PySem.W.instObj C dx) ∧
   ∃ mA, h.Ns1 dx mA ∧ (∀ f, RelO (fs.lookup f) (mA f)) ∧ PySem.Within mA (fs.map (·.1))
 | .own _ => ∃ o, h.get? a = some o
 | .xd fs => ∃ mA, h.Ns1 a mA ∧ ∀ f, RelO (fs.lookup f) (mA f)
 | .rng lo hi => ∃ t u v, h.get? a = some { cls := .type "range", data := .fields #[.int lo t, .int hi u, .int 1 v] }
 | .frz o u => h.get? a = some o ∧ ObjOk H h a u
 | .tbl ps => h.get? a = some { cls := .none, data := .fields ps }
 | .met f x => h.get? a = some (PySem.W.methodObj (.ref f) (.ref x))
 | .ext φ => φ h ∧ (∃ o, h.get? a = some o) ∧ ∀ h1 h2 : Heap, φ h1 → (∀ o, h1.get? a = some o → h2.get? a = some o) → φ h2
noncomputable def HOk (H : Hp) (h : Heap) : Prop := ∀ a o, H a = some o → ObjOk P w H h a o
end
section
variable {P : Program} {w : World} {H H' : Hp} {h h' : Heap} {a : Addr} {o : HO}
theorem ObjOk.lt (x : ObjOk P w H h a o) : a < h.objs.size := by
 cases o with
 | lst xs => obtain ⟨_, _, _, _, e⟩ := x; exact Heap.lt_size e
 | tup xs => obtain ⟨_, _, _, p⟩ := x; exact p.lt
 | dK kvs => obtain ⟨_, _, _, _, o, _, _, e, _⟩ := x; exact Heap.lt_size e
 | dT kvs => obtain ⟨_, _, _, _, o, _, _, e, _⟩ := x; exact Heap.lt_size e
 | set S n => obtain ⟨o, _, _, _, e, _⟩ := x; exact Heap.lt_size e
 | ins C dx fs => obtain ⟨_, _, _, e, _⟩ := x; exact Heap.lt_size e
 | own y => obtain ⟨_, e⟩ := x; exact Heap.lt_size e
 | xd fs => obtain ⟨_, ⟨_, _, _, e, _⟩, _⟩ := x; exact Heap.lt_size e
 | rng lo hi => obtain ⟨_, _, _, e⟩ := x; exact Heap.lt_size e
 | frz ob u => obtain ⟨e, _⟩ := x; exact Heap.lt_size e
 | tbl ps => exact Heap.lt_size (show h.get? a = some _ from x)
 | met f y => exact Heap.lt_size (show h.get? a = some _ from x)
 | ext φ => obtain ⟨_, ⟨_, e⟩, _⟩ := x; exact Heap.lt_size e
theorem Paired.mapP {α β : Type} {F G : α → β → Prop} : ∀ {l₁ : List α} {l₂ : List β}, Paired F l₁ l₂ → (∀ a b, F a b → G a b) → Paired G l₁ l₂
 | _, _, .nil, _ => .nil
 | _, _, .cons r t, f => .cons (f _ _ r) (Paired.mapP t f)
theorem ObjOk.stay (x : ObjOk P w H h a o) (k : ∀ b u, (b = a ∨ H b = some (.own a)) → h.get? b = some u → h'.get? b = some u)
  (ho : ∀ b, H b = some (.own a) → H' b = some (.own a)) (ht : ∀ b xs, H b = some (.tup xs) → H' b = some (.tup xs)) : ObjOk P w H' h' a o := by
 induction o with
 | lst xs => obtain ⟨z, its, n, r, e⟩ := x; exact ⟨z, its, n, r, k _ _ (.inl rfl) e⟩
 | tup xs => obtain ⟨z, its, r, ob, e, c⟩ := x; exact ⟨z, its, r, ob, k _ _ (.inl rfl) e, c⟩
 | dK kvs => obtain ⟨z, y, vs, r, ob, es, ep, e, c⟩ := x; exact ⟨z, y, vs, r, ob, es, ep, k _ _ (.inl rfl) e, c⟩
 | dT kvs =>
  obtain ⟨z, y, xs, r, ob, es, ep, e, c⟩ := x
  exact ⟨z, y, xs, Paired.mapP r fun p q z => ⟨z.1, ht _ _ z.2.1, z.2.2⟩, ob, es, ep, k _ _ (.inl rfl) e, c⟩
 | set S n => obtain ⟨ob, es, ep, t, e, c⟩ := x; exact ⟨ob, es, ep, t, k _ _ (.inl rfl) e, c⟩
 | ins C dx fs =>
  obtain ⟨d, z, ne, e, mA, ⟨od, es, ep, e2, c⟩, r⟩ := x
  exact ⟨ho _ d, z, ne, k _ _ (.inl rfl) e, mA, ⟨od, es, ep, k _ _ (.inr d) e2, c⟩, r⟩
 | own y => obtain ⟨ob, e⟩ := x; exact ⟨ob, k _ _ (.inl rfl) e⟩
 | xd fs => obtain ⟨mA, ⟨od, es, ep, e, c⟩, r⟩ := x; exact ⟨mA, ⟨od, es, ep, k _ _ (.inl rfl) e, c⟩, r⟩
 | rng lo hi => obtain ⟨t, u, v, e⟩ := x; exact ⟨t, u, v, k _ _ (.inl rfl) e⟩
 | frz ob u ih => obtain ⟨e, q⟩ := x; exact ⟨k _ _ (.inl rfl) e, ih q⟩
 | tbl ps =>
  have e : h.get? a = some { cls := .none, data := .fields ps } := x
  show h'.get? a = some { cls := .none, data := .fields ps }
  exact k a _ (.inl rfl) e
 | met f y =>
  have e : h.get? a = some (PySem.W.methodObj (.ref f) (.ref y)) := x
  show h'.get? a = some (PySem.W.methodObj (.ref f) (.ref y))
  exact k a _ (.inl rfl) e
 | ext φ => obtain ⟨p, ⟨o, e⟩, st⟩ := x; exact ⟨st _ _ p fun o q => k _ _ (.inl rfl) q, ⟨o, k _ _ (.inl rfl) e⟩, st⟩
theorem HOk.lt (x : HOk P w H h) (e : H a = some o) : a < h.objs.size := (x a o e).lt
theorem HOk.fresh (x : HOk P w H h) (e : h.objs.size ≤ a) : H a = none := by
 cases q : H a with
 | none => rfl
 | some u => exact absurd (Nat.lt_of_lt_of_le (x.lt q) e) (Nat.lt_irrefl _)
theorem HOk.kept (x : HOk P w H h) (k : ∀ b u, h.get? b = some u → h'.get? b = some u) : HOk P w H h' := fun a o e =>
 (x a o e).stay (fun b u _ q => k b u q) (fun _ q => q) fun _ _ q => q
theorem HOk.laid (x : HOk P w H h) (k : ∀ b u, h.get? b = some u → h'.get? b = some u) (hp : h.objs.size ≤ a) (new : ObjOk P w (upd H a o) h' a o) : HOk P w (upd H a o) h' := fun b u e => by
 have hn := x.fresh hp
 by_cases hb : b = a
 ·subst hb; rw [upd_same] at e; cases e; exact new
 ·rw [upd_ne hb] at e
  exact (x b u e).stay (fun c v _ q => k c v q) (fun c q => by rw [upd_ne (ne_of_none q hn)]; exact q) fun c xs q => by rw [upd_ne (ne_of_none q hn)]; exact q
end
noncomputable def Rd (H : Hp) (a : Addr) (u : HO) : Prop := H a = some u ∨ ∃ o, H a = some (.frz o u)
theorem Rd.ok {P : Program} {w : World} {H : Hp} {h : Heap} {a : Addr} {u : HO} (r : Rd H a u) (x : HOk P w H h) : ObjOk P w H h a u := by
 rcases r with r | ⟨o, r⟩
 ·exact x a u r
 ·obtain ⟨_, q⟩ := x a _ r
  exact q
noncomputable def Mut : Option HO → Prop
 | some (.lst _) => True
 | some (.dK _) => True
 | some (.dT _) => True
 | some (.set _ _) => True
 | some (.ins _ _ _) => True
 | some (.ext _) => True
 | _ => False
section
variable {P : Program} {w : World} {H : Hp} {h h' : Heap} {x e : Addr} {o' : HO}
theorem HOk.write (ok : HOk P w H h) (mu : Mut (H x)) (he : e = x ∨ H e = some (.own x)) (k : ∀ b u, b ≠ e → h.get? b = some u → h'.get? b = some u) (heo : ∃ u, h'.get? e = some u)
  (new : ObjOk P w (upd H x o') h' x o') : HOk P w (upd H x o') h' := fun b u q => by
 have nown : ∀ c y, H c = some (.own y) → c ≠ x := fun c y r z => by subst z; rw [r] at mu; exact mu
 have ntup : ∀ c xs, H c = some (.tup xs) → c ≠ x := fun c xs r z => by subst z; rw [r] at mu; exact mu
 by_cases hb : b = x
 ·subst hb; rw [upd_same] at q; cases q; exact new
 ·rw [upd_ne hb] at q
  by_cases hbe : b = e
  ·have q' : H b = some (.own x) := by
    rcases he with z | z
    ·exact absurd (hbe.trans z) hb
    ·rw [hbe]; exact z
   rw [q] at q'; cases q'
   obtain ⟨v, hv⟩ := heo
   exact ⟨v, by rw [hbe]; exact hv⟩
  ·refine (ok b u q).stay (fun c v hc r => k c v ?_ r) (fun c r => by rw [upd_ne (nown c b r)]; exact r) fun c xs r => by rw [upd_ne (ntup c xs r)]; exact r
   rcases hc with rfl | hc
   ·exact hbe
   ·rintro rfl
    rcases he with z | z
    ·exact nown c b hc z
    ·rw [hc] at z; cases z; exact hb rfl
end
structure Un (fs ex : List Addr) (H H' : Hp) (h h' : Heap) : Prop where
 keep : ∀ b o, h.get? b = some o → H b = none → b ∉ fs → b ∉ ex → h'.get? b = some o
 slot : ∀ b o, h.get? b = some o → H b = none → b ∈ fs → b ∉ ex → ∃ sl, h'.get? b = some { o with slots := sl }
 free : ∀ b o, h.get? b = some o → H b = none → b ∉ ex → H' b = none
 there : ∀ b o, h.get? b = some o → b ∉ ex → ∃ o', h'.get? b = some o'
 tups : ∀ b xs, H b = some (.tup xs) → H' b = some (.tup xs)
 frzs : ∀ b o u, H b = some (.frz o u) → H' b = some (.frz o u)
 tbls : ∀ b ps, H b = some (.tbl ps) → ∃ more, H' b = some (.tbl (ps ++ more))
section
variable {fs fs' ex ex' : List Addr} {H H1 H2 : Hp} {h h1 h2 h' : Heap} {a x e : Addr} {o : HO}
theorem Un.any (u : Un fs ex H H1 h h1) {b : Addr} {ob : Obj} (q : h.get? b = some ob) (n : H b = none) (hx : b ∉ ex) : ∃ sl, h1.get? b = some { ob with slots := sl } := by
 by_cases hb : b ∈ fs
 ·exact u.slot b ob q n hb hx
 ·exact ⟨ob.slots, u.keep b ob q n hb hx⟩
theorem Un.kept (k : ∀ b u, h.get? b = some u → h'.get? b = some u) : Un fs ex H H h h' :=
 ⟨fun b ob q _ _ _ => k b ob q, fun b ob q _ _ _ => ⟨ob.slots, k b ob q⟩, fun _ _ _ n _ => n, fun b ob q _ => ⟨ob, k b ob q⟩, fun _ _ q => q, fun _ _ _ q => q, fun _ ps q => ⟨#[], by rw [q]; simp⟩⟩
theorem Un.refl : Un fs ex H H h h := Un.kept fun _ _ q => q
theorem Un.laid (k : ∀ b u, h.get? b = some u → h'.get? b = some u) (hp : h.objs.size ≤ a) (hn : H a = none) : Un fs ex H (upd H a o) h h' where
 keep := fun b u q _ _ _ => k b u q
 slot := fun b u q _ _ _ => ⟨u.slots, k b u q⟩
 free := fun b u q n _ => by rw [upd_ne (Nat.ne_of_lt (Nat.lt_of_lt_of_le (Heap.lt_size q) hp))]; exact n
 there := fun b u q _ => ⟨u, k b u q⟩
 tups := fun b xs q => by rw [upd_ne (ne_of_none q hn)]; exact q
 frzs := fun b u xs q => by rw [upd_ne (ne_of_none q hn)]; exact q
 tbls := fun b ps q => ⟨#[], by rw [upd_ne (ne_of_none q hn), q]; simp⟩
theorem Un.write (mu : Mut (H x)) (he : e = x ∨ H e = some (.own x)) (k : ∀ b u, b ≠ e → h.get? b = some u → h'.get? b = some u) (heo : ∃ u, h'.get? e = some u) : Un fs ex H (upd H x o) h h' := by
 have hx : ∀ b, H b = none → b ≠ x := fun b n z => by subst z; rw [n] at mu; exact mu
 have hb : ∀ b, H b = none → b ≠ e := fun b n z => by
  subst z
  rcases he with r | r
  ·exact hx b n r
  ·rw [n] at r; cases r
 have hm : ∀ b u, H b = some u → ¬ Mut (some u) → b ≠ x := fun b u q nm z => by subst z; rw [q] at mu; exact nm mu
 refine ⟨fun b u q n _ _ => k b u (hb b n) q, fun b u q n _ _ => ⟨u.slots, k b u (hb b n) q⟩, fun b u q n _ => by rw [upd_ne (hx b n)]; exact n, fun b u q _ => ?_,
  fun b xs q => by rw [upd_ne (hm b _ q fun z => z)]; exact q, fun b u xs q => by rw [upd_ne (hm b _ q fun z => z)]; exact q, fun b ps q => ⟨#[], by rw [upd_ne (hm b _ q fun z => z), q]; simp⟩⟩
 by_cases hbe : b = e
 ·subst hbe; exact heo
 ·exact ⟨u, k b u hbe q⟩
end
noncomputable def trk (h : Heap) (H : Hp) : List Addr := (List.range h.objs.size).filter fun a => (H a).isSome
noncomputable def hidT (h : Heap) (H : Hp) : Heap := PySem.W.hideAll h (trk h H)
theorem hidT_size (h : Heap) (H : Hp) : (hidT h H).objs.size = h.objs.size := PySem.W.hideAll_size _ _
theorem hidT_get {h : Heap} {H : Hp} {b : Addr} {o : Obj} (e : h.get? b = some o) (n : H b = none) : (hidT h H).get? b = some o :=
 PySem.W.hideAll_get _ e fun hm => by
  have q : (H b).isSome = true := (List.mem_filter.mp hm).2
  rw [n] at q; simp at q
theorem of_hidT {h : Heap} {H : Hp} {b : Addr} {o : Obj} (e : (hidT h H).get? b = some o) : h.get? b = some o ∧ H b = none := by
 have e' : h.get? b = some o := PySem.W.of_hideAll (trk h H) e
 refine ⟨e', ?_⟩
 cases q : H b with
 | none => rfl
 | some x =>
  have hm : b ∈ trk h H := List.mem_filter.mpr ⟨List.mem_range.mpr (Heap.lt_size e'), by simp [q]⟩
  have z : (hidT h H).get? b = none := PySem.W.hideAll_none (trk h H) hm
  rw [z] at e; cases e
noncomputable def allNews (g h : Heap) (L : Addr) : List (Addr × Obj) := (List.range h.objs.size).filterMap fun a => if a = L ∨ (g.get? a).isSome = true then none else (h.get? a).map fun o => (a, o)
noncomputable def rest (g h : Heap) (L d : Addr) : List (Addr × Obj) := (allNews g h L).filter fun p => decide (p.1 ≠ d)
end L2
namespace L2
open PySem PySem.Spec PyProof.Rows
structure Mod (K : PySem.W.Frag) (mg : Str → Option Value) (base : Heap) : Prop where
 kin : K.In base
 glob : base.Ns mainGlobals mg
 blt : ∃ mb, base.Ns builtinsNs mb ∧ ∀ x : Str, x ≠ "__name__" → mb x = bootBuiltins x
 nolimit : base.NoLimit
structure Cx where
 prog : Program
 w : World
 K : PySem.W.Frag
 mg : Str → Option Value
 base : Heap
 A : Around
 N : List Str
 s₀ : Shared
 H₀ : Hp
 env : Env
 outer : List Env
 stack : List Env
 ex : List Addr
 fn : Str → Bool
 calm : Bool
 pn : List (Addr × Obj)
 xe : Value → Shared → Prop
noncomputable def frs (l : List Env) : List Addr := l.filterMap (·.frame)
noncomputable abbrev Cx.fs (X : Cx) : List Addr := frs X.outer
noncomputable def Vis (sc : Scope) (x : Str) : Prop := sc.names.lookup x = some .local ∨ sc.names.lookup x = some .cell ∨ sc.names.lookup x = some .free
noncomputable def Loc (sc : Scope) (x : Str) : Prop := sc.names.lookup x = some .local ∨ sc.names.lookup x = some .cell
noncomputable def Look (env : Env) (h : Heap) (m : Str → Option Value) (x : Str) (u : Value) : Prop :=
 (env.kindOf x = some .local ∧ m x = some u) ∨ ((env.kindOf x = some .cell ∨ env.kindOf x = some .free) ∧ ∃ c, env.cells.lookup x = some c ∧ h.IsCell c (some u))
structure Cx.Ok (X : Cx) : Prop where
 mod : Mod X.K X.mg X.base
 kind : X.env.scope.kind = .function
 glob : X.env.globals = mainGlobals
 blt : X.env.builtins = builtinsNs
 above : X.s₀.heap.objs.size ≤ X.env.locals
 inj : ∀ x y c, X.env.cells.lookup x = some c → X.env.cells.lookup y = some c → x = y
 has : ∀ x, (X.env.kindOf x = some .cell ∨ X.env.kindOf x = some .free) → ∃ c, X.env.cells.lookup x = some c
 cab : ∀ x c, X.fn x = true → X.env.cells.lookup x = some c → X.s₀.heap.objs.size ≤ c
 hd : X.calm = true → X.A.handled = none
 frames : X.A.frames = some X.stack
 stk : X.stack = X.outer ∨ (X.stack = X.env :: X.outer ∧ X.env.frame = some X.env.locals)
 exf : ∀ b ∈ X.ex, b ≠ X.env.locals ∧ ∀ x c, X.env.cells.lookup x = some c → c ≠ b
 bs : ∀ b o, X.base.get? b = some o → X.s₀.heap.get? b = some o ∧ X.H₀ b = none
 bsz : X.base.objs.size ≤ X.s₀.heap.objs.size
 noex : ∀ b o, X.base.get? b = some o → b ∉ X.ex
 exfs : ∀ b ∈ X.ex, b ∉ X.fs
 funs : X.s₀.heap.FunFrames X.base X.outer
 frf : ∀ b ∈ X.fs, X.H₀ b = none
structure Inv (X : Cx) (pins : List (Addr × Obj)) (σ : List (Option V)) (H : Hp) (s : Shared) : Prop where
 ok : X.Ok
 os : s.os = X.s₀.os
 bare : AllBare s.gens
 base : Un X.fs X.ex X.H₀ H X.s₀.heap s.heap
 loc : ∃ m, s.heap.Ns X.env.locals m ∧ ∀ (i : Nat) (x : Str) (v : V), X.N[i]? = some x → σ[i]? = some (some v) → Vis X.env.scope x → ∃ u, RelV v u ∧ Look X.env s.heap m x u
 cell : ∀ x c, X.env.cells.lookup x = some c → ∃ v, s.heap.IsCell c v
 free : H X.env.locals = none
 freeC : ∀ x c, X.env.cells.lookup x = some c → H c = none
 pin : ∀ p ∈ X.pn ++ pins, s.heap.get? p.1 = some p.2 ∧ H p.1 = none ∧ p.1 ≠ X.env.locals ∧ p.1 ∉ X.fs ∧ ∀ v, p.2.data ≠ .cell v
 hok : HOk X.prog X.w H s.heap
 len : σ.length = X.N.length
section
variable {X : Cx} {pins : List (Addr × Obj)} {σ : List (Option V)} {H H' : Hp} {s : Shared} {h' : Heap}
theorem Cx.Ok.nofr (ok : X.Ok) {b : Addr} {o : Obj} (e : X.base.get? b = some o) : b ∉ X.fs := fun hb => by
 have := (ok.funs.mem hb).1
 rw [e] at this; cases this
theorem Inv.bs (I : Inv X pins σ H s) : ∀ b o, X.base.get? b = some o → s.heap.get? b = some o ∧ H b = none := fun b o e =>
 ⟨I.base.keep b o (I.ok.bs b o e).1 (I.ok.bs b o e).2 (I.ok.nofr e) (I.ok.noex b o e), I.base.free b o (I.ok.bs b o e).1 (I.ok.bs b o e).2 (I.ok.noex b o e)⟩
theorem Inv.bk (I : Inv X pins σ H s) : ∀ b o, X.base.get? b = some o → s.heap.get? b = some o := fun b o e => (I.bs b o e).1
theorem Inv.mod (I : Inv X pins σ H s) : Mod X.K X.mg X.base := I.ok.mod
theorem Inv.kIn (I : Inv X pins σ H s) : X.K.In s.heap := I.ok.mod.kin.keeps I.bk
theorem Inv.lt (I : Inv X pins σ H s) : X.env.locals < s.heap.objs.size := let ⟨_, hn, _⟩ := I.loc; hn.lt
theorem Inv.sz (I : Inv X pins σ H s) : X.s₀.heap.objs.size ≤ s.heap.objs.size := Nat.le_trans I.ok.above (Nat.le_of_lt I.lt)
theorem Inv.nofs (I : Inv X pins σ H s) {a : Addr} (h : s.heap.objs.size ≤ a) : a ∉ X.fs := fun hb => by
 obtain ⟨_, o, ho, _⟩ := I.ok.funs.mem hb
 exact absurd (Nat.lt_of_lt_of_le (Heap.lt_size ho) (Nat.le_trans I.sz h)) (Nat.lt_irrefl _)
theorem Inv.cne (I : Inv X pins σ H s) : ∀ x c, X.env.cells.lookup x = some c → c ≠ X.env.locals := fun x c e z => by
 obtain ⟨v, o, ho, hd⟩ := I.cell x c e
 obtain ⟨m, ⟨o', es, ep, ho', hd', _⟩, _⟩ := I.loc
 rw [z, ho'] at ho; cases ho; rw [hd'] at hd; cases hd
theorem Inv.funs (I : Inv X pins σ H s) : s.heap.FunFrames X.base X.outer := by
 have all : ∀ (l : List Env), (∀ b ∈ frs l, b ∈ X.fs) → X.s₀.heap.FunFrames X.base l → s.heap.FunFrames X.base l := by
  intro l
  induction l with
  | nil => intro _ _; trivial
  | cons env r ih =>
   intro hs hl
   obtain ⟨hk, ⟨L, o, hf, hn, ho, hd⟩, hr⟩ := hl
   have hL : L ∈ X.fs := hs L (by unfold frs; rw [List.filterMap_cons, hf]; exact List.mem_cons_self)
   obtain ⟨sl, e⟩ := I.base.slot L o ho (I.ok.frf L hL) hL fun z => I.ok.exfs L z hL
   exact ⟨hk, ⟨L, _, hf, hn, e, hd⟩, ih (fun b hb => hs b (by unfold frs; rw [List.filterMap_cons, hf]; exact List.mem_cons_of_mem _ hb)) hr⟩
 exact all X.outer (fun _ hb => hb) I.ok.funs
theorem Inv.stack (I : Inv X pins σ H s) : s.heap.FunFrames X.base X.stack := by
 rcases I.ok.stk with e | ⟨e, hf⟩
 ·rw [e]; exact I.funs
 ·rw [e]
  obtain ⟨m, hn, _⟩ := I.loc
  refine .cons (by rw [I.ok.kind]; decide) hf hn ?_ I.funs
  exact Heap.get?_none_of_le (Nat.le_trans I.ok.bsz I.ok.above)
theorem Inv.stkSub (I : Inv X pins σ H s) : ∀ b ∈ frs X.stack, b ∈ X.env.locals :: X.fs := fun b hb => by
 rcases I.ok.stk with e | ⟨e, hf⟩
 ·rw [e] at hb; exact List.mem_cons_of_mem _ hb
 ·rw [e] at hb
  unfold frs at hb
  rw [List.filterMap_cons, hf] at hb
  exact hb
theorem Inv.stkFree (I : Inv X pins σ H s) : ∀ b ∈ frs X.stack, H b = none := fun b hb => by
 rcases List.mem_cons.mp (I.stkSub b hb) with e | hb
 ·rw [e]; exact I.free
 ·obtain ⟨_, o, ho, _⟩ := I.ok.funs.mem hb
  exact I.base.free b o ho (I.ok.frf b hb) fun z => I.ok.exfs b z hb
theorem Inv.step {g' : Array GenState} {t' : Nat} {d' : Drawn} {ch : List Addr} (I : Inv X pins σ H s)
  (hch : ∀ b ∈ ch, (b ∈ X.ex ∨ X.s₀.heap.objs.size ≤ b) ∧ b ≠ X.env.locals ∧ (∀ x c, X.env.cells.lookup x = some c → c ≠ b) ∧ ∀ p ∈ X.pn ++ pins, p.1 ≠ b)
  (keep : ∀ b o, b ≠ X.env.locals → b ∉ X.fs → b ∉ ch → s.heap.get? b = some o → H b = none → h'.get? b = some o)
  (slot : ∀ b o, b ≠ X.env.locals → b ∈ X.fs → b ∉ ch → s.heap.get? b = some o → H b = none → ∃ sl, h'.get? b = some { o with slots := sl }) (free : ∀ b o, b ∉ ch → s.heap.get? b = some o → H b = none → H' b = none)
  (there : ∀ b o, b ∉ ch → s.heap.get? b = some o → ∃ o', h'.get? b = some o')
  (tups : ∀ b xs, H b = some (.tup xs) → H' b = some (.tup xs)) (frzs : ∀ b o u, H b = some (.frz o u) → H' b = some (.frz o u)) (tbls : ∀ b ps, H b = some (.tbl ps) → ∃ more, H' b = some (.tbl (ps ++ more)))
  (ns : ∀ m, s.heap.Ns X.env.locals m → h'.Ns X.env.locals m) (hok : HOk X.prog X.w H' h') (hg : AllBare g') :
  Inv X pins σ H' { s with heap := h', gens := g', drawn := d', toks := t' } := by
 have neL : ∀ b o, X.s₀.heap.get? b = some o → b ≠ X.env.locals := fun b o e => Nat.ne_of_lt (Nat.lt_of_lt_of_le (Heap.lt_size e) I.ok.above)
 have neC : ∀ b o, X.s₀.heap.get? b = some o → b ∉ X.ex → b ∉ ch := fun b o e hx hb => by
  rcases (hch b hb).1 with z | z
  ·exact hx z
  ·exact absurd (Nat.lt_of_lt_of_le (Heap.lt_size e) z) (Nat.lt_irrefl _)
 have cellK : ∀ x c, X.env.cells.lookup x = some c → ∀ v, s.heap.IsCell c v → h'.IsCell c v := fun x c e v ⟨o, ho, hd⟩ => by
  have nch : c ∉ ch := fun z => (hch c z).2.2.1 x c e rfl
  by_cases hc : c ∈ X.fs
  ·obtain ⟨sl, q⟩ := slot c o (I.cne x c e) hc nch ho (I.freeC x c e)
   exact ⟨_, q, hd⟩
  ·exact ⟨o, keep c o (I.cne x c e) hc nch ho (I.freeC x c e), hd⟩
 refine ⟨I.ok, I.os, hg, ⟨fun b o e n hb hx => ?_, fun b o e n hb hx => ?_, fun b o e n hx => ?_, fun b o e hx => ?_, fun b xs e => tups b xs (I.base.tups b xs e), fun b o xs e => frzs b o xs (I.base.frzs b o xs e), fun b ps e => ?_⟩, ?_, fun x c e => ?_, ?_, fun x c e => ?_, fun p hp => ?_, hok, I.len⟩
 ·exact keep b o (neL b o e) hb (neC b o e hx) (I.base.keep b o e n hb hx) (I.base.free b o e n hx)
 ·obtain ⟨sl, e1⟩ := I.base.slot b o e n hb hx
  obtain ⟨sl', e2⟩ := slot b _ (neL b o e) hb (neC b o e hx) e1 (I.base.free b o e n hx)
  exact ⟨sl', e2⟩
 ·obtain ⟨o', e1⟩ := I.base.there b o e hx
  exact free b o' (neC b o e hx) e1 (I.base.free b o e n hx)
 ·obtain ⟨o', e1⟩ := I.base.there b o e hx
  exact there b o' (neC b o e hx) e1
 ·obtain ⟨m1, e1⟩ := I.base.tbls b ps e
  obtain ⟨m2, e2⟩ := tbls b _ e1
  exact ⟨m1 ++ m2, by rw [e2, Array.append_assoc]⟩
 ·obtain ⟨m, hn, hl⟩ := I.loc
  refine ⟨m, ns m hn, fun i x v e1 e2 e3 => ?_⟩
  obtain ⟨u, r, l⟩ := hl i x v e1 e2 e3
  refine ⟨u, r, ?_⟩
  rcases l with l | ⟨k, c, e, z⟩
  ·exact .inl l
  ·exact .inr ⟨k, c, e, cellK x c e _ z⟩
 ·obtain ⟨v, z⟩ := I.cell x c e
  exact ⟨v, cellK x c e v z⟩
 ·obtain ⟨m, ⟨o, _, _, ho, _⟩, _⟩ := I.loc
  exact free _ o (fun z => (hch _ z).2.1 rfl) ho I.free
 ·obtain ⟨v, o, ho, hd⟩ := I.cell x c e
  exact free c o (fun z => (hch c z).2.2.1 x c e rfl) ho (I.freeC x c e)
 ·obtain ⟨e, n, ne, nf, d⟩ := I.pin p hp
  have nch : p.1 ∉ ch := fun z => (hch p.1 z).2.2.2 p hp rfl
  exact ⟨keep p.1 p.2 ne nf nch e n, free p.1 p.2 nch e n, ne, nf, d⟩
theorem Inv.un {t' : Nat} (I : Inv X pins σ H s) (u : Un X.fs [] H H' s.heap h') (hok : HOk X.prog X.w H' h') : Inv X pins σ H' { s with heap := h', toks := t' } := by
 obtain ⟨m, ⟨o, es, ep, ho, r⟩, _⟩ := id I.loc
 obtain ⟨sl, hL⟩ := u.any ho I.free (by simp)
 exact I.step (g' := s.gens) (d' := s.drawn) (ch := []) (fun _ z => nomatch z) (fun b o _ hb _ e n => u.keep b o e n hb (by simp)) (fun b o _ hb _ e n => u.slot b o e n hb (by simp)) (fun b o _ e n => u.free b o e n (by simp)) (fun b o _ e => u.there b o e (by simp)) u.tups u.frzs u.tbls (fun m' hm => by
  obtain ⟨o', es', ep', ho', r'⟩ := hm
  rw [ho] at ho'; cases ho'
  exact ⟨_, es', ep', hL, r'⟩) hok I.bare
theorem Inv.call {g' : Array GenState} {t' : Nat} {d' : Drawn} {ch : List Addr} (I : Inv X pins σ H s) (u : Un (frs X.stack) ch H H' s.heap h') (hok : HOk X.prog X.w H' h') (hg : AllBare g')
  (hch : ∀ b ∈ ch, (b ∈ X.ex ∨ X.s₀.heap.objs.size ≤ b) ∧ b ≠ X.env.locals ∧ (∀ x c, X.env.cells.lookup x = some c → c ≠ b) ∧ ∀ p ∈ X.pn ++ pins, p.1 ≠ b) :
  Inv X pins σ H' { s with heap := h', gens := g', drawn := d', toks := t' } := by
 obtain ⟨m, ⟨o, es, ep, ho, r⟩, _⟩ := id I.loc
 obtain ⟨sl, hL⟩ := u.any ho I.free fun z => (hch _ z).2.1 rfl
 exact I.step (ch := ch) hch (fun b o hL hb hc e n => u.keep b o e n (fun z => (List.mem_cons.mp (I.stkSub b z)).elim hL hb) hc) (fun b o _ _ hc e n => u.any e n hc) (fun b o hc e n => u.free b o e n hc) (fun b o hc e => u.there b o e hc) u.tups u.frzs u.tbls (fun m' hm => by
  obtain ⟨o', es', ep', ho', r'⟩ := hm
  rw [ho] at ho'; cases ho'
  exact ⟨_, es', ep', hL, r'⟩) hok hg
theorem Inv.turned {t' : Nat} {it : Addr} (I : Inv X pins σ H s) (k : ∀ b o, b ≠ it → s.heap.get? b = some o → h'.get? b = some o) (hn : H it = none) (hL : it ≠ X.env.locals)
  (h1 : it ∈ X.ex ∨ X.s₀.heap.objs.size ≤ it) (h2 : ∀ x c, X.env.cells.lookup x = some c → c ≠ it) (h3 : ∀ p ∈ X.pn ++ pins, p.1 ≠ it) : Inv X pins σ H { s with heap := h', toks := t' } := by
 have nit : ∀ b u, H b = some u → b ≠ it := fun b u e z => by rw [z, hn] at e; cases e
 refine I.step (g' := s.gens) (d' := s.drawn) (ch := [it]) (fun b hb => ?_) (fun b o _ _ hc e _ => k b o (fun z => hc (by simp [z])) e) (fun b o _ _ hc e _ => ⟨o.slots, k b o (fun z => hc (by simp [z])) e⟩) (fun _ _ _ _ n => n)
  (fun b o hc e => ⟨o, k b o (fun z => hc (by simp [z])) e⟩) (fun _ _ e => e) (fun _ _ _ e => e) (fun b ps e => ⟨#[], by rw [e]; simp⟩) (fun m hm => ?_) (fun b u e => ?_) I.bare
 ·have e : b = it := by simpa using hb
  subst e
  exact ⟨h1, hL, h2, h3⟩
 ·obtain ⟨o, es, ep, ho, r⟩ := hm
  exact ⟨o, es, ep, k _ o (Ne.symm hL) ho, r⟩
 ·refine (I.hok b u e).stay (fun c v hc q => k c v ?_ q) (fun _ q => q) fun _ _ q => q
  rcases hc with z | z
  ·rw [z]; exact nit b u e
  ·exact nit c _ z
theorem Inv.tok (I : Inv X pins σ H s) (t : Nat) : Inv X pins σ H { s with toks := t } := I.un (h' := s.heap) (t' := t) Un.refl I.hok
theorem Inv.kept {t' : Nat} (I : Inv X pins σ H s) (k : ∀ b u, s.heap.get? b = some u → h'.get? b = some u) : Inv X pins σ H { s with heap := h', toks := t' } := I.un (Un.kept k) (I.hok.kept k)
theorem Inv.laid {a : Addr} {o : HO} {t' : Nat} (I : Inv X pins σ H s) (k : ∀ b u, s.heap.get? b = some u → h'.get? b = some u) (hp : s.heap.objs.size ≤ a) (new : ObjOk X.prog X.w (upd H a o) h' a o) :
  Inv X pins σ (upd H a o) { s with heap := h', toks := t' } := I.un (Un.laid k hp (I.hok.fresh hp)) (I.hok.laid k hp new)
theorem Inv.write {x e : Addr} {o : HO} {t' : Nat} (I : Inv X pins σ H s) (mu : Mut (H x)) (he : e = x ∨ H e = some (.own x)) (k : ∀ b u, b ≠ e → s.heap.get? b = some u → h'.get? b = some u) (heo : ∃ u, h'.get? e = some u)
  (new : ObjOk X.prog X.w (upd H x o) h' x o) : Inv X pins σ (upd H x o) { s with heap := h', toks := t' } := I.un (Un.write mu he k heo) (I.hok.write mu he k heo new)
theorem Inv.pins_of {pins' : List (Addr × Obj)} (I : Inv X pins σ H s) (h : ∀ p ∈ pins', s.heap.get? p.1 = some p.2 ∧ H p.1 = none ∧ p.1 ≠ X.env.locals ∧ p.1 ∉ X.fs ∧ ∀ v, p.2.data ≠ .cell v) : Inv X pins' σ H s :=
 ⟨I.ok, I.os, I.bare, I.base, I.loc, I.cell, I.free, I.freeC, fun p hp => (List.mem_append.mp hp).elim (fun z => I.pin p (List.mem_append_left _ z)) (h p), I.hok, I.len⟩
theorem nodup_ix {N : List Str} (hN : N.Nodup) {i j : Nat} {x : Str} (a : N[i]? = some x) (b : N[j]? = some x) : i = j := by
 obtain ⟨h1, e1⟩ := List.getElem?_eq_some_iff.mp a
 obtain ⟨h2, e2⟩ := List.getElem?_eq_some_iff.mp b
 exact (List.getElem_inj hN).mp (e1.trans e2.symm)
theorem store_ok2 {M : Model} {A : Around} {E : Value → Shared → Prop} {i : Nat} {x : Str} {v : V} {u : Value} {Q : Unit → Shared → Prop} (I : Inv X pins σ H s) (hN : X.N.Nodup) (hi : X.N[i]? = some x) (hx : Loc X.env.scope x) (r : RelV v u)
  (h : ∀ s', Inv X pins (σ.set i (some v)) H s' → (∃ a, Heap.SameBut a s.heap s'.heap ∧ (a = X.env.locals ∨ X.env.cells.lookup x = some a)) → Q () s') (hf : X.fn x = true ∨ X.env.scope.names.lookup x = some .local := by first | exact .inl rfl | exact .inr rfl | assumption) : wpAny M A (storeName X.env x u) Q E s := by
 obtain ⟨m, hn, hl⟩ := id I.loc
 have hcls : (X.env.scope.kind == .class || (X.env.scope.kind == .module && X.env.locals != X.env.globals)) = false := by rw [I.ok.kind]; rfl
 have hiσ : i < σ.length := by rw [I.len]; exact (List.getElem?_eq_some_iff.mp hi).1
 have cne := I.cne
 have tracked : ∀ {a : Addr} {h' : Heap}, (∃ o, s.heap.get? a = some o ∧ H a = none) → Heap.SameBut a s.heap h' → HOk X.prog X.w H h' := fun {a h'} ha hs b ob e => by
  obtain ⟨_, _, hfree⟩ := ha
  refine (I.hok b ob e).stay (fun c w' hc q => (hs.2 c ?_).trans q) (fun _ q => q) fun _ _ q => q
  rintro rfl
  rcases hc with rfl | hc
  ·rw [hfree] at e; cases e
  ·rw [hfree] at hc; cases hc
 rcases hx with hk | hk
 ·refine wpAny_storeName_local hk hn (fun h' hn' hs => ?_) hcls
  obtain ⟨oL, _, _, hoL, _⟩ := id hn
  refine h _ ⟨I.ok, I.os, I.bare, ⟨fun b o e n hb hx => ?_, fun b o e n hb hx => ?_, I.base.free, fun b o e hx => ?_, I.base.tups, I.base.frzs, I.base.tbls⟩, ⟨_, hn', fun j y v' e1 e2 e3 => ?_⟩, fun y c e => ?_, I.free, I.freeC, fun p hp => ?_, tracked ⟨oL, hoL, I.free⟩ hs, by simpa using I.len⟩ ⟨_, hs, .inl rfl⟩
  ·exact (hs.2 b (Nat.ne_of_lt (Nat.lt_of_lt_of_le (Heap.lt_size e) I.ok.above))).trans (I.base.keep b o e n hb hx)
  ·obtain ⟨sl, e1⟩ := I.base.slot b o e n hb hx
   exact ⟨sl, (hs.2 b (Nat.ne_of_lt (Nat.lt_of_lt_of_le (Heap.lt_size e) I.ok.above))).trans e1⟩
  ·obtain ⟨o', e1⟩ := I.base.there b o e hx
   exact ⟨o', (hs.2 b (Nat.ne_of_lt (Nat.lt_of_lt_of_le (Heap.lt_size e) I.ok.above))).trans e1⟩
  ·by_cases hj : j = i
   ·subst hj
    rw [hi] at e1; cases e1
    rw [List.getElem?_set_self hiσ] at e2
    cases e2
    exact ⟨u, r, .inl ⟨hk, by simp⟩⟩
   ·rw [List.getElem?_set_ne (Ne.symm hj)] at e2
    obtain ⟨u', r', q⟩ := hl j y v' e1 e2 e3
    refine ⟨u', r', ?_⟩
    rcases q with ⟨k, e⟩ | ⟨k, c, e, z⟩
    ·refine .inl ⟨k, ?_⟩
     have : y ≠ x := fun e => hj (nodup_ix hN e1 (e ▸ hi))
     simp [this, e]
    ·exact .inr ⟨k, c, e, z.sameBut hs (cne y c e)⟩
  ·obtain ⟨w', z⟩ := I.cell y c e
   exact ⟨w', z.sameBut hs (cne y c e)⟩
  ·obtain ⟨e, n, ne, nf, d⟩ := I.pin p hp
   exact ⟨(hs.2 p.1 ne).trans e, n, ne, nf, d⟩
 ·have hfn : X.fn x = true := by
   rcases hf with z | z
   ·exact z
   ·rw [z] at hk; cases hk
  obtain ⟨c, hc⟩ := I.ok.has x (.inl hk)
  obtain ⟨w', z⟩ := I.cell x c hc
  refine wpAny_storeName_cell I.ok.kind hk hc z (fun h' hc' hs => ?_)
  obtain ⟨oc, hoc, hocd⟩ := id z
  refine h { s with heap := h' } ⟨I.ok, I.os, I.bare, ⟨fun b o e n hb hx => ?_, fun b o e n hb hx => ?_, I.base.free, fun b o e hx => ?_, I.base.tups, I.base.frzs, I.base.tbls⟩, ⟨m, hn.sameBut hs (Ne.symm (cne x c hc)), fun j y v' e1 e2 e3 => ?_⟩, fun y c' e => ?_, I.free, I.freeC, fun p hp => ?_, tracked ⟨oc, hoc, I.freeC x c hc⟩ hs, by simpa using I.len⟩ ⟨c, hs, .inr hc⟩
  ·exact (hs.2 b (Nat.ne_of_lt (Nat.lt_of_lt_of_le (Heap.lt_size e) (I.ok.cab x c hfn hc)))).trans (I.base.keep b o e n hb hx)
  ·obtain ⟨sl, e1⟩ := I.base.slot b o e n hb hx
   exact ⟨sl, (hs.2 b (Nat.ne_of_lt (Nat.lt_of_lt_of_le (Heap.lt_size e) (I.ok.cab x c hfn hc)))).trans e1⟩
  ·obtain ⟨o', e1⟩ := I.base.there b o e hx
   exact ⟨o', (hs.2 b (Nat.ne_of_lt (Nat.lt_of_lt_of_le (Heap.lt_size e) (I.ok.cab x c hfn hc)))).trans e1⟩
  ·by_cases hj : j = i
   ·subst hj
    rw [hi] at e1; cases e1
    rw [List.getElem?_set_self hiσ] at e2
    cases e2
    exact ⟨u, r, .inr ⟨.inl hk, c, hc, hc'⟩⟩
   ·rw [List.getElem?_set_ne (Ne.symm hj)] at e2
    obtain ⟨u', r', q⟩ := hl j y v' e1 e2 e3
    refine ⟨u', r', ?_⟩
    rcases q with q | ⟨k, c', e, z'⟩
    ·exact .inl q
    ·refine .inr ⟨k, c', e, z'.sameBut hs ?_⟩
     rintro rfl
     exact hj (nodup_ix hN e1 (I.ok.inj _ _ _ e hc ▸ hi))
  ·by_cases hcc : c' = c
   ·subst hcc; exact ⟨_, hc'⟩
   ·obtain ⟨w2, z2⟩ := I.cell y c' e
    exact ⟨w2, z2.sameBut hs hcc⟩
  ·obtain ⟨e, n, ne, nf, d⟩ := I.pin p hp
   refine ⟨(hs.2 p.1 ?_).trans e, n, ne, nf, d⟩
   intro q
   rw [q, hoc] at e
   have q' : oc = p.2 := Option.some.inj e
   exact d w' (by rw [← q']; exact hocd)
theorem store_ok {M : Model} {A : Around} {E : Value → Shared → Prop} {i : Nat} {x : Str} {v : V} {u : Value} {Q : Unit → Shared → Prop} (I : Inv X pins σ H s) (hN : X.N.Nodup) (hi : X.N[i]? = some x) (hx : Loc X.env.scope x) (r : RelV v u)
  (h : ∀ s', Inv X pins (σ.set i (some v)) H s' → Q () s') (hf : X.fn x = true ∨ X.env.scope.names.lookup x = some .local := by first | exact .inl rfl | exact .inr rfl | assumption) : wpAny M A (storeName X.env x u) Q E s :=
 store_ok2 I hN hi hx r (fun s' I' _ => h s' I') hf
theorem Inv.call' {s' : Shared} {ch : List Addr} (I : Inv X pins σ H s) (ho : s'.os = s.os) (u : Un (frs X.stack) ch H H' s.heap s'.heap) (hok : HOk X.prog X.w H' s'.heap) (hg : AllBare s'.gens)
  (hch : ∀ b ∈ ch, (b ∈ X.ex ∨ X.s₀.heap.objs.size ≤ b) ∧ b ≠ X.env.locals ∧ (∀ x c, X.env.cells.lookup x = some c → c ≠ b) ∧ ∀ p ∈ X.pn ++ pins, p.1 ≠ b) : Inv X pins σ H' s' := by
 obtain ⟨h', g', d', t', o'⟩ := s'
 have e : o' = s.os := ho
 subst e
 exact I.call (g' := g') (t' := t') (d' := d') u hok hg hch
end
noncomputable abbrev XK := Value → Option Addr → Hp → Prop
noncomputable abbrev St := List (Option V)
noncomputable abbrev VK := V → Hp → Prop
noncomputable abbrev TE := St → Hp → VK → Prop
noncomputable abbrev TT := St → Hp → (Bool → Hp → Prop) → Prop
noncomputable abbrev TA := St → Hp → (List V → Hp → Prop) → Prop
structure Ends where
 nx : St → Hp → Prop
 rt : VK
 bk : St → Hp → Prop := fun _ _ => False
 ct : St → Hp → Prop := fun _ _ => False
noncomputable abbrev TS := Ends → St → Hp → Prop
noncomputable def EP (X : Cx) (pins : List (Addr × Obj)) (σ : St) (Q : VK) (u : Value) (s' : Shared) : Prop := ∃ v H', Inv X pins σ H' s' ∧ RelV v u ∧ Q v H'
noncomputable def TP (X : Cx) (pins : List (Addr × Obj)) (σ : St) (Q : Bool → Hp → Prop) (b : Bool) (s' : Shared) : Prop := ∃ H', Inv X pins σ H' s' ∧ Q b H'
noncomputable def AP (X : Cx) (pins : List (Addr × Obj)) (σ : St) (Q : List V → Hp → Prop) (us : List Value) (s' : Shared) : Prop := ∃ vs H', Inv X pins σ H' s' ∧ Vals vs us ∧ Q vs H'
noncomputable def SP (X : Cx) (pins : List (Addr × Obj)) (D : Ends) (f : Flow) (s' : Shared) : Prop :=
 match f with
 | .next => ∃ σ' H', Inv X pins σ' H' s' ∧ D.nx σ' H'
 | .brk => ∃ σ' H', Inv X pins σ' H' s' ∧ D.bk σ' H'
 | .cont => ∃ σ' H', Inv X pins σ' H' s' ∧ D.ct σ' H'
 | .ret u => ∃ v σ' H', Inv X pins σ' H' s' ∧ RelV v u ∧ D.rt v H'
noncomputable def PE (X : Cx) (e : Expr) (t : TE) : Prop :=
 ∀ (pins : List (Addr × Obj)) (s : Shared) (σ : St) (H : Hp) (Q : VK), Inv X pins σ H s → t σ H Q → wpAny (model X.prog X.w) X.A (eval e X.env) (EP X pins σ Q) X.xe s
noncomputable def PT (X : Cx) (e : Expr) (t : TT) : Prop :=
 ∀ (pins : List (Addr × Obj)) (s : Shared) (σ : St) (H : Hp) (Q : Bool → Hp → Prop), Inv X pins σ H s → t σ H Q → wpAny (model X.prog X.w) X.A (isTrue e X.env (eval e X.env)) (TP X pins σ Q) X.xe s
noncomputable def PW (X : Cx) (e : Expr) (t : TT) : Prop :=
 ∀ (whole : Sem Value) (pins : List (Addr × Obj)) (s : Shared) (σ : St) (H : Hp) (Q : Bool → Hp → Prop), Inv X pins σ H s → t σ H Q → wpAny (model X.prog X.w) X.A (isTrue e X.env whole) (TP X pins σ Q) X.xe s
theorem PW.pt {X : Cx} {e : Expr} {t : TT} (h : PW X e t) : PT X e t := h _
noncomputable def PA (X : Cx) (es : List Expr) (t : TA) : Prop :=
 ∀ (pos : Pos) (pins : List (Addr × Obj)) (s : Shared) (σ : St) (H : Hp) (Q : List V → Hp → Prop), Inv X pins σ H s → t σ H Q → wpAny (model X.prog X.w) X.A (spliced (backTo pos (starEach es X.env))) (AP X pins σ Q) X.xe s
noncomputable def PS (X : Cx) (st : Stmt) (t : TS) : Prop :=
 ∀ (pins : List (Addr × Obj)) (s : Shared) (σ : St) (H : Hp) (D : Ends), Inv X pins σ H s → t D σ H → wpAny (model X.prog X.w) X.A (exec st X.env) (SP X pins D) X.xe s
noncomputable def PSs (X : Cx) (st : List Stmt) (t : TS) : Prop :=
 ∀ (pins : List (Addr × Obj)) (s : Shared) (σ : St) (H : Hp) (D : Ends), Inv X pins σ H s → t D σ H → wpAny (model X.prog X.w) X.A (execs st X.env) (SP X pins D) X.xe s
theorem thn {α : Type} {t : Sem α} {Q Q' : α → Shared → Prop} {M : Model} {A : Around} {E : Value → Shared → Prop} {s : Shared} (h : wpAny M A t Q E s) (hQ : ∀ a s, Q a s → Q' a s) : wpAny M A t Q' E s := wpAny_mono h hQ fun _ _ x => x
end L2
namespace L2
open PySem PySem.Spec PyProof.Rows
section
variable {X : Cx}
noncomputable def tVar (i : Nat) : TE := fun σ H Q => ∃ v, σ[i]? = some (some v) ∧ Q v H
noncomputable def tC (v : V) : TE := fun _ H Q => Q v H
theorem pe_var {i : Nat} {x : Str} {pos : Pos} (hN : X.N[i]? = some x) (hv : Vis X.env.scope x) (hd : (x == ("__debug__" : Str)) = false := by decide) (hcd : (x == ("__classdict__" : Str)) = false := by decide) : PE X (.Name x pos) (tVar i) := by
 intro pins s σ H Q I h
 obtain ⟨v, e, h⟩ := h
 obtain ⟨m, hn, hl⟩ := I.loc
 obtain ⟨u, r, l⟩ := hl i x v hN e hv
 have fin : EP X pins σ Q u s := ⟨v, H, I, r, h⟩
 rcases l with ⟨hk, hm⟩ | ⟨hk, c, hc, hcell⟩
 ·exact wpAny_Name (wpAny_loadName_local I.ok.kind hk hn hm fin) hd
 ·rcases hk with hk | hk
  ·exact wpAny_Name (wpAny_loadName_cell I.ok.kind hk hc hcell fin) hd
  ·exact wpAny_Name (wpAny_loadName_free I.ok.kind hk hc hcell fin hcd) hd
theorem pe_int {i j pos} : PE X (.Constant (.int i) j pos) (tC (.int i)) := fun _ _ _ H _ I h => wpAny_Constant_int ⟨.int i, H, I.tok _, ⟨_, rfl⟩, h⟩
theorem pe_bl {b j pos} : PE X (.Constant (.bool b) j pos) (tC (.bl b)) := fun _ _ _ H _ I h => Constant_bool ⟨.bl b, H, I, rfl, h⟩
theorem pe_non {j pos} : PE X (.Constant .none j pos) (tC .non) := fun _ _ _ H _ I h => Constant_none ⟨.non, H, I, rfl, h⟩
theorem pe_str {x j pos} : PE X (.Constant (.str x) j pos) (tC (.str x)) := fun _ _ _ H _ I h => Calls.Constant_str ⟨.str x, H, I.tok _, ⟨_, rfl⟩, h⟩
noncomputable def Gl (X : Cx) (x : Str) : Prop := X.env.kindOf x = some .globalImplicit
theorem ld_glob {E : Value → Shared → Prop} {pins : List (Addr × Obj)} {s : Shared} {σ : St} {H : Hp} {x : Str} {u : Value} {pos : Pos} {Q : Value → Shared → Prop} (I : Inv X pins σ H s) (hg : Gl X x) (hm : X.mg x = some u) (h : Q u s)
  (hd : (x == ("__debug__" : Str)) = false := by decide) : wpAny (model X.prog X.w) X.A (eval (.Name x pos) X.env) Q E s :=
 Calls.Name_function_global I.ok.kind hg (Calls.loadGlobal_global (by rw [I.ok.glob]; exact I.mod.glob.keeps I.bk) hm h) hd
theorem ld_blt {E : Value → Shared → Prop} {pins : List (Addr × Obj)} {s : Shared} {σ : St} {H : Hp} {x : Str} {u : Value} {pos : Pos} {Q : Value → Shared → Prop} (I : Inv X pins σ H s) (hg : Gl X x) (hm : X.mg x = none) (hv : bootBuiltins x = some u) (h : Q u s)
  (hn : x ≠ "__name__" := by decide) (hd : (x == ("__debug__" : Str)) = false := by decide) : wpAny (model X.prog X.w) X.A (eval (.Name x pos) X.env) Q E s := by
 obtain ⟨mb, h1, h2⟩ := I.mod.blt
 exact Calls.Name_function_global I.ok.kind hg (Calls.loadGlobal_builtin (by rw [I.ok.glob]; exact I.mod.glob.keeps I.bk) hm (by rw [I.ok.blt]; exact h1.keeps I.bk) ((h2 x hn).trans hv) h) hd
theorem pe_glob {x : Str} {v : V} {u : Value} {pos : Pos} (hg : Gl X x) (hm : X.mg x = some u) (r : RelV v u) (hd : (x == ("__debug__" : Str)) = false := by decide) : PE X (.Name x pos) (tC v) :=
 fun _ _ _ H _ I h => ld_glob I hg hm ⟨v, H, I, r, h⟩ hd
variable {a b : Expr} {ta tb : TE} {pos : Pos}
noncomputable def PC (X : Cx) (op : CmpOp) (a b : Expr) (t : TE) : Prop :=
 ∀ (pins : List (Addr × Obj)) (s : Shared) (σ : St) (H : Hp) (Q : VK), Inv X pins σ H s → t σ H Q →
  wpAny (model X.prog X.w) X.A (eval a X.env) (fun v s₁ => wpAny (model X.prog X.w) X.A (eval b X.env) (fun u s₂ => wpAny (model X.prog X.w) X.A (compareOp op v u) (EP X pins σ Q) X.xe s₂) X.xe s₁) X.xe s
noncomputable def tB (t : TE) : TT := fun σ H Q => t σ H fun x H1 => ∃ c, x = .bl c ∧ Q c H1
theorem pt_cmp {op : CmpOp} {t : TE} (h : PC X op a b t) (h1 : behindInMarks op b = false := by first | exact nobehind _ (by decide) (by decide) | rfl) : PT X (.Compare a [op] [b] pos) (tB t) := by
 intro pins s σ H Q I hw
 refine wpAny_isTrue_Compare1 (thn (h pins s σ H _ I hw) fun v s1 h1 => thn h1 fun u s2 h2 => thn h2 fun c s3 zz0 => ?_) h1
 obtain ⟨x, H1, I1, r1, q1⟩ := zz0
 obtain ⟨d, rfl, q⟩ := q1
 cases r1
 exact wpAny_truthy_bool ⟨H1, I1, q⟩
theorem pt_val {e : Expr} {t : TE} (h : PE X e t) (he : ∀ whole, isTrue e X.env whole = (do let v ← whole; standAt e.pos; holding [v] (truthy v)) := by intro _; rfl) : PT X e (tB t) := by
 intro pins s σ H Q I hw
 refine isTrue_plain (thn (h pins s σ H _ I hw) fun v s1 zz1 => ?_) (he _)
 obtain ⟨x, H1, I1, r1, q1⟩ := zz1
 obtain ⟨d, rfl, q⟩ := q1
 cases r1
 exact wpAny_truthy_bool ⟨H1, I1, q⟩
variable {tA tB' : TT} {rest : List Expr}
noncomputable def tAnd (t u : TT) : TT := fun σ H Q => t σ H fun c H1 => if c = true then u σ H1 Q else Q false H1
noncomputable def tOr (t u : TT) : TT := fun σ H Q => t σ H fun c H1 => if c = true then Q true H1 else u σ H1 Q
noncomputable def tNot (t : TT) : TT := fun σ H Q => t σ H fun c H1 => Q (!c) H1
theorem pw_and1 (ha : PT X a tA) : PW X (.BoolOp .And [a] pos) tA := by
 intro wh pins s σ H Q I h
 refine isTrue_and (thn (ha pins s σ H Q I h) fun c s1 e => ?_)
 cases c with
 | true => exact isTrue_and_nil e
 | false => exact e
theorem pw_or1 (ha : PT X a tA) : PW X (.BoolOp .Or [a] pos) tA := by
 intro wh pins s σ H Q I h
 refine isTrue_or (thn (ha pins s σ H Q I h) fun c s1 e => ?_)
 cases c with
 | false => exact isTrue_or_nil e
 | true => exact e
theorem pw_and (ha : PT X a tA) (hb : PW X (.BoolOp .And (b :: rest) pos) tB') : PW X (.BoolOp .And (a :: b :: rest) pos) (tAnd tA tB') := by
 intro wh pins s σ H Q I h
 refine isTrue_and (thn (ha pins s σ H _ I h) fun c s1 zz9 => ?_)
 obtain ⟨H1, I1, q1⟩ := zz9
 cases c with
 | true => exact hb wh pins s1 σ H1 Q I1 q1
 | false => exact ⟨H1, I1, q1⟩
theorem pw_or (ha : PT X a tA) (hb : PW X (.BoolOp .Or (b :: rest) pos) tB') : PW X (.BoolOp .Or (a :: b :: rest) pos) (tOr tA tB') := by
 intro wh pins s σ H Q I h
 refine isTrue_or (thn (ha pins s σ H _ I h) fun c s1 zz9 => ?_)
 obtain ⟨H1, I1, q1⟩ := zz9
 cases c with
 | true => exact ⟨H1, I1, q1⟩
 | false => exact hb wh pins s1 σ H1 Q I1 q1
theorem pt_not (ha : PT X a tA) : PT X (.UnaryOp .Not a pos) (tNot tA) := by
 intro pins s σ H Q I h
 exact isTrue_not (ha pins s σ H (fun c H1 => Q (!c) H1) I h)
noncomputable def tAndV (ta tb : TE) : TE := fun σ H Q => ta σ H fun x H1 => ∃ c, x = .bl c ∧ if c = true then tb σ H1 Q else Q (.bl false) H1
theorem pe_one {op} {t : TE} (h : PE X a t) : PE X (.BoolOp op [a] pos) t := fun pins s σ H Q I hw => BoolOp_one (h pins s σ H Q I hw)
theorem pe_and (ha : PE X a ta) (hb : PE X (.BoolOp .And (b :: rest) pos) tb) : PE X (.BoolOp .And (a :: b :: rest) pos) (tAndV ta tb) := by
 intro pins s σ H Q I h
 refine BoolOp_and (thn (ha pins s σ H _ I h) fun v s1 zz9 => ?_)
 obtain ⟨x, H1, I1, r1, q1⟩ := zz9
 obtain ⟨c, rfl, q1⟩ := q1
 cases r1
 refine wpAny_truthy_bool ?_
 cases c with
 | true => exact hb pins s1 σ H1 Q I1 q1
 | false => exact ⟨.bl false, H1, I1, rfl, q1⟩
noncomputable def tIf (t : TT) (ta tb : TE) : TE := fun σ H Q => t σ H fun c H1 => if c = true then ta σ H1 Q else tb σ H1 Q
theorem pe_ifExp {c : Expr} (hc : PT X c tA) (ha : PE X a ta) (hb : PE X b tb) : PE X (.IfExp c a b pos) (tIf tA ta tb) := by
 intro pins s σ H Q I h
 refine wpAny_IfExp (thn (hc pins s σ H _ I h) fun d s1 zz9 => ?_)
 obtain ⟨H1, I1, q1⟩ := zz9
 cases d with
 | true => exact ha pins s1 σ H1 Q I1 q1
 | false => exact hb pins s1 σ H1 Q I1 q1
end
end L2
namespace L2
open PySem PySem.Spec PyProof.Rows
noncomputable def SqL (K : PySem.W.Frag) (H : Hp) (a : Addr) (xs : List V) : Prop :=
 Rd H a (.lst xs) ∨
  ∃ (o : Obj) (its : Array Value) (n : Nat), K.lookup a = some o ∧ o.cls = .type "list" ∧ o.dict = none ∧ o.data = .seq its n ∧ its.size ≤ sizeLine ∧ Vals xs its.toList
noncomputable def SqT (K : PySem.W.Frag) (H : Hp) (a : Addr) (xs : List V) : Prop :=
 Rd H a (.tup xs) ∨
  ∃ (o : Obj) (its : Array Value) (n : Nat), K.lookup a = some o ∧ o.cls = .type "tuple" ∧ o.data = .seq its n ∧ its.size ≤ sizeLine ∧ Vals xs its.toList
noncomputable def absV : Value → Option V
 | .none => some .non
 | .bool b => some (.bl b)
 | .int i _ => some (.int i)
 | .str x _ => some (.str x)
 | .bytes b _ => some (.byt b)
 | .float b _ => some (.flt b)
 | .ref a => some (.ref a)
 | .type n => some (.ty n)
 | _ => none
theorem RelV.abs {x : V} {u : Value} (r : RelV x u) : absV u = some x := by
 cases x with
 | non => cases r; rfl
 | bl _ => cases r; rfl
 | int _ => obtain ⟨t, rfl⟩ := r; rfl
 | str _ => obtain ⟨t, rfl⟩ := r; rfl
 | byt _ => obtain ⟨t, rfl⟩ := r; rfl
 | flt _ => obtain ⟨t, rfl⟩ := r; rfl
 | ref _ => cases r; rfl
 | ty _ => cases r; rfl
theorem RelV.inj {x y : V} {u : Value} (r : RelV x u) (q : RelV y u) : x = y := Option.some.inj (r.abs.symm.trans q.abs)
theorem Vals.inj : ∀ {xs ys : List V} {us : List Value}, Vals xs us → Vals ys us → xs = ys
 | _, _, _, .nil, .nil => rfl
 | _, _, _, .cons r t, .cons r' t' => by rw [r.inj r', Vals.inj t t']
section
variable {X : Cx} {pins : List (Addr × Obj)} {σ : St} {H : Hp} {s : Shared} {a : Addr} {xs ys : List V}
theorem SqL.of {K : PySem.W.Frag} (h : H a = some (.lst xs)) : SqL K H a xs := .inl (.inl h)
theorem SqT.of {K : PySem.W.Frag} (h : H a = some (.tup xs)) : SqT K H a xs := .inl (.inl h)
theorem Inv.list (I : Inv X pins σ H s) (h : SqL X.K H a xs) : ∃ its : List Value, Vals xs its ∧ PlainL s.heap a its.toArray ∧ xs.length ≤ sizeLine := by
 rcases h with h | ⟨o, its, n, hk, hc, hd, hs, hz, r⟩
 ·obtain ⟨z, its, n, r, e⟩ := h.ok I.hok
  exact ⟨its, r, ⟨_, n, e, rfl, rfl, rfl⟩, z⟩
 ·refine ⟨its.toList, r, ⟨o, n, I.kIn a o hk, hc, hd, by simpa using hs⟩, ?_⟩
  have e := r.length
  simp only [Array.length_toList] at e
  omega
theorem Inv.tuple (I : Inv X pins σ H s) (h : SqT X.K H a xs) : ∃ its : List Value, Vals xs its ∧ IsTup s.heap a its.toArray ∧ xs.length ≤ sizeLine := by
 rcases h with h | ⟨o, its, n, hk, hc, hs, hz, r⟩
 ·obtain ⟨z, its, r, p⟩ := h.ok I.hok
  exact ⟨its, r, p, z⟩
 ·refine ⟨its.toList, r, ⟨o, I.kIn a o hk, hc, n, by simpa using hs⟩, ?_⟩
  have e := r.length
  simp only [Array.length_toList] at e
  omega
theorem Inv.list_inj (I : Inv X pins σ H s) (h : SqL X.K H a xs) (h' : SqL X.K H a ys) : xs = ys := by
 obtain ⟨its, r, ⟨o, n, e, _, _, d⟩, _⟩ := I.list h
 obtain ⟨its', r', ⟨o', n', e', _, _, d'⟩, _⟩ := I.list h'
 rw [e] at e'; cases e'
 rw [d] at d'
 injection d' with d1 _
 have : its = its' := by simpa using congrArg Array.toList d1
 subst this
 exact r.inj r'
theorem Inv.tuple_inj (I : Inv X pins σ H s) (h : SqT X.K H a xs) (h' : SqT X.K H a ys) : xs = ys := by
 obtain ⟨its, r, ⟨o, e, _, n, d⟩, _⟩ := I.tuple h
 obtain ⟨its', r', ⟨o', e', _, n', d'⟩, _⟩ := I.tuple h'
 rw [e] at e'; cases e'
 rw [d] at d'
 injection d' with d1 _
 have : its = its' := by simpa using congrArg Array.toList d1
 subst this
 exact r.inj r'
end
noncomputable abbrev Cx.wish (X : Cx) (E : Value → Shared → Prop) : Cx := { X with xe := E }
noncomputable abbrev Cx.nox (X : Cx) : Cx := X.wish fun _ _ => False
theorem Cx.Ok.wish {X : Cx} (ok : X.Ok) (E : Value → Shared → Prop) : (X.wish E).Ok :=
 ⟨ok.mod, ok.kind, ok.glob, ok.blt, ok.above, ok.inj, ok.has, ok.cab, ok.hd, ok.frames, ok.stk, ok.exf, ok.bs, ok.bsz, ok.noex, ok.exfs, ok.funs, ok.frf⟩
theorem Cx.Ok.unwish {X : Cx} {E : Value → Shared → Prop} (ok : (X.wish E).Ok) : X.Ok :=
 ⟨ok.mod, ok.kind, ok.glob, ok.blt, ok.above, ok.inj, ok.has, ok.cab, ok.hd, ok.frames, ok.stk, ok.exf, ok.bs, ok.bsz, ok.noex, ok.exfs, ok.funs, ok.frf⟩
section
variable {X : Cx} {pins : List (Addr × Obj)} {σ : St} {H : Hp} {s : Shared} {E : Value → Shared → Prop}
theorem Inv.wish (I : Inv X pins σ H s) (E : Value → Shared → Prop) : Inv (X.wish E) pins σ H s := ⟨I.ok.wish E, I.os, I.bare, I.base, I.loc, I.cell, I.free, I.freeC, I.pin, I.hok, I.len⟩
theorem Inv.unwish (I : Inv (X.wish E) pins σ H s) : Inv X pins σ H s := ⟨I.ok.unwish, I.os, I.bare, I.base, I.loc, I.cell, I.free, I.freeC, I.pin, I.hok, I.len⟩
theorem SP.unwish {D : Ends} {f : Flow} {s' : Shared} (h : SP (X.wish E) pins D f s') : SP X pins D f s' := by
 cases f with
 | next => obtain ⟨σ', H', I, q⟩ := h; exact ⟨σ', H', I.unwish, q⟩
 | brk => obtain ⟨σ', H', I, q⟩ := h; exact ⟨σ', H', I.unwish, q⟩
 | cont => obtain ⟨σ', H', I, q⟩ := h; exact ⟨σ', H', I.unwish, q⟩
 | ret u => obtain ⟨v, σ', H', I, r, q⟩ := h; exact ⟨v, σ', H', I.unwish, r, q⟩
theorem PSs.nox {st : List Stmt} {t : TS} (h : PSs X.nox st t) : PSs X st t := fun pins s σ H D I hw =>
 wpAny_mono (h pins s σ H D (I.wish _) hw) (fun _ _ q => q.unwish) fun _ _ z => False.elim z
end
section
variable {X : Cx} {st : Stmt} {rest : List Stmt} {t u : TS} {e : Expr} {te : TE} {pos : Pos}
noncomputable def tNext : TS := fun D σ H => D.nx σ H
noncomputable def tSeq (t u : TS) : TS := fun D σ H => t { D with nx := u D } σ H
theorem pss_nil : PSs X [] tNext := fun _ _ σ H _ I h => wpAny_execs_nil ⟨σ, H, I, h⟩
theorem pss_cons (h1 : PS X st t) (h2 : PSs X rest u) : PSs X (st :: rest) (tSeq t u) := by
 intro pins s σ H D I h
 refine wpAny_execs_cons (thn (h1 pins s σ H { D with nx := u D } I h) fun f s1 q => ?_)
 cases f with
 | next =>
  obtain ⟨σ', H', I', q⟩ := q
  exact h2 pins s1 σ' H' D I' q
 | ret v => exact q
 | brk => exact q
 | cont => exact q
theorem pss_one (h1 : PS X st t) : PSs X [st] t := by
 intro pins s σ H D I h
 refine wpAny_execs_cons (thn (h1 pins s σ H D I h) fun f s1 q => ?_)
 cases f with
 | next => exact wpAny_execs_nil q
 | ret v => exact q
 | brk => exact q
 | cont => exact q
theorem Inv.quiet {pins : List (Addr × Obj)} {σ : St} {H : Hp} {s : Shared} (I : Inv X pins σ H s) : interactive X.env = false := by simp [interactive, I.ok.kind]
noncomputable def tDrop (te : TE) : TS := fun D σ H => te σ H fun _ H1 => D.nx σ H1
theorem ps_expr (he : PE X e te) (hs : swapsWith e none pos.line X.env = pure false := by rfl) : PS X (.Expr e pos) (tDrop te) := by
 intro pins s σ H D I h
 refine wpAny_Expr_any (thn (he pins s σ H _ I h) fun v s1 zz2 => ?_) I.quiet hs
 obtain ⟨x, H1, I1, r1, q1⟩ := zz2
 exact ⟨σ, H1, I1, q1⟩
noncomputable def tRet (te : TE) : TS := fun D σ H => te σ H D.rt
theorem ps_ret (he : PE X e te) : PS X (.Return (some e) pos) (tRet te) := by
 intro pins s σ H D I h
 refine wpAny_Return_some (thn (he pins s σ H _ I h) fun v s1 zz3 => ?_)
 obtain ⟨x, H1, I1, r1, q1⟩ := zz3
 exact ⟨x, σ, H1, I1, r1, q1⟩
noncomputable def tIfS (c : TT) (t u : TS) : TS := fun D σ H => c σ H fun b H1 => if b = true then t D σ H1 else u D σ H1
theorem ps_if {c : Expr} {a b : List Stmt} {tc : TT} (hc : PT X c tc) (ha : PSs X a t) (hb : PSs X b u) : PS X (.If c a b pos) (tIfS tc t u) := by
 intro pins s σ H D I h
 refine wpAny_If (thn (hc pins s σ H _ I h) fun d s1 zz9 => ?_)
 obtain ⟨H1, I1, q1⟩ := zz9
 cases d with
 | true => exact ha pins s1 σ H1 D I1 q1
 | false => exact hb pins s1 σ H1 D I1 q1
noncomputable def tNever : TS := fun _ _ _ => False
theorem pss_never {sts : List Stmt} : PSs X sts tNever := fun _ _ _ _ _ _ h => h.elim
end
noncomputable abbrev TG := V → St → Hp → (St → Hp → Prop) → Prop
noncomputable abbrev TGs := List V → St → Hp → (St → Hp → Prop) → Prop
noncomputable def PG (X : Cx) (target : Expr) (t : TG) : Prop :=
 ∀ (pins : List (Addr × Obj)) (s : Shared) (σ : St) (H : Hp) (v : V) (u : Value) (Q : St → Hp → Prop), Inv X pins σ H s → RelV v u → t v σ H Q →
  wpAny (model X.prog X.w) X.A (assign target X.env u) (fun _ s' => ∃ σ' H', Inv X pins σ' H' s' ∧ Q σ' H') X.xe s
noncomputable def PGs (X : Cx) (ts : List Expr) (t : TGs) : Prop :=
 ∀ (pins : List (Addr × Obj)) (s : Shared) (σ : St) (H : Hp) (vs : List V) (us : List Value) (Q : St → Hp → Prop), Inv X pins σ H s → Vals vs us → t vs σ H Q →
  wpAny (model X.prog X.w) X.A (assignInOrder ((assignEach ts X.env).map (·.2)) us) (fun _ s' => ∃ σ' H', Inv X pins σ' H' s' ∧ Q σ' H') X.xe s
noncomputable abbrev TSet := V → V → V → Hp → (Hp → Prop) → Prop
noncomputable def PSet (X : Cx) (t : TSet) : Prop :=
 ∀ (pins : List (Addr × Obj)) (s : Shared) (σ : St) (H : Hp) (o i v : V) (ov iv u : Value) (Q : Hp → Prop), Inv X pins σ H s → RelV o ov → RelV i iv → RelV v u → t o i v H Q →
  wpAny (model X.prog X.w) X.A (setItem ov iv u) (fun _ s' => ∃ H', Inv X pins σ H' s' ∧ Q H') X.xe s
section
variable {X : Cx} {pos : Pos}
noncomputable def gName (i : Nat) : TG := fun v σ H Q => Q (σ.set i (some v)) H
theorem pg_name {i : Nat} {x : Str} (hN : X.N.Nodup) (hi : X.N[i]? = some x) (hx : Loc X.env.scope x) (hf : X.fn x = true ∨ X.env.scope.names.lookup x = some .local := by first | exact .inl rfl | exact .inr rfl | assumption) : PG X (.Name x pos) (gName i) := by
 intro pins s σ H v u Q I r h
 exact wpAny_assign_Name (store_ok I hN hi hx r (fun s' I' => ⟨_, H, I', h⟩) hf)
noncomputable def gNil : TGs := fun vs σ H Q => vs = [] ∧ Q σ H
noncomputable def gCons (t : TG) (u : TGs) : TGs := fun vs σ H Q => ∃ v r, vs = v :: r ∧ t v σ H fun σ' H' => u r σ' H' Q
theorem pgs_nil : PGs X [] gNil := by
 intro pins s σ H vs us Q I r h
 obtain ⟨e, h⟩ := h
 subst e
 cases r
 exact assignInOrder_nil ⟨σ, H, I, h⟩
theorem pgs_cons {e : Expr} {es : List Expr} {t : TG} {u : TGs} (h1 : PG X e t) (h2 : PGs X es u)
  (hs : (assignEach (e :: es) X.env).map (·.2) = assign e X.env :: (assignEach es X.env).map (·.2) := by rfl) : PGs X (e :: es) (gCons t u) := by
 intro pins s σ H vs us Q I r h
 obtain ⟨v, vr, e1, h⟩ := h
 subst e1
 cases r with
 | cons r rr =>
  rw [hs]
  refine assignInOrder_cons (thn (h1 pins s σ H _ _ _ I r h) fun _ s1 zz9 => ?_)
  obtain ⟨σ1, H1, I1, q1⟩ := zz9
  exact h2 pins s1 σ1 H1 _ _ Q I1 rr q1
noncomputable def gTup (K : PySem.W.Frag) (n : Nat) (t : TGs) : TG := fun v σ H Q => ∃ a xs, v = .ref a ∧ SqT K H a xs ∧ xs.length = n ∧ t xs σ H Q
theorem pg_tup {es : List Expr} {k : Nat} {t : TGs} {n : Nat} (hc : X.calm = true) (h : PGs X es t)
  (hn : (assignEach es X.env).length = n := by rfl) (hst : (assignEach es X.env).findIdx? (·.1) = none := by rfl) : PG X (.Tuple es k pos) (gTup X.K n t) := by
 intro pins s σ H v u Q I r hw
 obtain ⟨a, xs, e1, hq, hl, hw⟩ := hw
 subst e1
 cases r
 obtain ⟨its, rv, ht, hz⟩ := I.tuple hq
 refine assign_Tuple_tuple (I.ok.hd hc) ht (by simp [hn, ← hl, rv.length]) hst fun h' hx => ?_
 have I1 : Inv X pins σ H { s with heap := h' } := I.kept (t' := s.toks) fun b o e => hx b o (Nat.ne_of_lt (Heap.lt_size e)) e
 exact h pins _ σ H xs _ Q I1 (by simpa using rv) hw
noncomputable def gSub (to ti : TE) (t : TSet) : TG := fun v σ H Q => to σ H fun o H1 => ti σ H1 fun i H2 => t o i v H2 fun H3 => Q σ H3
theorem pg_sub {o i : Expr} {to ti : TE} {t : TSet} (ho : PE X o to) (hi : PE X i ti) (hs : PSet X t)
  (ha : ∀ v, assign (.Subscript o i pos) X.env v = (do
   let ov ← holding [v] (eval o X.env)
   let iv ← holding [v, ov] (eval i X.env)
   standAt pos
   holding [v, ov, iv] (setItem ov iv v)
   release [v, ov, iv] []) := by intro _; rfl) : PG X (.Subscript o i pos) (gSub to ti t) := by
 intro pins s σ H v u Q I r h
 rw [ha]
 refine wpAny_bind (wpAny_holding (thn (ho pins s σ H _ I h) fun ov s1 zz9 => ?_))
 obtain ⟨x, H1, I1, r1, q1⟩ := zz9
 refine wpAny_bind (wpAny_holding (thn (hi pins s1 σ H1 _ I1 q1) fun iv s2 zz9 => ?_))
 obtain ⟨y, H2, I2, r2, q2⟩ := zz9
 refine wpAny_bind (wpAny_standAt (wpAny_bind (wpAny_holding (thn (hs pins s2 σ H2 x y v ov iv u _ I2 r1 r2 r q2) fun _ s3 zz9 => ?_))))
 obtain ⟨H3, I3, q3⟩ := zz9
 exact wpAny_release ⟨σ, H3, I3, q3⟩
noncomputable def tAsg (te : TE) (g : TG) : TS := fun D σ H => te σ H fun x H1 => g x σ H1 D.nx
theorem ps_asg {tg e : Expr} {te : TE} {g : TG} (he : PE X e te) (hg : PG X tg g) (hs : swapsWithSole [tg] e pos.line X.env = pure false := by rfl) (hw : swappedStores [tg] e X.env = pure none := by rfl)
  (h1 : (assignEach [tg] X.env).map (·.2) = [assign tg X.env] := by rfl) : PS X (.Assign [tg] e pos) (tAsg te g) := by
 intro pins s σ H D I h
 refine wpAny_Assign_stores (thn (he pins s σ H _ I h) fun v s1 zz4 => ?_) hs hw
 obtain ⟨x, H1, I1, r1, q1⟩ := zz4
 rw [h1]
 exact thn (hg pins s1 σ H1 x v _ I1 r1 q1) fun _ s2 q => q
theorem ps_set {i : Nat} {x : Str} {e : Expr} {te : TE} {pos' : Pos} (hN : X.N.Nodup) (hi : X.N[i]? = some x) (hx : Loc X.env.scope x) (he : PE X e te) (hs : swapsWith e (some (.Name x pos')) pos.line X.env = pure false := by rfl) (hf : X.fn x = true ∨ X.env.scope.names.lookup x = some .local := by first | exact .inl rfl | exact .inr rfl | assumption) :
  PS X (.Assign [.Name x pos'] e pos) (tAsg te (gName i)) := by
 intro pins s σ H D I h
 refine wpAny_Assign_Name (thn (he pins s σ H _ I h) fun v s1 zz5 => ?_) hs
 obtain ⟨y, H1, I1, r1, q1⟩ := zz5
 exact store_ok I1 hN hi hx r1 (fun s2 I2 => ⟨_, H1, I2, q1⟩) hf
noncomputable def tPar (i j : Nat) (ta : TA) : TS := fun D σ H => ta σ H fun vs H1 => ∃ v w, vs = [v, w] ∧ D.nx ((σ.set i (some v)).set j (some w)) H1
theorem ps_par {i j : Nat} {x y : Str} {a b : Expr} {ta : TA} {px py pt : Pos} {kt k2 pt2} (hc : X.calm = true) (hN : X.N.Nodup) (hi : X.N[i]? = some x) (hj : X.N[j]? = some y) (hij : i ≠ j)
  (hx : X.env.scope.names.lookup x = some .local) (hy : X.env.scope.names.lookup y = some .local) (ha : PA X [a, b] ta)
  (hw : swappedStores [.Tuple [.Name x px, .Name y py] kt pt] (.Tuple [a, b] k2 pt2) X.env = pure (some [x, y]))
  (hs : swapsWithSole [.Tuple [.Name x px, .Name y py] kt pt] (.Tuple [a, b] k2 pt2) pos.line X.env = pure false := by rfl) :
  PS X (.Assign [.Tuple [.Name x px, .Name y py] kt pt] (.Tuple [a, b] k2 pt2) pos) (tPar i j ta) := by
 intro pins s σ H D I h
 rw [exec_Assign_arm]
 refine wpAny_bind (wpAny_standAt ?_)
 rw [hs]
 refine wpAny_bind (wpAny_pure ?_)
 rw [if_neg (by decide)]
 refine wpAny_bind (Tuple_ (thn (ha _ pins s σ H _ I h) fun us s1 zz9 => ?_))
 obtain ⟨vs, H1, I1, r1, q1⟩ := zz9
 obtain ⟨v, w, e1, q1⟩ := q1
 subst e1
 obtain ⟨u1, u2, rfl, rv, rw'⟩ : ∃ u1 u2, us = [u1, u2] ∧ RelV v u1 ∧ RelV w u2 := by
  cases r1 with
  | cons p q =>
   cases q with
   | cons p' q' =>
    cases q'
    exact ⟨_, _, rfl, p, p'⟩
 refine wpAny_newObj_type ?_ (by show 2 ≤ sizeLine; decide)
 have I2 : Inv X pins σ H1 { s1 with heap := s1.heap.push { cls := .type "tuple", data := .seq [u1, u2].toArray } } := I1.kept (t' := s1.toks) fun b o e => Heap.get?_push_of_some _ e
 rw [hw]
 refine wpAny_bind (wpAny_pure ?_)
 show wpAny (model X.prog X.w) X.A (do rule "assign.swapped-stores"; let items ← unpackItems (.ref s1.heap.objs.size) 2 none; assignInOrder [fun v => bindName X.env y v, fun v => bindName X.env x v] items.reverse; pure Flow.next) _ _ _
 refine wpAny_bind (wpAny_rule (wpAny_bind (unpackItems_tuple (items := #[u1, u2]) (I.ok.hd hc) (IsTup.new s1.heap _) fun h' hx' => ?_)))
 have I3 := I2.kept (h' := h') (t' := s1.toks) fun b o e => hx' b o (Nat.ne_of_lt (Heap.lt_size e)) e
 show wpAny _ _ (assignInOrder [fun v => bindName X.env y v, fun v => bindName X.env x v] [u2, u1] >>= fun _ => pure Flow.next) _ _ _
 refine wpAny_bind (assignInOrder_cons (wpAny_bindName (store_ok I3 hN hj (.inl hy) rw' (fun s2 I4 => ?_) (.inr hy))))
 refine assignInOrder_cons (wpAny_bindName (store_ok I4 hN hi (.inl hx) rv (fun s3 I5 => assignInOrder_nil (wpAny_pure ?_)) (.inr hx)))
 rw [List.set_comm _ _ (Ne.symm hij)] at I5
 exact ⟨_, H1, I5, q1⟩
end
section
variable {X : Cx} {pos : Pos}
noncomputable def tWhile (c : TT) (tb : TS) : TS := fun D σ H => ∃ W : Nat → St → Hp → Prop, (∃ m, W m σ H) ∧ ∀ m σ H, W m σ H →
 c σ H fun b H1 => if b = true then ∃ N : St → Hp → Prop, (∀ σ' H', N σ' H' → ∃ m', m' < m ∧ W m' σ' H') ∧ tb { D with nx := N, ct := N, bk := D.nx } σ H1 else D.nx σ H1
theorem ps_while {c : Expr} {body : List Stmt} {tc : TT} {tb : TS} (hp : PassesOwn (model X.prog X.w) X.A X.env X.xe) (hc : PT X c tc) (hb : PSs X body tb) : PS X (.While c body [] pos) (tWhile tc tb) := by
 intro pins s σ H D I h
 obtain ⟨W, ⟨m0, w0⟩, turn⟩ := h
 refine wpAny_While (codeAny_whileLoop (fun n s' => ∃ σ' H', Inv X pins σ' H' s' ∧ W n σ' H') ?_ m0 ⟨σ, H, I, w0⟩)
 rintro n s1 ⟨σ1, H1, I1, w1⟩
 refine wpAny_passesOwn hp (thn (hc pins s1 σ1 H1 _ I1 (turn n σ1 H1 w1)) fun b s2 zz9 => ?_)
 obtain ⟨H2, I2, q2⟩ := zz9
 cases b with
 | true =>
  obtain ⟨N, hN, q2⟩ := q2
  rw [if_pos rfl]
  refine wpAny_passesOwn hp (thn (hb pins s2 σ1 H2 _ I2 q2) fun f s3 q3 => ?_)
  cases f with
  | next =>
   obtain ⟨σ3, H3, I3, n3⟩ := q3
   obtain ⟨m', hm, w3⟩ := hN σ3 H3 n3
   exact ⟨m', hm, σ3, H3, I3, w3⟩
  | cont =>
   obtain ⟨σ3, H3, I3, n3⟩ := q3
   obtain ⟨m', hm, w3⟩ := hN σ3 H3 n3
   exact ⟨m', hm, σ3, H3, I3, w3⟩
  | brk => exact q3
  | ret v => exact q3
 | false =>
  rw [if_neg Bool.false_ne_true]
  exact wpAny_execs_nil ⟨σ1, H2, I2, q2⟩
end
structure It where
 go : Nat → Hp → Prop
 yld : Nat → Hp → V → Hp → Prop
 stop : Nat → Hp → Prop
noncomputable def FpOk (X : Cx) (pins : List (Addr × Obj)) (H : Hp) (b : Addr) : Prop :=
 H b = none ∧ b ≠ X.env.locals ∧ b ∉ X.fs ∧ (b ∈ X.ex ∨ X.s₀.heap.objs.size ≤ b) ∧ (∀ x c, X.env.cells.lookup x = some c → c ≠ b) ∧ ∀ p ∈ X.pn ++ pins, p.1 ≠ b
theorem Inv.fpOk {X : Cx} {pins : List (Addr × Obj)} {σ : St} {H H' : Hp} {s : Shared} {b : Addr} (I : Inv X pins σ H s) (hb : s.heap.objs.size ≤ b) (hn : H' b = none) : FpOk X pins H' b := by
 refine ⟨hn, Nat.ne_of_gt (Nat.lt_of_lt_of_le I.lt hb), I.nofs hb, .inr (Nat.le_trans I.sz hb), fun x c e z => ?_, fun p hp z => ?_⟩
 ·obtain ⟨v, q⟩ := I.cell x c e
  exact absurd (Nat.lt_of_lt_of_le q.lt (by rw [z]; exact hb)) (Nat.lt_irrefl _)
 ·exact absurd (Nat.lt_of_lt_of_le (Heap.lt_size (I.pin p hp).1) (by rw [z]; exact hb)) (Nat.lt_irrefl _)
structure Turn (P : Program) (w : World) (K : PySem.W.Frag) (tg : Expr) (J : It) (fp : List Addr) (it : Addr) (tn : Nat → Heap → Prop) : Prop where
 mem : it ∈ fp
 obj : ∀ i h, tn i h → ∀ b ∈ fp, ∃ o, h.get? b = some o ∧ ∀ v, o.data ≠ .cell v
 keep : ∀ i h h', tn i h → (∀ b ∈ fp, ∀ o, h.get? b = some o → h'.get? b = some o) → tn i h'
 item : ∀ (X : Cx), X.prog = P → X.w = w → X.K = K → X.calm = true → ∀ (i : Nat) (pins : List (Addr × Obj)) (s : Shared) (σ : St) (H : Hp) (E : Value → Shared → Prop), Inv X pins σ H s → (∀ b ∈ fp, FpOk X pins H b) → tn i s.heap → J.go i H →
  wpAny (model P w) X.A (pyNext (.ref it)) (fun r s1 => ∃ u, r = some u ∧
   wpAny (model P w) X.A (letOwnedTupleGo tg (.ref it) u) (fun _ s2 => ∃ x H', Inv X pins σ H' s2 ∧ RelV x u ∧ J.yld i H x H' ∧ tn (i + 1) s2.heap ∧ ∀ b ∈ fp, H' b = none) E s1) E s
 done : ∀ (X : Cx), X.prog = P → X.w = w → X.K = K → X.calm = true → ∀ (i : Nat) (pins : List (Addr × Obj)) (s : Shared) (σ : St) (H : Hp) (E : Value → Shared → Prop), Inv X pins σ H s → (∀ b ∈ fp, FpOk X pins H b) → tn i s.heap → J.stop i H →
  wpAny (model P w) X.A (pyNext (.ref it)) (fun r s1 => r = none ∧ Inv X pins σ H s1) E s
 self : ∀ (A : Around) (i : Nat) (s : Shared) (Q : Value → Shared → Prop) (E : Value → Shared → Prop), tn i s.heap → Q (.ref it) s → wpAny (model P w) A (pyIter (.ref it)) Q E s
noncomputable abbrev TI := St → Hp → (It → Hp → Prop) → Prop
noncomputable def PIE (X : Cx) (pins : List (Addr × Obj)) (σ : St) (tg : Expr) (R : It → Hp → Prop) (itv : Value) (s2 : Shared) : Prop :=
 ∃ (it : Addr) (fp : List Addr) (tn : Nat → Heap → Prop) (J : It) (H' : Hp), itv = .ref it ∧ Inv X pins σ H' s2 ∧ Turn X.prog X.w X.K tg J fp it tn ∧ tn 0 s2.heap ∧ (∀ b ∈ fp, FpOk X pins H' b) ∧ R J H'
noncomputable def PI (X : Cx) (tg iter : Expr) (wi : TI) : Prop :=
 ∀ (pins : List (Addr × Obj)) (s : Shared) (σ : St) (H : Hp) (R : It → Hp → Prop), Inv X pins σ H s → wi σ H R →
  wpAny (model X.prog X.w) X.A (eval iter X.env) (fun v s1 => wpAny (model X.prog X.w) X.A (pyIter v) (PIE X pins σ tg R) X.xe s1) X.xe s
theorem go_of {M : Model} {A : Around} {E : Value → Shared → Prop} {s : Shared} {tg : Expr} {it : Addr} {u : Value} {o : Obj} {n : String} {vs : Array Value} {Q : Unit → Shared → Prop} (ho : s.heap.get? it = some o) (hc : o.cls = .type n) (hd : o.data = .fields vs)
    (hn : ["enumerate", "zip", "dict_itemiterator", "dict_reverseitemiterator", "odict_iterator", "itertools.zip_longest", "itertools.pairwise"].contains n = false) (hQ : Q () s) : wpAny M A (letOwnedTupleGo tg (.ref it) u) Q E s := by
  unfold letOwnedTupleGo
  cases tg <;> first
    | exact wpAny_pure hQ
    | (cases u <;> first
        | exact wpAny_pure hQ
        | (refine wpAny_bind (wpAny_load ho ?_)
           rw [hc, hd]
           show wpAny M A (if (["enumerate", "zip", "dict_itemiterator", "dict_reverseitemiterator", "odict_iterator", "itertools.zip_longest", "itertools.pairwise"].contains n && vs[0]? == some (rawInt _)) = true then _ else _) Q E s
           rw [if_neg (by intro h; rw [hn, Bool.false_and] at h; cases h)]
           exact wpAny_pure hQ))
noncomputable def Itl (K : PySem.W.Frag) (a : Addr) : It :=
 ⟨fun i H => ∃ xs x, SqL K H a xs ∧ xs[i]? = some x, fun i H x H' => H' = H ∧ ∀ xs, SqL K H a xs → xs[i]? = some x, fun i H => ∃ xs, SqL K H a xs ∧ xs.length ≤ i⟩
noncomputable def Itt (K : PySem.W.Frag) (a : Addr) : It :=
 ⟨fun i H => ∃ xs x, SqT K H a xs ∧ xs[i]? = some x, fun i H x H' => H' = H ∧ ∀ xs, SqT K H a xs → xs[i]? = some x, fun i H => ∃ xs, SqT K H a xs ∧ xs.length ≤ i⟩
noncomputable def Itr (lo : Int) (n : Nat) : It := ⟨fun i _ => i < n, fun i H x H' => H' = H ∧ x = .int (lo + i), fun i _ => n ≤ i⟩
theorem turn_list {P : Program} {w : World} {K : PySem.W.Frag} {tg : Expr} (a it : Addr) : Turn P w K tg (Itl K a) [it] it (fun i h => h.IsListIter it a i) where
 mem := by simp
 obj := fun i h st b hb => by
  have e : b = it := by simpa using hb
  subst e
  obtain ⟨o, e, c, d⟩ := st
  exact ⟨o, e, fun v z => by rw [d] at z; cases z⟩
 keep := fun i h h' st k => st.at fun o e => k it (by simp) o e
 item := by
  intro X hP hw hK hc i pins s σ H E I hf st hg
  subst hP hw hK
  obtain ⟨xs, x, hq, hx⟩ := hg
  obtain ⟨its, rv, p, hz⟩ := I.list hq
  obtain ⟨u, hu, ru⟩ := rv.get hx
  obtain ⟨f0, f1, f2, f3, f4, f5⟩ := hf it (by simp)
  refine wpAny_pyNext_list_item st p.isList (x := u) (by simpa using hu) fun h' st' sb => ?_
  have I1 : Inv X pins σ H { s with heap := h' } := I.turned (t' := s.toks) (fun b o hb e => (sb.2 b hb).trans e) f0 f1 f3 f4 f5
  obtain ⟨o, e, c, d⟩ := id st'
  exact ⟨u, rfl, go_of (s := { s with heap := h' }) e c d (by decide) ⟨x, H, I1, ru, ⟨rfl, fun ys hy => by rw [I.list_inj hy hq]; exact hx⟩, st', fun b hb => (hf b hb).1⟩⟩
 done := by
  intro X hP hw hK hc i pins s σ H E I hf st hg
  subst hP hw hK
  obtain ⟨xs, hq, hx⟩ := hg
  obtain ⟨its, rv, p, hz⟩ := I.list hq
  obtain ⟨f0, f1, f2, f3, f4, f5⟩ := hf it (by simp)
  have hl := rv.length
  exact wpAny_pyNext_list_end (I.ok.hd hc) st p.isList (by simp; omega) fun h' eb => ⟨rfl, I.turned (t' := s.toks) (fun b o hb e => eb b o hb e) f0 f1 f3 f4 f5⟩
 self := fun _ _ _ _ _ st h => wpAny_pyIter_listiter st h
theorem turn_tuple {P : Program} {w : World} {K : PySem.W.Frag} {tg : Expr} (a it : Addr) : Turn P w K tg (Itt K a) [it] it (fun i h => h.IsTupleIter it a i) where
 mem := by simp
 obj := fun i h st b hb => by
  have e : b = it := by simpa using hb
  subst e
  obtain ⟨o, e, c, d⟩ := st
  exact ⟨o, e, fun v z => by rw [d] at z; cases z⟩
 keep := fun i h h' st k => st.at fun o e => k it (by simp) o e
 item := by
  intro X hP hw hK hc i pins s σ H E I hf st hg
  subst hP hw hK
  obtain ⟨xs, x, hq, hx⟩ := hg
  obtain ⟨its, rv, p, hz⟩ := I.tuple hq
  obtain ⟨u, hu, ru⟩ := rv.get hx
  obtain ⟨f0, f1, f2, f3, f4, f5⟩ := hf it (by simp)
  refine wpAny_pyNext_tuple_item st (show s.heap.IsTuple a its.toArray from p) (x := u) (by simpa using hu) fun h' st' sb => ?_
  have I1 : Inv X pins σ H { s with heap := h' } := I.turned (t' := s.toks) (fun b o hb e => (sb.2 b hb).trans e) f0 f1 f3 f4 f5
  obtain ⟨o, e, c, d⟩ := id st'
  exact ⟨u, rfl, go_of (s := { s with heap := h' }) e c d (by decide) ⟨x, H, I1, ru, ⟨rfl, fun ys hy => by rw [I.tuple_inj hy hq]; exact hx⟩, st', fun b hb => (hf b hb).1⟩⟩
 done := by
  intro X hP hw hK hc i pins s σ H E I hf st hg
  subst hP hw hK
  obtain ⟨xs, hq, hx⟩ := hg
  obtain ⟨its, rv, p, hz⟩ := I.tuple hq
  obtain ⟨f0, f1, f2, f3, f4, f5⟩ := hf it (by simp)
  have hl := rv.length
  exact wpAny_pyNext_tuple_end (I.ok.hd hc) st (show s.heap.IsTuple a its.toArray from p) (by simp; omega) fun h' eb => ⟨rfl, I.turned (t' := s.toks) (fun b o hb e => eb b o hb e) f0 f1 f3 f4 f5⟩
 self := fun _ _ _ _ _ st h => wpAny_pyIter_tupleiter st h
theorem turn_range {P : Program} {w : World} {K : PySem.W.Frag} {tg : Expr} (it : Addr) (lo : Int) (n : Nat) : Turn P w K tg (Itr lo n) [it] it (fun i h => IsRangeIter h it (lo + (i : Nat) * 1) ((n : Int) - (i : Nat)) 1) where
 mem := by simp
 obj := fun i h st b hb => by
  have e : b = it := by simpa using hb
  subst e
  exact ⟨_, st, fun v z => by
   have z' : Data.fields _ = Data.cell v := z
   cases z'⟩
 keep := fun i h h' st k => k it (by simp) _ st
 item := by
  intro X hP hw hK hc i pins s σ H E I hf st hg
  subst hP hw hK
  obtain ⟨f0, f1, f2, f3, f4, f5⟩ := hf it (by simp)
  have W := Walks.range (prog := X.prog) (w := X.w) (I.ok.hd hc) it lo 1 n
  refine W.item i s _ _ hg st fun v h' tk hv st' kk => ?_
  obtain ⟨t, rfl⟩ := hv
  have I1 : Inv X pins σ H { s with heap := h', toks := tk } := I.turned (fun b o hb e => kk b o (by simpa using hb) e) f0 f1 f3 f4 f5
  refine ⟨_, rfl, go_of (s := { s with heap := h', toks := tk }) (n := "range_iterator") st' rfl rfl (by decide) ⟨.int (lo + i), H, I1, ⟨t, ?_⟩, ⟨rfl, rfl⟩, st', fun b hb => (hf b hb).1⟩⟩
  rw [Int.mul_one]
 done := by
  intro X hP hw hK hc i pins s σ H E I hf st hg
  subst hP hw hK
  obtain ⟨f0, f1, f2, f3, f4, f5⟩ := hf it (by simp)
  exact wpAny_pyNext_range_end (I.ok.hd hc) st (by have : n ≤ i := hg; omega) fun h' eb => ⟨rfl, I.turned (t' := s.toks) (fun b o hb e => eb b o hb e) f0 f1 f3 f4 f5⟩
 self := fun _ _ _ _ _ st h => wpAny_pyIter_rangeiter st h
end L2
namespace L2
open PySem PySem.Spec PyProof.Rows
section
variable {X : Cx} {tg : Expr}
noncomputable def iList (K : PySem.W.Frag) (tl : TE) : TI := fun σ H R => tl σ H fun x H1 => ∃ a, x = .ref a ∧ (∃ xs, SqL K H1 a xs) ∧ R (Itl K a) H1
noncomputable def iTup (K : PySem.W.Frag) (tl : TE) : TI := fun σ H R => tl σ H fun x H1 => ∃ a, x = .ref a ∧ (∃ xs, SqT K H1 a xs) ∧ R (Itt K a) H1
theorem pi_list {l : Expr} {tl : TE} (hl : PE X l tl) : PI X tg l (iList X.K tl) := by
 intro pins s σ H R I h
 refine thn (hl pins s σ H _ I h) fun v s1 zz9 => ?_
 obtain ⟨x, H1, I1, r1, q1⟩ := zz9
 obtain ⟨a, e, ⟨xs, hq⟩, q⟩ := q1
 subst e
 cases r1
 obtain ⟨its, rv, p, hz⟩ := I1.list hq
 refine wpAny_pyIter_list p.isList ?_
 refine ⟨s1.heap.objs.size, [s1.heap.objs.size], _, _, H1, rfl, I1.kept (t' := s1.toks) fun b o e => Heap.get?_push_of_some _ e, turn_list a _, ⟨_, Heap.get?_push_size _ rfl, rfl, rfl⟩, fun b hb => ?_, q⟩
 have e : b = s1.heap.objs.size := by simpa using hb
 subst e
 exact I1.fpOk (Nat.le_refl _) (I1.hok.fresh (Nat.le_refl _))
theorem pi_tup {l : Expr} {tl : TE} (hl : PE X l tl) : PI X tg l (iTup X.K tl) := by
 intro pins s σ H R I h
 refine thn (hl pins s σ H _ I h) fun v s1 zz9 => ?_
 obtain ⟨x, H1, I1, r1, q1⟩ := zz9
 obtain ⟨a, e, ⟨xs, hq⟩, q⟩ := q1
 subst e
 cases r1
 obtain ⟨its, rv, p, hz⟩ := I1.tuple hq
 refine wpAny_pyIter_tuple (show s1.heap.IsTuple a its.toArray from p) ?_
 refine ⟨s1.heap.objs.size, [s1.heap.objs.size], _, _, H1, rfl, I1.kept (t' := s1.toks) fun b o e => Heap.get?_push_of_some _ e, turn_tuple a _, ⟨_, Heap.get?_push_size _ rfl, rfl, rfl⟩, fun b hb => ?_, q⟩
 have e : b = s1.heap.objs.size := by simpa using hb
 subst e
 exact I1.fpOk (Nat.le_refl _) (I1.hok.fresh (Nat.le_refl _))
theorem range_it {pins : List (Addr × Obj)} {σ : St} {H : Hp} {s : Shared} {R : It → Hp → Prop} {E : Value → Shared → Prop} {lo hi : Int} {t u v : Tok} {tk : Nat} (I : Inv X pins σ H s) (h1 : -(2 ^ 62) ≤ lo) (h2 : lo < 2 ^ 62) (h3 : -(2 ^ 62) ≤ hi) (h4 : hi < 2 ^ 62)
  (q : R (Itr lo (hi - lo).toNat) H) : wpAny (model X.prog X.w) X.A (pyIter (.ref s.heap.objs.size)) (PIE X pins σ tg R) E { s with heap := s.heap.push { cls := .type "range", data := .fields #[.int lo t, .int hi u, .int 1 v] }, toks := tk } := by
 refine wpAny_pyIter_range (IsRange.new ..) (small_one h1 h2 h3 h4) ?_
 have I1 : Inv X pins σ H { s with heap := s.heap.push { cls := .type "range", data := .fields #[.int lo t, .int hi u, .int 1 v] }, toks := tk } := I.kept fun b o e => Heap.get?_push_of_some _ e
 refine ⟨(s.heap.push { cls := .type "range", data := .fields #[.int lo t, .int hi u, .int 1 v] }).objs.size, [(s.heap.push { cls := .type "range", data := .fields #[.int lo t, .int hi u, .int 1 v] }).objs.size], _, _, H, rfl,
  I1.kept (t' := tk) fun b o e => Heap.get?_push_of_some _ e, turn_range _ lo (hi - lo).toNat, ?_, fun b hb => ?_, q⟩
 ·have e1 : lo + ((0 : Nat) : Int) * 1 = lo := by simp
  have e2 : (((hi - lo).toNat : Nat) : Int) - ((0 : Nat) : Int) = Builtin.Range.rangeSize lo hi 1 := by rw [rangeSize_one]; split <;> omega
  show IsRangeIter _ _ (lo + ((0 : Nat) : Int) * 1) ((((hi - lo).toNat : Nat) : Int) - ((0 : Nat) : Int)) 1
  rw [e1, e2]
  exact Heap.get?_push_size _ rfl
 ·have e : b = (s.heap.push { cls := .type "range", data := .fields #[.int lo t, .int hi u, .int 1 v] }).objs.size := by simpa using hb
  subst e
  exact I1.fpOk (Nat.le_refl _) (I1.hok.fresh (Nat.le_refl _))
noncomputable def iRng1 (ta : TA) : TI := fun σ H R => ta σ H fun vs H1 => ∃ j : Int, vs = [.int j] ∧ -(2 ^ 62) ≤ j ∧ j < 2 ^ 62 ∧ R (Itr 0 j.toNat) H1
theorem pi_range1 {a : Expr} {ta : TA} {p pos : Pos} (hg : Gl X "range") (hm : X.mg "range" = none) (ha : PA X [a] ta) (hs : starEach [a] X.env = [(false, eval a X.env)] := by rfl) : PI X tg (.Call (.Name "range" p) [a] [] pos) (iRng1 ta) := by
 intro pins s σ H R I h
 refine Call_ (ld_blt I hg hm boot_range (PyProof.Rows.callWith_type1 (thn (ha pos pins s σ H _ I h) fun us s1 zz6 => ?_) hs rfl))
 obtain ⟨vs, H1, I1, r1, q1⟩ := zz6
 obtain ⟨j, e, q1, q2, q⟩ := q1
 subst e
 cases r1 with
 | cons r rr =>
  cases rr
  obtain ⟨t, rfl⟩ := r
  exact call_range_1 (range_it I1 (by omega) (by omega) q1 q2 (by simpa using q))
noncomputable def tFor (wi : TI) (g : TG) (tb : TS) : TS := fun D σ H => wi σ H fun J H1 => ∃ W : Nat → Nat → St → Hp → Prop, (∃ m, W 0 m σ H1) ∧ ∀ i m σ H, W i m σ H →
 (J.stop i H ∧ D.nx σ H) ∨ (J.go i H ∧ ∃ N : St → Hp → Prop, (∀ σ' H', N σ' H' → ∃ m', m' < m ∧ W (i + 1) m' σ' H') ∧ ∀ x H', J.yld i H x H' → g x σ H' fun σ2 H2 => tb { D with nx := N, ct := N, bk := D.nx } σ2 H2)
noncomputable def pinsAt (fp : List Addr) (h : Heap) : List (Addr × Obj) := fp.filterMap fun b => (h.get? b).map fun o => (b, o)
theorem mem_pinsAt {fp : List Addr} {h : Heap} {b : Addr} {o : Obj} (hb : b ∈ fp) (e : h.get? b = some o) : (b, o) ∈ pinsAt fp h := List.mem_filterMap.mpr ⟨b, hb, by rw [e]; rfl⟩
theorem of_pinsAt {fp : List Addr} {h : Heap} {p : Addr × Obj} (hp : p ∈ pinsAt fp h) : p.1 ∈ fp ∧ h.get? p.1 = some p.2 := by
 obtain ⟨b, hb, e⟩ := List.mem_filterMap.mp hp
 cases q : h.get? b with
 | none => rw [q] at e; cases e
 | some o =>
  rw [q] at e
  have e' : (b, o) = p := Option.some.inj e
  subst e'
  exact ⟨hb, q⟩
theorem Inv.pinned {pins : List (Addr × Obj)} {σ : St} {H : Hp} {s : Shared} {fp : List Addr} (I : Inv X pins σ H s) (hf : ∀ b ∈ fp, FpOk X pins H b) (ho : ∀ b ∈ fp, ∃ o, s.heap.get? b = some o ∧ ∀ v, o.data ≠ .cell v) : Inv X (pins ++ pinsAt fp s.heap) σ H s :=
 I.pins_of fun p hp => (List.mem_append.mp hp).elim (fun z => I.pin p (List.mem_append_right _ z)) fun z => by
  obtain ⟨hb, e⟩ := of_pinsAt z
  obtain ⟨f0, f1, f2, _⟩ := hf p.1 hb
  obtain ⟨o, e', d⟩ := ho p.1 hb
  rw [e] at e'; cases e'
  exact ⟨e, f0, f1, f2, d⟩
theorem Inv.unpinned {pins pl : List (Addr × Obj)} {σ : St} {H : Hp} {s : Shared} (I : Inv X (pins ++ pl) σ H s) : Inv X pins σ H s := I.pins_of fun p hp => I.pin p (List.mem_append_right _ (List.mem_append_left _ hp))
theorem ps_for {iter : Expr} {body : List Stmt} {wi : TI} {g : TG} {tb : TS} {pos : Pos} (hp : PassesOwn (model X.prog X.w) X.A X.env X.xe) (hc : X.calm = true) (hi : PI X tg iter wi) (hg : PG X tg g) (hb : PSs X body tb)
  (hs : ∀ x, foldedSetIterable iter X.env x = pure x := by intro _; rfl) : PS X (.For tg iter body [] pos) (tFor wi g tb) := by
 intro pins s σ H D I h
 refine wpAny_For (thn (hi pins s σ H _ I h) fun v s1 h1 => thn h1 fun itv s2 h2 => ?_) hs
 obtain ⟨it, fp, tn, J, H2, e, I2, T, st2, f2, W, ⟨m0, w0⟩, turn⟩ := h2
 subst e
 have stat : ∀ {H' : Hp}, (∀ b ∈ fp, H' b = none) → ∀ b ∈ fp, FpOk X pins H' b := fun hn b hb => ⟨hn b hb, (f2 b hb).2⟩
 refine codeAny_forLoop_any (fun n s' => ∃ i σ' H', Inv X pins σ' H' s' ∧ tn i s'.heap ∧ (∀ b ∈ fp, H' b = none) ∧ W i n σ' H') ?_ m0 ⟨0, σ, H2, I2, st2, fun b hb => (f2 b hb).1, w0⟩
 rintro n s3 ⟨i, σ3, H3, I3, st3, fr3, w3⟩
 rcases turn i n σ3 H3 w3 with ⟨stop, qn⟩ | ⟨go, N, hN, step⟩
 ·refine wpAny_passesOwn hp (thn (T.done X rfl rfl rfl hc i pins s3 σ3 H3 X.xe I3 (stat fr3) st3 stop) fun r s4 ⟨hr, I4⟩ => ?_)
  subst hr
  exact wpAny_execs_nil ⟨σ3, H3, I4, qn⟩
 ·refine wpAny_passesOwn hp (thn (T.item X rfl rfl rfl hc i pins s3 σ3 H3 X.xe I3 (stat fr3) st3 go) fun r s4 ⟨u, hr, h4⟩ => ?_)
  subst hr
  refine wpAny_passesOwn hp (thn h4 fun _ s5 zz9 => ?_)
  obtain ⟨x, H5, I5, r5, y5, st5, fr5⟩ := zz9
  have I5' := I5.pinned (stat fr5) (T.obj _ _ st5)
  refine wpAny_passesOwn hp (thn (hg _ s5 σ3 H5 x u _ I5' r5 (step x H5 y5)) fun _ s6 zz9 => ?_)
  obtain ⟨σ6, H6, I6, q6⟩ := zz9
  refine wpAny_passesOwn hp (thn (hb _ s6 σ6 H6 _ I6 q6) fun f s7 q7 => ?_)
  have again : ∀ {σ7 : St} {H7 : Hp}, Inv X (pins ++ pinsAt fp s5.heap) σ7 H7 s7 → N σ7 H7 → ∃ m, m < n ∧ ∃ i σ' H', Inv X pins σ' H' s7 ∧ tn i s7.heap ∧ (∀ b ∈ fp, H' b = none) ∧ W i m σ' H' := fun {σ7 H7} I7 n7 => by
   obtain ⟨m', hm, w7⟩ := hN σ7 H7 n7
   refine ⟨m', hm, i + 1, σ7, H7, I7.unpinned, T.keep _ _ _ st5 fun b hb o e => (I7.pin (b, o) (List.mem_append_right _ (List.mem_append_right _ (mem_pinsAt hb e)))).1, fun b hb => ?_, w7⟩
   obtain ⟨o, e, d⟩ := T.obj _ _ st5 b hb
   exact (I7.pin (b, o) (List.mem_append_right _ (List.mem_append_right _ (mem_pinsAt hb e)))).2.1
  cases f with
  | next => obtain ⟨σ7, H7, I7, n7⟩ := q7; exact again I7 n7
  | cont => obtain ⟨σ7, H7, I7, n7⟩ := q7; exact again I7 n7
  | brk => obtain ⟨σ7, H7, I7, q7⟩ := q7; exact ⟨σ7, H7, I7.unpinned, q7⟩
  | ret v => obtain ⟨x7, σ7, H7, I7, r7, q7⟩ := q7; exact ⟨x7, σ7, H7, I7.unpinned, r7, q7⟩
end
theorem for_range {lo : Int} {n : Nat} {g : TG} {tb : TS} {D : Ends} {σ : St} {H : Hp} (Pv : Nat → St → Hp → Prop) (h0 : Pv 0 σ H)
  (hs : ∀ i σ H, i < n → Pv i σ H → g (.int (lo + i)) σ H fun σ2 H2 => tb { D with nx := Pv (i + 1), ct := Pv (i + 1), bk := D.nx } σ2 H2) (hd : ∀ σ H, Pv n σ H → D.nx σ H) :
  ∃ W : Nat → Nat → St → Hp → Prop, (∃ m, W 0 m σ H) ∧ ∀ i m σ H, W i m σ H →
   ((Itr lo n).stop i H ∧ D.nx σ H) ∨ ((Itr lo n).go i H ∧ ∃ N : St → Hp → Prop, (∀ σ' H', N σ' H' → ∃ m', m' < m ∧ W (i + 1) m' σ' H') ∧ ∀ x H', (Itr lo n).yld i H x H' → g x σ H' fun σ2 H2 => tb { D with nx := N, ct := N, bk := D.nx } σ2 H2) := by
 refine ⟨fun i m σ H => m = n - i ∧ i ≤ n ∧ Pv i σ H, ⟨n, by simp, Nat.zero_le _, h0⟩, ?_⟩
 rintro i m σ H ⟨rfl, hi, p⟩
 by_cases hlt : i < n
 ·refine .inr ⟨hlt, Pv (i + 1), fun σ' H' p' => ⟨n - (i + 1), by omega, rfl, hlt, p'⟩, fun x H' y => ?_⟩
  obtain ⟨e, y⟩ := y
  subst e y
  exact hs i σ _ hlt p
 ·have e : i = n := by omega
  subst e
  exact .inl ⟨Nat.le_refl _, hd σ H p⟩
end L2
namespace L2
open PySem PySem.Spec PyProof.Rows
noncomputable abbrev R2 := V → V → Hp → VK → Prop
noncomputable def OpR (X : Cx) (f : Value → Value → Sem Value) (r : R2) : Prop :=
 ∀ (pins : List (Addr × Obj)) (s : Shared) (σ : St) (H : Hp) (x y : V) (v u : Value) (Q : VK), Inv X pins σ H s → RelV x v → RelV y u → r x y H Q →
  wpAny (model X.prog X.w) X.A (f v u) (EP X pins σ Q) X.xe s
noncomputable def CallR (X : Cx) (f : Value) (r : List V → Hp → VK → Prop) : Prop :=
 ∀ (pins : List (Addr × Obj)) (s : Shared) (σ : St) (H : Hp) (xs : List V) (us : List Value) (Q : VK), Inv X pins σ H s → Vals xs us → r xs H Q →
  wpAny (model X.prog X.w) X.A (call f us) (EP X pins σ Q) X.xe s
noncomputable def TruR (X : Cx) (r : V → Hp → (Bool → Hp → Prop) → Prop) : Prop :=
 ∀ (pins : List (Addr × Obj)) (s : Shared) (σ : St) (H : Hp) (x : V) (v : Value) (Q : Bool → Hp → Prop), Inv X pins σ H s → RelV x v → r x H Q →
  wpAny (model X.prog X.w) X.A (truthy v) (TP X pins σ Q) X.xe s
noncomputable def tOp (r : R2) (ta tb : TE) : TE := fun σ H Q => ta σ H fun x H1 => tb σ H1 fun y H2 => r x y H2 Q
noncomputable def rI (C : Int → Int → Prop) (g : Int → Int → V) : R2 := fun x y H Q => ∃ i j, x = .int i ∧ y = .int j ∧ C i j ∧ Q (g i j) H
noncomputable def rI0 (g : Int → Int → V) : R2 := fun x y H Q => ∃ i j, x = .int i ∧ y = .int j ∧ Q (g i j) H
section
variable {X : Cx} {a b c : Expr} {ta tb tc : TE} {pos : Pos}
theorem binT (ha : PE X a ta) (hb : PE X b tb) {pins : List (Addr × Obj)} {s : Shared} {σ : St} {H : Hp} {R : V → V → Hp → Prop} (I : Inv X pins σ H s)
  (h : ta σ H fun x H1 => tb σ H1 fun y H2 => R x y H2) {Q : Value → Shared → Prop} {f : Value → Value → Sem Value}
  (hf : ∀ v u s2 x y H2, Inv X pins σ H2 s2 → RelV x v → RelV y u → R x y H2 → wpAny (model X.prog X.w) X.A (f v u) Q X.xe s2) :
  wpAny (model X.prog X.w) X.A (eval a X.env) (fun v s₁ => wpAny (model X.prog X.w) X.A (eval b X.env) (fun u s₂ => wpAny (model X.prog X.w) X.A (f v u) Q X.xe s₂) X.xe s₁) X.xe s := by
 refine thn (ha pins s σ H _ I h) fun v s1 zz9 => ?_
 obtain ⟨x, H1, I1, r1, q1⟩ := zz9
 refine thn (hb pins s1 σ H1 _ I1 q1) fun u s2 zz9 => ?_
 obtain ⟨y, H2, I2, r2, q2⟩ := zz9
 exact hf v u s2 x y H2 I2 r1 r2 q2
theorem pe_op {op : Operator} {r : R2} (ho : OpR X (binaryOp op) r) (ha : PE X a ta) (hb : PE X b tb) : PE X (.BinOp a op b pos) (tOp r ta tb) := by
 intro pins s σ H Q I h
 exact wpAny_BinOp (binT ha hb I h fun v u s2 x y H2 I2 rx ry q => ho pins s2 σ H2 x y v u Q I2 rx ry q)
theorem opI {f : Value → Value → Sem Value} {C : Int → Int → Prop} {g : Int → Int → Int}
  (rule : ∀ (i j : Int) (t u : Tok) (s : Shared) (Q : Value → Shared → Prop) (E : Value → Shared → Prop), C i j → Q (.int (g i j) s.toks) { s with toks := s.toks + 1 } → wpAny (model X.prog X.w) X.A (f (.int i t) (.int j u)) Q E s) :
  OpR X f (rI C fun i j => .int (g i j)) := by
 intro pins s σ H x y v u Q I rx ry h
 obtain ⟨i, j, rfl, rfl, hc, q⟩ := h
 obtain ⟨t, rfl⟩ := rx
 obtain ⟨t', rfl⟩ := ry
 exact rule i j t t' s _ _ hc ⟨.int (g i j), H, I.tok _, ⟨_, rfl⟩, q⟩
theorem opI0 {f : Value → Value → Sem Value} {g : Int → Int → Int}
  (rule : ∀ (i j : Int) (t u : Tok) (s : Shared) (Q : Value → Shared → Prop) (E : Value → Shared → Prop), Q (.int (g i j) s.toks) { s with toks := s.toks + 1 } → wpAny (model X.prog X.w) X.A (f (.int i t) (.int j u)) Q E s) :
  OpR X f (rI0 fun i j => .int (g i j)) := by
 intro pins s σ H x y v u Q I rx ry h
 obtain ⟨i, j, rfl, rfl, q⟩ := h
 obtain ⟨t, rfl⟩ := rx
 obtain ⟨t', rfl⟩ := ry
 exact rule i j t t' s _ _ ⟨.int (g i j), H, I.tok _, ⟨_, rfl⟩, q⟩
theorem opB0 {f : Value → Value → Sem Value} {g : Int → Int → Bool}
  (rule : ∀ (i j : Int) (t u : Tok) (s : Shared) (Q : Value → Shared → Prop) (E : Value → Shared → Prop), Q (.bool (g i j)) s → wpAny (model X.prog X.w) X.A (f (.int i t) (.int j u)) Q E s) :
  OpR X f (rI0 fun i j => .bl (g i j)) := by
 intro pins s σ H x y v u Q I rx ry h
 obtain ⟨i, j, rfl, rfl, q⟩ := h
 obtain ⟨t, rfl⟩ := rx
 obtain ⟨t', rfl⟩ := ry
 exact rule i j t t' s _ _ ⟨.bl (g i j), H, I, rfl, q⟩
noncomputable def CDiv (i j : Int) : Prop := 0 < j ∧ j < 1073741824
noncomputable def CPow (i j : Int) : Prop := 0 ≤ j ∧ j ≤ 1000000 ∧ i.natAbs < 2 ^ 64
noncomputable def CMul (i j : Int) : Prop := (-(2 ^ 64) < i ∧ i < 2 ^ 64) ∨ (-(2 ^ 64) < j ∧ j < 2 ^ 64)
theorem CMul.ok {i j : Int} (h : CMul i j) : IntMulOk i j := by
 rcases h with ⟨h1, h2⟩ | ⟨h1, h2⟩
 ·exact .of_left (intBits_le_64 h1 h2)
 ·exact .of_right (intBits_le_64 h1 h2)
theorem op_add : OpR X (binaryOp .Add) (rI0 fun i j => .int (i + j)) := opI0 fun _ _ _ _ _ _ _ q => add_int q
theorem op_sub : OpR X (binaryOp .Sub) (rI0 fun i j => .int (i - j)) := opI0 fun _ _ _ _ _ _ _ q => sub_int q
theorem op_mul : OpR X (binaryOp .Mult) (rI CMul fun i j => .int (i * j)) := opI fun _ _ _ _ _ _ _ hc q => mul_int q hc.ok
theorem op_fdiv : OpR X (binaryOp .FloorDiv) (rI CDiv fun i j => .int (i / j)) := opI fun i j _ _ _ _ _ hc q => by
 have h1 : (0 : Int) < j := hc.1
 have h2 : j < 1073741824 := hc.2
 exact floordiv_int (by omega) (by rw [Int.fdiv_eq_ediv_of_nonneg i (by omega)]; exact q) (.inl (PyProof.noPylong_small (by omega)))
theorem op_mod : OpR X (binaryOp .Mod) (rI (fun _ j => 0 < j) fun i j => .int (i % j)) := opI fun i j _ _ _ _ _ hc q => by
 have h1 : (0 : Int) < j := hc
 exact mod_int' (by omega) (by rw [Int.fmod_eq_emod_of_nonneg i (by omega)]; exact q)
theorem op_pow : OpR X (binaryOp .Pow) (rI CPow fun i j => .int (i ^ j.toNat)) := opI fun _ _ _ _ _ _ _ hc q => pow_int_small hc.1 hc.2.1 hc.2.2 q
end
noncomputable def scal : V → V → Bool
 | .non, .non => true | .non, .int _ => true | .int _, .non => true | .non, .bl _ => true | .bl _, .non => true | .non, .str _ => true | .str _, .non => true
 | .int _, .int _ => true | .bl _, .bl _ => true | .str _, .str _ => true | .byt _, .byt _ => true
 | .int _, .str _ => true | .str _, .int _ => true | .bl _, .str _ => true | .str _, .bl _ => true
 | _, _ => false
noncomputable def rEq : R2 := fun x y H Q => scal x y = true ∧ Q (.bl (decide (x = y))) H
noncomputable def rNe : R2 := fun x y H Q => scal x y = true ∧ Q (.bl (!decide (x = y))) H
theorem dec_int {i j : Int} : decide (V.int i = V.int j) = (i == j) := by
 rw [Bool.eq_iff_iff]
 simp
theorem dec_bl {i j : Bool} : decide (V.bl i = V.bl j) = (i == j) := by
 rw [Bool.eq_iff_iff]
 simp
theorem dec_str {i j : Str} : decide (V.str i = V.str j) = (i == j) := by
 rw [Bool.eq_iff_iff]
 simp
theorem dec_byt {i j : Array UInt8} : decide (V.byt i = V.byt j) = (i.toList == j.toList) := by
 rw [Bool.eq_iff_iff]
 cases i
 cases j
 simp
section
variable {X : Cx} {a b c : Expr} {ta tb tc : TE} {pos : Pos}
theorem fin_bl {pins : List (Addr × Obj)} {σ : St} {H : Hp} {s : Shared} {Q : VK} {k k' : Bool} (I : Inv X pins σ H s) (q : Q (.bl k) H) (e : k = k') : EP X pins σ Q (.bool k') s := by
 subst e
 exact ⟨.bl k, H, I, rfl, q⟩
theorem op_eq : OpR X (compareOp .Eq) rEq := by
 intro pins s σ H x y v u Q I rx ry h
 obtain ⟨hs, q⟩ := h
 cases x with
 | non =>
  cases rx
  cases y with
  | non => cases ry; exact PySem.EqNone.eq_none_none (fin_bl I q (by simp))
  | bl j => cases ry; exact PySem.EqNone.eq_none_bool (fin_bl I q (by simp))
  | int j => obtain ⟨t', rfl⟩ := ry; exact PySem.EqNone.eq_none_int (fin_bl I q (by simp))
  | str j => obtain ⟨t', rfl⟩ := ry; exact PySem.EqNone.eq_none_str (fin_bl I q (by simp))
  | _ => exact absurd (show false = true from hs) Bool.false_ne_true
 | bl i =>
  cases rx
  cases y with
  | non => cases ry; exact PySem.EqNone.eq_bool_none (fin_bl I q (by simp))
  | bl j => cases ry; exact eq_bool (fin_bl I q dec_bl)
  | str j => obtain ⟨t', rfl⟩ := ry; exact PySem.EqMixed.eq_bool_str (fin_bl I q (by simp))
  | _ => exact absurd (show false = true from hs) Bool.false_ne_true
 | int i =>
  obtain ⟨t, rfl⟩ := rx
  cases y with
  | non => cases ry; exact PySem.EqNone.eq_int_none (fin_bl I q (by simp))
  | int j => obtain ⟨t', rfl⟩ := ry; exact eq_int (fin_bl I q dec_int)
  | str j => obtain ⟨t', rfl⟩ := ry; exact PySem.EqMixed.eq_int_str (fin_bl I q (by simp))
  | _ => exact absurd (show false = true from hs) Bool.false_ne_true
 | str i =>
  obtain ⟨t, rfl⟩ := rx
  cases y with
  | non => cases ry; exact PySem.EqNone.eq_str_none (fin_bl I q (by simp))
  | bl j => cases ry; exact PySem.EqMixed.eq_str_bool (fin_bl I q (by simp))
  | int j => obtain ⟨t', rfl⟩ := ry; exact PySem.EqMixed.eq_str_int (fin_bl I q (by simp))
  | str j => obtain ⟨t', rfl⟩ := ry; exact eq_str (fin_bl I q dec_str)
  | _ => exact absurd (show false = true from hs) Bool.false_ne_true
 | byt i =>
  obtain ⟨t, rfl⟩ := rx
  cases y with
  | byt j => obtain ⟨t', rfl⟩ := ry; exact PySem.W.eq_bytes (fin_bl I q dec_byt)
  | _ => exact absurd (show false = true from hs) Bool.false_ne_true
 | _ => cases y <;> exact absurd (show false = true from hs) Bool.false_ne_true
theorem op_ne : OpR X (compareOp .NotEq) rNe := by
 intro pins s σ H x y v u Q I rx ry h
 obtain ⟨hs, q⟩ := h
 cases x with
 | non =>
  cases rx
  cases y with
  | non => cases ry; exact PySem.EqNone.ne_none_none (fin_bl I q (by simp))
  | bl j => cases ry; exact PySem.EqNone.ne_none_bool (fin_bl I q (by simp))
  | int j => obtain ⟨t', rfl⟩ := ry; exact PySem.EqNone.ne_none_int (fin_bl I q (by simp))
  | str j => obtain ⟨t', rfl⟩ := ry; exact PySem.EqNone.ne_none_str (fin_bl I q (by simp))
  | _ => exact absurd (show false = true from hs) Bool.false_ne_true
 | bl i =>
  cases rx
  cases y with
  | non => cases ry; exact PySem.EqNone.ne_bool_none (fin_bl I q (by simp))
  | bl j => cases ry; exact ne_bool (fin_bl I q (congrArg not dec_bl))
  | str j => obtain ⟨t', rfl⟩ := ry; exact PySem.EqMixed.ne_bool_str (fin_bl I q (by simp))
  | _ => exact absurd (show false = true from hs) Bool.false_ne_true
 | int i =>
  obtain ⟨t, rfl⟩ := rx
  cases y with
  | non => cases ry; exact PySem.EqNone.ne_int_none (fin_bl I q (by simp))
  | int j => obtain ⟨t', rfl⟩ := ry; exact ne_int (fin_bl I q (congrArg not dec_int))
  | str j => obtain ⟨t', rfl⟩ := ry; exact PySem.EqMixed.ne_int_str (fin_bl I q (by simp))
  | _ => exact absurd (show false = true from hs) Bool.false_ne_true
 | str i =>
  obtain ⟨t, rfl⟩ := rx
  cases y with
  | non => cases ry; exact PySem.EqNone.ne_str_none (fin_bl I q (by simp))
  | bl j => cases ry; exact PySem.EqMixed.ne_str_bool (fin_bl I q (by simp))
  | int j => obtain ⟨t', rfl⟩ := ry; exact PySem.EqMixed.ne_str_int (fin_bl I q (by simp))
  | str j => obtain ⟨t', rfl⟩ := ry; exact ne_str (fin_bl I q (congrArg not dec_str))
  | _ => exact absurd (show false = true from hs) Bool.false_ne_true
 | byt i =>
  obtain ⟨t, rfl⟩ := rx
  cases y with
  | byt j => obtain ⟨t', rfl⟩ := ry; exact PySem.W.ne_bytes (fin_bl I q (congrArg not dec_byt))
  | _ => exact absurd (show false = true from hs) Bool.false_ne_true
 | _ => cases y <;> exact absurd (show false = true from hs) Bool.false_ne_true
theorem op_lt : OpR X (compareOp .Lt) (rI0 fun i j => .bl (decide (i < j))) := opB0 fun _ _ _ _ _ _ _ q => lt_int q
theorem op_le : OpR X (compareOp .LtE) (rI0 fun i j => .bl (decide (i ≤ j))) := opB0 fun _ _ _ _ _ _ _ q => le_int q
theorem op_gt : OpR X (compareOp .Gt) (rI0 fun i j => .bl (decide (j < i))) := opB0 fun _ _ _ _ _ _ _ q => gt_int q
theorem op_ge : OpR X (compareOp .GtE) (rI0 fun i j => .bl (decide (j ≤ i))) := opB0 fun _ _ _ _ _ _ _ q => ge_int q
theorem op_notN : OpR X (compareOp .IsNot) (fun x y H Q => y = .non ∧ Q (.bl (!decide (x = .non))) H) := by
 intro pins s σ H x y v u Q I rx ry h
 obtain ⟨rfl, q⟩ := h
 cases ry
 refine isnot_none_gen (fin_bl I q ?_)
 cases x <;> first
  | (cases rx; rfl)
  | (obtain ⟨t, rfl⟩ := rx; rfl)
theorem nomark (b : Expr) {op : CmpOp} (h : op ≠ .In := by decide) (h2 : op ≠ .NotIn := by decide) : behindInMarks op b = false := by
 have e1 : (op == CmpOp.In) = false := by cases op <;> first | rfl | exact absurd rfl h
 have e2 : (op == CmpOp.NotIn) = false := by cases op <;> first | rfl | exact absurd rfl h2
 cases b <;> simp [behindInMarks, e1, e2]
theorem pe_cmpR {op : CmpOp} {r : R2} (ho : OpR X (compareOp op) r) (ha : PE X a ta) (hb : PE X b tb) (hm : behindInMarks op b = false) : PE X (.Compare a [op] [b] pos) (tOp r ta tb) := by
 intro pins s σ H Q I h
 exact wpAny_Compare1 (binT ha hb I h fun v u s2 x y H2 I2 rx ry q => ho pins s2 σ H2 x y v u Q I2 rx ry q) hm
noncomputable def tTest (t : TE) : TT := fun σ H Q => t σ H fun x H' => ∃ k, x = .bl k ∧ Q k H'
theorem pt_cmpR {op : CmpOp} {r : R2} (ho : OpR X (compareOp op) r) (ha : PE X a ta) (hb : PE X b tb) (hm : behindInMarks op b = false) : PT X (.Compare a [op] [b] pos) (tTest (tOp r ta tb)) := by
 intro pins s σ H Q I h
 refine wpAny_isTrue_Compare1 (thn (ha pins s σ H _ I h) fun v s1 ⟨x, H1, I1, r1, q1⟩ => thn (hb pins s1 σ H1 _ I1 q1) fun u s2 ⟨y, H2, I2, r2, q2⟩ =>
  thn (ho pins s2 σ H2 x y v u _ I2 r1 r2 q2) fun c s3 ⟨z, H3, I3, r3, k, e, q3⟩ => ?_) hm
 subst e
 cases r3
 exact wpAny_truthy_bool ⟨H3, I3, q3⟩
noncomputable def tChain (r r' : R2) (ta tb tc : TE) : TE := fun σ H Q => ta σ H fun x H1 => tb σ H1 fun y H2 => r x y H2 fun z H3 => ∃ k, z = .bl k ∧
 (if k = true then tc σ H3 fun w' H4 => r' y w' H4 Q else Q (.bl false) H3)
theorem pe_chain {op op' : CmpOp} {r r' : R2} (ho : OpR X (compareOp op) r) (ho' : OpR X (compareOp op') r') (ha : PE X a ta) (hb : PE X b tb) (hc : PE X c tc)
  (hm : lastMarks [op, op'] [b, c] = false := by with_unfolding_all rfl) : PE X (.Compare a [op, op'] [b, c] pos) (tChain r r' ta tb tc) := by
 intro pins s σ H Q I h
 refine Compare_chain (thn (ha pins s σ H _ I h) fun v s1 ⟨x, H1, I1, r1, q1⟩ => chain_link (thn (hb pins s1 σ H1 _ I1 q1) fun u s2 ⟨y, H2, I2, r2, q2⟩ =>
  thn (ho pins s2 σ H2 x y v u _ I2 r1 r2 q2) fun d s3 ⟨z, H3, I3, r3, k, e, q3⟩ => ?_)) hm
 subst e
 cases r3
 refine wpAny_truthy_bool ?_
 cases k with
 | false => exact ite_ff ⟨.bl false, H3, I3, rfl, q3⟩
 | true => exact ite_tt (chain_last (thn (hc pins s3 σ H3 _ I3 q3) fun w' s4 ⟨z', H4, I4, r4, q4⟩ => ho' pins s4 σ H4 y z' u w' Q I4 r2 r4 q4))
noncomputable def TruV (K : PySem.W.Frag) (x : V) (H : Hp) (k : Bool) : Prop :=
 match x with
 | .non => k = false
 | .bl b => k = b
 | .int i => k = (i != 0)
 | .str y => y.length ≤ sizeLine ∧ k = ((y.length : Int) != 0)
 | .byt y => y.size ≤ sizeLine ∧ k = ((y.size : Int) != 0)
 | .ref p => (∃ xs, SqL K H p xs ∧ k = !xs.isEmpty) ∨ (∃ xs, SqT K H p xs ∧ k = !xs.isEmpty) ∨ ∃ kvs, H p = some (.dK kvs) ∧ k = !kvs.isEmpty
 | _ => False
theorem isEmpty_kv {κ : Type} {kvs : List (κ × V)} {vs : List (κ × Value)} (r : KV kvs vs) : (!vs.isEmpty) = !kvs.isEmpty := by
 cases r <;> rfl
theorem isEmpty_of {xs : List V} {its : List Value} (r : Vals xs its) : (!its.toArray.isEmpty) = !xs.isEmpty := by
 cases r <;> simp
theorem line63 : (sizeLine : Nat) < 2 ^ 63 := by rw [sizeLine_eq]; decide
theorem tru_ok : TruR X (fun x H Q => ∃ k, TruV X.K x H k ∧ Q k H) := by
 intro pins s σ H x v Q I rx h
 obtain ⟨k, e, q⟩ := h
 have hl := line63
 have hs : sizeLine = 16777216 := sizeLine_eq
 cases x with
 | non =>
  cases rx
  have e' : k = false := e
  subst e'
  exact truthy_none ⟨H, I, q⟩
 | bl b =>
  cases rx
  have e' : k = b := e
  subst e'
  exact wpAny_truthy_bool ⟨H, I, q⟩
 | int i =>
  obtain ⟨t, rfl⟩ := rx
  have e' : k = (i != 0) := e
  subst e'
  exact PySem.P.truthy_int ⟨H, I, q⟩
 | str y =>
  obtain ⟨t, rfl⟩ := rx
  obtain ⟨hy, e'⟩ : y.length ≤ sizeLine ∧ k = ((y.length : Int) != 0) := e
  subst e'
  exact PySem.P.truthy_str (by omega) ⟨H, I.tok _, q⟩
 | byt y =>
  obtain ⟨t, rfl⟩ := rx
  obtain ⟨hy, e'⟩ : y.size ≤ sizeLine ∧ k = ((y.size : Int) != 0) := e
  subst e'
  exact PySem.W.truthy_bytes (by omega) ⟨H, I.tok _, q⟩
 | ref p =>
  cases rx
  have e' : (∃ xs, SqL X.K H p xs ∧ k = !xs.isEmpty) ∨ (∃ xs, SqT X.K H p xs ∧ k = !xs.isEmpty) ∨ ∃ kvs, H p = some (.dK kvs) ∧ k = !kvs.isEmpty := e
  rcases e' with ⟨xs, hx, e'⟩ | ⟨xs, hx, e'⟩ | ⟨kvs, hx, e'⟩
  ·subst e'
   obtain ⟨its, r, pl, hz⟩ := I.list hx
   have hlen := r.length
   exact wpAny_truthy_list pl.isList (by simp only [List.size_toArray]; omega) ⟨H, I.tok _, by rw [isEmpty_of r]; exact q⟩
  ·subst e'
   obtain ⟨its, r, pl, hz⟩ := I.tuple hx
   have hlen := r.length
   exact truthy_tuple pl (by simp only [List.size_toArray]; omega) ⟨H, I.tok _, by rw [isEmpty_of r]; exact q⟩
  ·subst e'
   obtain ⟨hz, hS, vs, r, m⟩ : kvs.length ≤ sizeLine ∧ (p == sysModules) = false ∧ ∃ vs, KV kvs vs ∧ s.heap.DictOf (mixKind X.prog X.w) p vs := I.hok p _ hx
   have hlen : kvs.length = vs.length := Paired.length r
   exact wpAny_truthy_dict hS m (by omega) ⟨H, I.tok _, by rw [isEmpty_kv r]; exact q⟩
 | _ => exact (show False from e).elim
theorem pt_truth (ha : PE X a ta) (he : ∀ whole, isTrue a X.env whole = (do let v ← whole; standAt a.pos; holding [v] (truthy v))) :
  PT X a (fun σ H Q => ta σ H fun x H' => ∃ k, TruV X.K x H' k ∧ Q k H') := by
 intro pins s σ H Q I h
 refine isTrue_plain (thn (ha pins s σ H _ I h) fun v s1 zz7 => ?_) (he _)
 obtain ⟨x, H1, I1, r1, q1⟩ := zz7
 exact tru_ok pins s1 σ H1 x v Q I1 r1 q1
theorem vals1 {x : V} {us : List Value} (r : Vals [x] us) : ∃ u, us = [u] ∧ RelV x u := by
 cases r with
 | cons r1 r2 => cases r2; exact ⟨_, rfl, r1⟩
end
end L2
namespace L2
open PySem PySem.Spec PyProof.Rows
structure ObjM (h : Heap) (x dx C : Addr) (mA : Str → Option Value) : Prop where
 obj : h.get? x = some (PySem.W.instObj C dx)
 ns : h.Ns1 dx mA
 ne : dx ≠ x
theorem lookIn_ns {h : Heap} {dx : Addr} {mA : Str → Option Value} (n : h.Ns1 dx mA) : ∃ od, h.get? dx = some od ∧ ∀ name, PySem.W.lookIn name od = some (mA name) := by
 obtain ⟨o, es, ep, ho, hd, hk, _, hm⟩ := n
 refine ⟨o, ho, fun name => ?_⟩
 have e := hm name
 unfold nsFind findBy at e
 rw [← Array.find?_toList] at e
 unfold PySem.W.lookIn
 rw [hd]
 dsimp only
 split
 ·rename_i y q
  rw [q] at e
  exact congrArg some e
 ·rename_i q
  rw [q] at e
  have a : es.toList.any (·.refKey) = false := by
   rw [List.any_eq_false]
   intro y hy
   obtain ⟨z, t, hkey⟩ := hk y (Array.mem_toList_iff.mp hy)
   simp [DictEntry.refKey, hkey]
  have a' : ¬ es.toList.any (·.refKey) = true := by rw [a]; exact Bool.false_ne_true
  rw [if_neg a']
  exact congrArg some e
theorem ObjM.look {h : Heap} {x dx C : Addr} {mA : Str → Option Value} (I : ObjM h x dx C mA) : ∃ od, PySem.W.InstAt h x (PySem.W.instObj C dx) C (some od) ∧ ∀ name, PySem.W.lookIn name od = some (mA name) :=
 let ⟨od, ho, hl⟩ := lookIn_ns I.ns
 ⟨od, ⟨I.obj, rfl, rfl, ho⟩, hl⟩
section
variable {prog : Program} {w : World} {A : Around} {E : Value → Shared → Prop} {s : Shared} {K : PySem.W.Frag} {x dx C f : Addr} {mA : Str → Option Value} {name : Str} {v : Value}
theorem get_map {expr : Bool} {Q : Value → Shared → Prop} (X : K.In s.heap) (I : ObjM s.heap x dx C mA) (hg : PySem.W.plainGet K C name = true) (hh : PySem.W.hasDictIn K C = true)
  (ha : PySem.W.findIn K (.ref C) name = some none) (hv : mA name = some v) (hv' : PySem.W.handedIn v = true) (h : Q v { s with toks := s.toks + 1 }) :
  wpAny (model prog w) A (getAttr (.ref x) name expr) Q E s := by
 obtain ⟨od, J, hl⟩ := I.look
 exact PySem.W.get_value X J (PySem.W.plainGet_of hg).1 (PySem.W.findObj_own hh ha rfl (by rw [hl, hv])) hv' h
theorem get_meth {pl : Sem Bool} {Q : Value × List Value → Shared → Prop} (X : K.In s.heap) (I : ObjM s.heap x dx C mA) (hg : PySem.W.plainGet K C name = true)
  (hf : PySem.W.findIn K (.ref C) name = some (some (.ref f))) (ht : PySem.W.isFn K (.ref f) = true) (hv : mA name = none) (h : Q (.ref f, [.ref x]) s) :
  wpAny (model prog w) A (getMethod (.ref x) name pl) Q E s := by
 obtain ⟨od, J, hl⟩ := I.look
 exact PySem.W.method_fn X J (PySem.W.plainGet_of hg).1 (PySem.W.plainGet_of hg).2 hf (beq_iff_eq.mp ht) (by show (PySem.W.lookIn name od).map (·.isSome) = some false; rw [hl, hv]; rfl) h
theorem set_map {ns : List Str} {Q : Unit → Shared → Prop} (X : K.In s.heap) (I : ObjM s.heap x dx C mA)
  (hs : PySem.W.findIn K (.ref C) "__setattr__" = some (some (.builtin "object.__setattr__"))) (hp : PySem.W.plainOver K C = true) (ht : PySem.W.takerIn K C name = some none) (hh : PySem.W.hasDictIn K C = true)
  (hw : PySem.Within mA ns) (hsz : ns.length ≤ sizeLine)
  (h : ∀ h', ObjM h' x dx C (fun y => if y = name then some v else mA y) → Heap.SameBut dx s.heap h' → Q () { s with heap := h', toks := s.toks + 2 }) :
  wpAny (model prog w) A (setAttr (.ref x) name v) Q E s := by
 obtain ⟨od, J, hl⟩ := I.look
 refine PySem.W.set_plain X J hs (PySem.W.osa_open (s := { s with toks := s.toks + 1 }) (r := none) X J hp ht fun b => ?_)
 obtain ⟨cd, hc, hd'⟩ := PySem.W.any_some hh
 have hx : s.heap.get? x = some ⟨.ref C, some dx, .plain, #[]⟩ := I.obj
 refine wpAny_bind (wpAny_pure (wpAny_bind (wpAny_bind (wpAny_loadPart hx (wpAny_bind (PySem.W.Looks.here (s := { s with toks := s.toks + 1 }) (PySem.W.looks_clsIn X hc) ?_))))))
 rw [hd']
 refine wpAny_pure (a := some dx) (wpAny_bind (wpAny_pure (wpAny_bind ?_)))
 refine wpAny_nsSet1 (s := { s with toks := s.toks + 1 }) I.ns fun h' hn2 hs2 => ?_
 obtain ⟨oD, esD, epD, hoD, hdD, hcD⟩ := hn2.count (PySem.Within.cons name v hw)
 refine wpAny_bind (wpAny_lookBehind hoD (by rw [hdD]; exact pastItsLine_dict (Nat.le_trans hcD (by rw [List.length_cons]; omega))) ?_)
 exact wpAny_pure (h _ ⟨(hs2.2 _ (Ne.symm I.ne)).trans I.obj, hn2, I.ne⟩ hs2)
theorem make_map {R : Result → Shared → Prop} {vs : List Value} {kw : List (Str × Value)} (X : K.In s.heap) (hm : PySem.W.makesIn K C = true)
  (hi : PySem.W.findIn K (.ref C) "__init__" = some (some (.ref f))) (hf : PySem.W.typeIn K (.ref f) = some (.type "function"))
  (h : codeAny (model prog w) (A.under (.builtin "type.__call__" ⟨.ref C :: vs, kw⟩)) (.call (.ref f) ⟨.ref (s.heap.objs.size + 1) :: vs, kw⟩) (PySem.W.InitBack (s.heap.objs.size + 1) R)
   { s with heap := (s.heap.push PySem.W.emptyDict).push (PySem.W.instObj C s.heap.objs.size) }) :
  codeAny (model prog w) A (.call (.ref C) ⟨vs, kw⟩) R s := by
 obtain ⟨hh, g, d, t, os⟩ := s
 exact PySem.W.make_core (PySem.W.makes_of X hm) (PySem.W.looks_findIn X hi) (fun self => PySem.W.bind_fn X self hf) (.inl rfl) h
end
noncomputable def putF (f : Str) (v : V) : List (Str × V) → List (Str × V)
 | [] => [(f, v)]
 | (g, x) :: r => if g = f then (g, v) :: r else (g, x) :: putF f v r
theorem lookup_putF (f g : Str) (v : V) : ∀ fs : List (Str × V), (putF f v fs).lookup g = if g = f then some v else fs.lookup g
 | [] => by
  show List.lookup g [(f, v)] = _
  by_cases h : g = f
  ·have hb : (g == f) = true := beq_iff_eq.mpr h
   simp only [List.lookup, hb, if_pos h]
  ·have hb : (g == f) = false := beq_eq_false_iff_ne.mpr h
   simp only [List.lookup, hb, if_neg h]
 | (k, x) :: r => by
  have ih := lookup_putF f g v r
  rw [show putF f v ((k, x) :: r) = (if k = f then (k, v) :: r else (k, x) :: putF f v r) from rfl]
  by_cases hk : k = f
  ·rw [if_pos hk]
   by_cases h : g = k
   ·have hb : (g == k) = true := beq_iff_eq.mpr h
    simp only [List.lookup, hb, if_pos (h.trans hk)]
   ·have hb : (g == k) = false := beq_eq_false_iff_ne.mpr h
    simp only [List.lookup, hb, if_neg (fun e : g = f => h (e.trans hk.symm))]
  ·rw [if_neg hk]
   by_cases h : g = k
   ·have hb : (g == k) = true := beq_iff_eq.mpr h
    simp only [List.lookup, hb, if_neg (fun e : g = f => hk (h.symm.trans e))]
   ·have hb : (g == k) = false := beq_eq_false_iff_ne.mpr h
    simp only [List.lookup, hb]
    exact ih
theorem keys_putF (f : Str) (v : V) : ∀ fs : List (Str × V), f ∈ (putF f v fs).map (·.1) ∧ ∀ g, g ∈ fs.map (·.1) → g ∈ (putF f v fs).map (·.1)
 | [] => ⟨by simp [putF], fun g h => by simp at h⟩
 | (k, x) :: r => by
  obtain ⟨i1, i2⟩ := keys_putF f v r
  rw [show putF f v ((k, x) :: r) = (if k = f then (k, v) :: r else (k, x) :: putF f v r) from rfl]
  by_cases hk : k = f
  ·rw [if_pos hk]
   subst hk
   exact ⟨by simp, fun g h => by simpa using h⟩
  ·rw [if_neg hk]
   refine ⟨?_, fun g h => ?_⟩
   ·rw [List.map_cons]
    exact List.mem_cons_of_mem _ i1
   ·rw [List.map_cons] at h ⊢
    rcases List.mem_cons.mp h with e | e
    ·exact List.mem_cons.mpr (.inl e)
    ·exact List.mem_cons_of_mem _ (i2 g e)
theorem length_putF (f : Str) (v : V) : ∀ fs : List (Str × V), (putF f v fs).length ≤ fs.length + 1
 | [] => by simp [putF]
 | (k, x) :: r => by
  have ih := length_putF f v r
  rw [show putF f v ((k, x) :: r) = (if k = f then (k, v) :: r else (k, x) :: putF f v r) from rfl]
  by_cases hk : k = f
  ·rw [if_pos hk, List.length_cons, List.length_cons]; omega
  ·rw [if_neg hk, List.length_cons, List.length_cons]; omega
theorem RelO.some_of {v : V} {o : Option Value} (r : RelO (some v) o) : ∃ u, o = some u ∧ RelV v u := by
 cases o with
 | none => exact (show False from r).elim
 | some u => exact ⟨u, rfl, r⟩
theorem RelO.none_of {o : Option Value} (r : RelO none o) : o = none := by
 cases o with
 | none => rfl
 | some u => exact (show False from r).elim
theorem handed_of {v : V} {u : Value} (r : RelV v u) : PySem.W.handedIn u = true := by
 cases v with
 | non => cases (show u = Value.none from r); rfl
 | bl b => cases (show u = Value.bool b from r); rfl
 | int i => obtain ⟨t, e⟩ := (show ∃ t, u = Value.int i t from r); cases e; rfl
 | str x => obtain ⟨t, e⟩ := (show ∃ t, u = Value.str x t from r); cases e; rfl
 | byt b => obtain ⟨t, e⟩ := (show ∃ t, u = Value.bytes b t from r); cases e; rfl
 | flt b => obtain ⟨t, e⟩ := (show ∃ t, u = Value.float b t from r); cases e; rfl
 | ref a => cases (show u = Value.ref a from r); rfl
 | ty n => cases (show u = Value.type n from r); rfl
section
variable {P : Program} {w : World} {H H' : Hp} {h h' : Heap} {a C dx : Addr} {fs fs' : List (Str × V)}
theorem ins_get (hok : HOk P w H h) (e : H a = some (.ins C dx fs)) : ∃ mA, ObjM h a dx C mA ∧ (∀ f, RelO (fs.lookup f) (mA f)) ∧ PySem.Within mA (fs.map (·.1)) ∧ fs.length ≤ 1000 ∧ H dx = some (.own a) := by
 obtain ⟨d, z, ne, ob, mA, n, r, q⟩ := (show ObjOk P w H h a (.ins C dx fs) from hok a _ e)
 exact ⟨mA, ⟨ob, n, ne⟩, r, q, z, d⟩
end
structure Cls (K : PySem.W.Frag) (C : Addr) : Prop where
 pg : PySem.W.plainGet K C Str.empty = true
 hd : PySem.W.hasDictIn K C = true
 po : PySem.W.plainOver K C = true
 sa : PySem.W.findIn K (.ref C) "__setattr__" = some (some (.builtin "object.__setattr__"))
theorem Cls.get {K : PySem.W.Frag} {C : Addr} (c : Cls K C) (f : Str) : PySem.W.plainGet K C f = true := c.pg
noncomputable def NoAttr (K : PySem.W.Frag) (C : Addr) (f : Str) : Prop := PySem.W.findIn K (.ref C) f = some none
theorem NoAttr.taker {K : PySem.W.Frag} {C : Addr} {f : Str} (n : NoAttr K C f) : PySem.W.takerIn K C f = some none := by
 unfold PySem.W.takerIn
 rw [show PySem.W.findIn K (.ref C) f = some none from n]
 rfl
structure Meth (K : PySem.W.Frag) (C : Addr) (m : Str) (f : Addr) : Prop where
 at_ : PySem.W.findIn K (.ref C) m = some (some (.ref f))
 fn : PySem.W.isFn K (.ref f) = true
 kp : PySem.W.keepIn K (.ref f) = true
section
variable {X : Cx} {pins : List (Addr × Obj)} {σ : St} {H : Hp} {s : Shared} {a C dx : Addr} {fs : List (Str × V)} {f : Str} {v : V} {A : Around} {E : Value → Shared → Prop}
theorem getattr_ok {b : Bool} {Q : Value → Shared → Prop} (I : Inv X pins σ H s) (e : H a = some (.ins C dx fs)) (c : Cls X.K C) (n : NoAttr X.K C f) (l : fs.lookup f = some v)
  (h : ∀ u s', Inv X pins σ H s' → RelV v u → Q u s') : wpAny (model X.prog X.w) A (getAttr (.ref a) f b) Q E s := by
 obtain ⟨mA, O, r, _, _, _⟩ := ins_get I.hok e
 obtain ⟨u, hu, ru⟩ := RelO.some_of (v := v) (o := mA f) (by rw [← l]; exact r f)
 exact get_map I.kIn O (c.get f) c.hd n hu (handed_of ru) (h u _ (I.tok _) ru)
theorem getmeth_ok {m : Str} {g : Addr} {pl : Sem Bool} {Q : Value × List Value → Shared → Prop} (I : Inv X pins σ H s) (e : H a = some (.ins C dx fs)) (c : Cls X.K C) (k : Meth X.K C m g) (l : fs.lookup m = none)
  (h : Q (.ref g, [.ref a]) s) : wpAny (model X.prog X.w) A (getMethod (.ref a) m pl) Q E s := by
 obtain ⟨mA, O, r, _, _, _⟩ := ins_get I.hok e
 have hn : mA m = none := RelO.none_of (by rw [← l]; exact r m)
 exact get_meth I.kIn O (c.get m) k.at_ k.fn hn h
theorem setattr_ok {y : V} {u : Value} {Q : Unit → Shared → Prop} (I : Inv X pins σ H s) (e : H a = some (.ins C dx fs)) (c : Cls X.K C) (n : NoAttr X.K C f) (hl : fs.length < 1000) (ry : RelV y u)
  (h : ∀ s', Inv X pins σ (upd H a (.ins C dx (putF f y fs))) s' → Q () s') : wpAny (model X.prog X.w) A (setAttr (.ref a) f u) Q E s := by
 obtain ⟨mA, O, r, wi, _, ho⟩ := ins_get I.hok e
 have hz : (fs.map (·.1)).length ≤ sizeLine := by rw [List.length_map, sizeLine_eq]; omega
 refine set_map I.kIn O c.sa c.po n.taker c.hd wi hz fun h' O' sb => h _ ?_
 have hd : ∃ o, h'.get? dx = some o := let ⟨o, _, _, e', _⟩ := O'.ns; ⟨o, e'⟩
 refine I.write (x := a) (e := dx) (by rw [e]; exact True.intro) (.inr ho) (fun b q hb z => (sb.2 b hb).trans z) hd ?_
 refine ⟨by rw [upd_ne O.ne]; exact ho, ?_, O.ne, O'.obj, _, O'.ns, fun g => ?_, fun g hg => ?_⟩
 ·have := length_putF f y fs; omega
 ·show RelO ((putF f y fs).lookup g) (if g = f then some u else mA g)
  rw [lookup_putF]
  by_cases q : g = f
  ·rw [if_pos q, if_pos q]; exact ry
  ·rw [if_neg q, if_neg q]; exact r g
 ·by_cases q : g = f
  ·rw [q]; exact (keys_putF f y fs).1
  ·refine (keys_putF f y fs).2 g (wi g fun z => hg ?_)
   show (if g = f then some u else mA g) = none
   rw [if_neg q]; exact z
theorem Inv.made (I : Inv X pins σ H s) : Inv X pins σ (upd (upd H s.heap.objs.size (.own (s.heap.objs.size + 1))) (s.heap.objs.size + 1) (.ins C s.heap.objs.size []))
  { s with heap := (s.heap.push PySem.W.emptyDict).push (PySem.W.instObj C s.heap.objs.size) } := by
 have e1 : (s.heap.push PySem.W.emptyDict).get? s.heap.objs.size = some PySem.W.emptyDict := Heap.get?_push_size s.heap rfl
 have e2 : ((s.heap.push PySem.W.emptyDict).push (PySem.W.instObj C s.heap.objs.size)).get? (s.heap.objs.size + 1) = some (PySem.W.instObj C s.heap.objs.size) := by
  have := Heap.get?_push_size (s.heap.push PySem.W.emptyDict) (o := PySem.W.instObj C s.heap.objs.size) rfl
  rwa [Heap.size_push] at this
 have e3 : (s.heap.push PySem.W.emptyDict).Ns s.heap.objs.size (fun _ => none) := ⟨PySem.W.emptyDict, #[], _, e1, rfl, (fun e he => absurd he (by simp)), fun _ => rfl⟩
 have I1 := I.laid (a := s.heap.objs.size) (o := .own (s.heap.objs.size + 1)) (h' := s.heap.push PySem.W.emptyDict) (t' := s.toks) (fun b u q => Heap.get?_push_of_some _ q) (Nat.le_refl _) ⟨_, e1⟩
 refine I1.laid (a := s.heap.objs.size + 1) (o := .ins C s.heap.objs.size []) (t' := s.toks) (fun b u q => Heap.get?_push_of_some _ q) (Nat.le_of_eq (Heap.size_push _ _)) ?_
 have ne : s.heap.objs.size ≠ s.heap.objs.size + 1 := Nat.ne_of_lt (Nat.lt_succ_self _)
 refine ⟨by rw [upd_ne ne, upd_same], Nat.zero_le _, ne, e2, fun _ => none, (Heap.Ns1.of_empty e3).at fun o q => Heap.get?_push_of_some _ q, fun _ => True.intro, fun y hy => absurd rfl hy⟩
theorem attr_of {prog : Program} {w : World} {env : Env} {e : Expr} {f : Str} {pos : Pos} {s : Shared} {Q : Value → Shared → Prop} (hb : attributeBase e f env (eval e env) = eval e env)
  (h : wpAny (model prog w) A (eval e env) (fun o s₁ => wpAny (model prog w) A (getAttr o f true) Q E s₁) E s) : wpAny (model prog w) A (eval (.Attribute e f pos) env) Q E s :=
 Attribute_any_ h (by rw [arm_eval_Attribute, hb])
end
noncomputable def tFld (K : PySem.W.Frag) (ta : TE) (f : Str) : TE := fun σ H Q => ta σ H fun x H1 => ∃ a C dx fs v, x = .ref a ∧ H1 a = some (.ins C dx fs) ∧ Cls K C ∧ NoAttr K C f ∧ fs.lookup f = some v ∧ Q v H1
noncomputable def sFld (K : PySem.W.Frag) (ta tv : TE) (f : Str) : TS := fun D σ H => tv σ H fun y H1 => ta σ H1 fun x H2 => ∃ a C dx fs, x = .ref a ∧ H2 a = some (.ins C dx fs) ∧ Cls K C ∧ NoAttr K C f ∧ fs.length < 1000 ∧
 D.nx σ (upd H2 a (.ins C dx (putF f y fs)))
section
variable {X : Cx} {o e value : Expr} {f : Str} {pos pos' tpos : Pos} {ta tv : TE}
theorem pe_fld (he : PE X e ta) (hb : attributeBase e f X.env (eval e X.env) = eval e X.env) : PE X (.Attribute e f pos) (tFld X.K ta f) := by
 intro pins s σ H Q I h
 refine attr_of hb (thn (he pins s σ H _ I h) fun u s1 zz9 => ?_)
 obtain ⟨x, H1, I1, rx, a, C, dx, fs, v, ex, ea, c, n, l, q⟩ := zz9
 subst ex
 obtain rfl : u = Value.ref a := rx
 exact getattr_ok I1 ea c n l fun u' s2 I2 ru => ⟨v, H1, I2, ru, q⟩
theorem ps_fld (ha : PE X o ta) (hv : PE X value tv) (hs : swapsWith value (some (.Attribute o f pos')) pos.line X.env = pure false) : PS X (.Assign [.Attribute o f pos'] value pos) (sFld X.K ta tv f) := by
 intro pins s σ H D I h
 refine plainObj_wpAny_Assign_Attribute (thn (hv pins s σ H _ I h) fun u s1 zz8 => ?_) hs
 obtain ⟨y, H1, I1, ry, q⟩ := zz8
 refine thn (ha pins s1 σ H1 _ I1 q) fun ov s2 zz9 => ?_
 obtain ⟨x, H2, I2, rx, a, C, dx, fs, ex, ea, c, n, l, q2⟩ := zz9
 subst ex
 obtain rfl : ov = Value.ref a := rx
 exact setattr_ok I2 ea c n l ry fun s3 I3 => ⟨σ, _, I3, q2⟩
end
end L2
namespace L2
open PySem PySem.Spec PyProof.Rows
structure Room (k : Nat) (A : Around) : Prop where
 hd : A.handled = none
 dp : A.depth + 3 * k + 5 < recursionLimit
 un : A.units + 16 * k + 200 < cLine
theorem Room.mono {j k : Nat} {A : Around} (r : Room k A) (h : j ≤ k) : Room j A := ⟨r.hd, by have := r.dp; omega, by have := r.un; omega⟩
theorem Room.deeper {k : Nat} {A : Around} (r : Room (k + 1) A) (env : Env) : Room k (A.deeper env) :=
 ⟨r.hd, by have := r.dp; show A.depth + 1 + 3 * k + 5 < _; omega, by have := r.un; show A.units + 3 + 16 * k + 200 < _; omega⟩
theorem make_depth {A : Around} {C : Addr} {us : List Value} {kw : List (Str × Value)} : (A.under (.builtin "type.__call__" ⟨.ref C :: us, kw⟩)).depth = A.depth + 1 := by
 first | rfl | simp [Around.under, Code.weight, Code.isCreation, Code.isGuard, Code.isCaller, Code.frames, Code.isFrame, guardIds]
theorem make_units {A : Around} {C : Addr} {us : List Value} {kw : List (Str × Value)} : (A.under (.builtin "type.__call__" ⟨.ref C :: us, kw⟩)).units = A.units + 1 := by
 first | rfl | simp [Around.under, Code.cUnits, Code.frames, Code.isFrame]
theorem Room.make {k : Nat} {A : Around} (r : Room (k + 1) A) (C : Addr) (us : List Value) (kw : List (Str × Value)) : Room k (A.under (.builtin "type.__call__" ⟨.ref C :: us, kw⟩)) :=
 ⟨r.hd, by have := r.dp; rw [make_depth]; omega, by have := r.un; rw [make_units]; omega⟩
theorem Room.depth {k : Nat} {A : Around} (r : Room k A) : A.depth < recursionLimit := by have := r.dp; omega
theorem Room.units {k : Nat} {A : Around} (r : Room k A) : A.units + 64 < cLine := by have := r.un; omega
noncomputable def tNil : TA := fun _ H Q => Q [] H
noncomputable def tCons (ta : TE) (tr : TA) : TA := fun σ H Q => ta σ H fun x H1 => tr σ H1 fun xs H2 => Q (x :: xs) H2
section
variable {X : Cx} {e : Expr} {es : List Expr} {te : TE} {t : TA} {pos : Pos}
theorem pa_nil : PA X [] tNil := fun _ _ _ _ H Q I h => Calls.spliced_nil ⟨[], H, I, .nil, h⟩
theorem pa_cons (ha : PE X e te) (hr : PA X es t) (hs : starEach (e :: es) X.env = (false, eval e X.env) :: starEach es X.env := by rfl) : PA X (e :: es) (tCons te t) := by
 intro pos pins s σ H Q I h
 rw [hs]
 show wpAny _ _ (spliced ((false, eval e X.env) :: backTo pos (starEach es X.env))) _ _ s
 refine Calls.spliced_cons (thn (ha pins s σ H _ I h) fun u s1 zz9 => ?_)
 obtain ⟨x, H1, I1, r1, q1⟩ := zz9
 refine thn (hr pos pins s1 σ H1 _ I1 q1) fun us s2 zz10 => ?_
 obtain ⟨xs, H2, I2, r2, q2⟩ := zz10
 exact ⟨x :: xs, H2, I2, .cons r1 r2, q2⟩
noncomputable def tTup (t : TA) : TE := fun σ H Q => t σ H fun xs H1 => xs.length ≤ sizeLine ∧ ∀ p, H1 p = none → Q (.ref p) (upd H1 p (.tup xs))
noncomputable def tLst (t : TA) : TE := fun σ H Q => t σ H fun xs H1 => xs.length ≤ sizeLine ∧ ∀ p, H1 p = none → Q (.ref p) (upd H1 p (.lst xs))
theorem pe_tup {x1} (h : PA X es t) : PE X (.Tuple es x1 pos) (tTup t) := by
 intro pins s σ H Q I hq
 refine wpAny_Tuple_spliced (thn (h pos pins s σ H _ I hq) fun us s1 zz7 => ?_)
 obtain ⟨xs, H1, I1, r, z, q⟩ := zz7
 refine ⟨by rw [← r.length]; exact z, ?_⟩
 have hf : H1 s1.heap.objs.size = none := I1.hok.fresh (Nat.le_refl _)
 refine ⟨.ref s1.heap.objs.size, upd H1 s1.heap.objs.size (.tup xs), I1.laid (t' := s1.toks) (fun b u e => Heap.get?_push_of_some _ e) (Nat.le_refl _) ?_, rfl, q _ hf⟩
 exact ⟨z, us, r, ⟨_, Heap.get?_push_size _ rfl, rfl, _, rfl⟩⟩
theorem pe_lst (h : PA X es t) : PE X (.List es pos) (tLst t) := by
 intro pins s σ H Q I hq
 refine wpAny_List_spliced (thn (h pos pins s σ H _ I hq) fun us s1 zz7 => ?_)
 obtain ⟨xs, H1, I1, r, z, q⟩ := zz7
 refine ⟨by rw [← r.length]; exact z, ?_⟩
 have hf : H1 s1.heap.objs.size = none := I1.hok.fresh (Nat.le_refl _)
 refine ⟨.ref s1.heap.objs.size, upd H1 s1.heap.objs.size (.lst xs), I1.laid (t' := s1.toks) (fun b u e => Heap.get?_push_of_some _ e) (Nat.le_refl _) ?_, rfl, q _ hf⟩
 exact ⟨z, us, 0, r, Heap.get?_push_size _ rfl⟩
end
noncomputable abbrev Sp := List V → Hp → VK → XK → Prop
noncomputable abbrev CXT := List Env → Hp → Shared → XK → Value → Shared → Prop
structure Env0 (P : Program) (w : World) (K : PySem.W.Frag) (mg : Str → Option Value) (base : Heap) (A : Around) (outer : List Env) (s : Shared) (H : Hp) : Prop where
 frames : A.frames = some outer
 mod : Mod K mg base
 bs : ∀ b o, base.get? b = some o → s.heap.get? b = some o ∧ H b = none
 bsz : base.objs.size ≤ s.heap.objs.size
 funs : s.heap.FunFrames base outer
 frf : ∀ b ∈ frs outer, H b = none
 hok : HOk P w H s.heap
 bare : AllBare s.gens
noncomputable def CE (outer : List Env) (P : Program) (w : World) (H : Hp) (s : Shared) (Q : VK) (u : Value) (s' : Shared) : Prop :=
 ∃ v H', s'.os = s.os ∧ AllBare s'.gens ∧ Un (frs outer) [] H H' s.heap s'.heap ∧ HOk P w H' s'.heap ∧ RelV v u ∧ Q v H'
noncomputable def CR (CX : CXT) (outer : List Env) (P : Program) (w : World) (H : Hp) (s : Shared) (Q : VK) (E : XK) (r : Result) (s' : Shared) : Prop :=
 match r with
 | .ok (.ret u) => CE outer P w H s Q u s'
 | .ok _ => False
 | .error e => CX outer H s E e s'
structure FnOk (P : Program) (w : World) (K : PySem.W.Frag) (mg : Str → Option Value) (base : Heap) (CX : CXT) (k : Nat) (f : Addr) (fd : FuncData) (ps : List Str) (sp : Sp) : Prop where
 len : ∀ vs H Q E, sp vs H Q E → vs.length = ps.length
 run : ∀ (A : Around) (outer : List Env) (s : Shared) (H : Hp) (args : Args) (us : List Value) (vs : List V) (Q : VK) (E : XK), Room k A → Env0 P w K mg base A outer s H → BindsTo s fd args (ps.zip us) → Vals vs us → sp vs H Q E →
  codeAny (model P w) A (.call (.ref f) args) (CR CX outer P w H s Q E) s
theorem Env0.make {P : Program} {w : World} {K : PySem.W.Frag} {mg : Str → Option Value} {base : Heap} {A : Around} {outer : List Env} {s : Shared} {H : Hp} (e : Env0 P w K mg base A outer s H) (C : Addr) (us : List Value) (kw : List (Str × Value)) :
  Env0 P w K mg base (A.under (.builtin "type.__call__" ⟨.ref C :: us, kw⟩)) outer s H := ⟨by first | exact e.frames | (simpa [Around.under, Code.envs, Code.isFrame, pushEnvs] using e.frames), e.mod, e.bs, e.bsz, e.funs, e.frf, e.hok, e.bare⟩
section
variable {X : Cx} {pins : List (Addr × Obj)} {σ : St} {H : Hp} {s s' : Shared}
theorem Inv.env0 (I : Inv X pins σ H s) : Env0 X.prog X.w X.K X.mg X.base X.A X.stack s H :=
 ⟨I.ok.frames, I.ok.mod, I.bs, Nat.le_trans I.ok.bsz I.sz, I.stack, I.stkFree, I.hok, I.bare⟩
theorem Inv.after {Q : VK} {u : Value} (I : Inv X pins σ H s) (h : CE X.stack X.prog X.w H s Q u s') : EP X pins σ Q u s' := by
 obtain ⟨v, H', os, bare, un, hok, r, q⟩ := h
 obtain ⟨hh, g, d, t, os'⟩ := s'
 obtain rfl : os' = s.os := os
 exact ⟨v, H', I.call (h' := hh) (g' := g) (d' := d) (t' := t) (ch := []) un hok bare (fun b z => absurd z (by simp)), r, q⟩
end
noncomputable def tCall (sp : Sp) (dvs : List V) (E : XK) (t : TA) : TE := fun σ H Q => t σ H fun vs H1 => sp (vs ++ dvs) H1 Q E
noncomputable def tMeth (C : Addr) (m : Str) (sp : Sp) (dvs : List V) (E : XK) (ta : TE) (t : TA) : TE := fun σ H Q => ta σ H fun x H1 => ∃ a dx fs, x = .ref a ∧ H1 a = some (.ins C dx fs) ∧ fs.lookup m = none ∧
 t σ H1 fun vs H2 => sp (x :: (vs ++ dvs)) H2 Q E
noncomputable def tMake (C : Addr) (sp : Sp) (dvs : List V) (E : XK) (t : TA) : TE := fun σ H Q => t σ H fun vs H1 => ∀ x dx, H1 x = none → H1 dx = none → dx ≠ x →
 sp (.ref x :: (vs ++ dvs)) (upd (upd H1 dx (.own x)) x (.ins C dx [])) (fun v H2 => v = .non ∧ Q (.ref x) H2) E
noncomputable def Binds (K : PySem.W.Frag) (fd : FuncData) (ps : List Str) (ds : List Value) : Prop :=
 ∀ (s : Shared) (us : List Value), K.In s.heap → (us ++ ds).length = ps.length → BindsTo s fd ⟨us, []⟩ (ps.zip (us ++ ds))
theorem Binds.all {K : PySem.W.Frag} {fd : FuncData} {ps : List Str} (h : ∀ us : List Value, us.length = ps.length → bindArgs fd ⟨us, []⟩ = pure (ps.zip us)) : Binds K fd ps [] := fun s us _ hl => by
 rw [List.append_nil] at hl ⊢
 exact .of_eq (h us hl)
noncomputable def Passes (CX : CXT) (X : Cx) (E : XK) : Prop := ∀ (pins : List (Addr × Obj)) (σ : St) (H : Hp) (s : Shared) (e : Value) (s' : Shared), Inv X pins σ H s → CX X.stack H s E e s' → X.xe e s'
section
variable {X : Cx} {CX : CXT} {k : Nat} {f C : Addr} {fd : FuncData} {ps : List Str} {sp : Sp} {dvs : List V} {ds : List Value} {E : XK} {x m : Str} {p pos apos : Pos} {e o : Expr} {es : List Expr} {ta : TE} {t : TA}
theorem run_fn {pins : List (Addr × Obj)} {σ : St} {H : Hp} {s : Shared} {Q : VK} {us : List Value} {vs : List V} (F : FnOk X.prog X.w X.K X.mg X.base CX k f fd ps sp) (hr : Room k X.A) (hb : Binds X.K fd ps ds) (hd : Vals dvs ds) (hx : Passes CX X E)
  (I : Inv X pins σ H s) (r : Vals vs us) (h : sp (vs ++ dvs) H Q E) : wpAny (model X.prog X.w) X.A (call (.ref f) us) (EP X pins σ Q) X.xe s := by
 have r2 : Vals (vs ++ dvs) (us ++ ds) := r.append hd
 have hl : (us ++ ds).length = ps.length := by rw [← r2.length]; exact F.len _ _ _ _ h
 refine wpAny_call (codeAny_mono (F.run X.A X.stack s H ⟨us, []⟩ (us ++ ds) (vs ++ dvs) Q E hr I.env0 (hb s us I.kIn hl) r2 h) fun r s' hq => ?_)
 cases r with
 | error e => exact hx pins σ H s e s' I hq
 | ok fl =>
  cases fl with
  | ret u => exact I.after hq
  | next => exact False.elim hq
  | brk => exact False.elim hq
  | cont => exact False.elim hq
theorem pe_call (F : FnOk X.prog X.w X.K X.mg X.base CX k f fd ps sp) (hr : Room k X.A) (hg : Gl X x) (hm : X.mg x = some (.ref f)) (hk : PySem.W.keepIn X.K (.ref f) = true) (hb : Binds X.K fd ps ds) (hd : Vals dvs ds) (hx : Passes CX X E)
  (ha : PA X (e :: es) t) (hdb : (x == ("__debug__" : Str)) = false := by decide) (he : starEach (e :: es) X.env = (false, eval e X.env) :: starEach es X.env := by rfl) (hpl : (backTo pos (starEach es X.env)).any (·.1) = false := by rfl) :
  PE X (.Call (.Name x p) (e :: es) [] pos) (tCall sp dvs E t) := by
 intro pins s σ H Q I h
 refine wpAny_Call_Name_kw (ld_glob I hg hm ?_ hdb)
 refine PySem.W.callWith_K (h₀ := X.base) I.ok.mod.kin hk (thn (ha pos pins s σ H _ I h) fun us s1 zz11 => ?_) he hpl
 obtain ⟨vs, H1, I1, r, q⟩ := zz11
 refine ⟨I1.kIn, ?_⟩
 exact run_fn F hr hb hd hx I1 r q
theorem pe_meth {pl : Sem Bool} (he : PE X o ta) (c : Cls X.K C) (hm : Meth X.K C m f) (F : FnOk X.prog X.w X.K X.mg X.base CX k f fd ps sp) (hr : Room k X.A) (hb : Binds X.K fd ps ds) (hd : Vals dvs ds) (hx : Passes CX X E) (ha : PA X (e :: es) t)
  (hst : starEach (e :: es) X.env = (false, eval e X.env) :: starEach es X.env := by rfl) (hpl : (backTo pos (starEach es X.env)).any (·.1) = false := by rfl)
  (ht : eval (.Call (.Attribute o m apos) (e :: es) [] pos) X.env = (do
   let ov ← eval o X.env
   standAt apos.atName
   let (f, first) ← holding [ov] (getMethod ov m pl)
   callWith pos f first (backTo pos (starEach (e :: es) X.env)) (backToKw pos (keywordEach [] X.env))) := by rfl) :
  PE X (.Call (.Attribute o m apos) (e :: es) [] pos) (tMeth C m sp dvs E ta t) := by
 intro pins s σ H Q I h
 refine PySem.W.methodCall_KW (pl := pl) (thn (he pins s σ H _ I h) fun u s1 zz12 => ?_) ht
 obtain ⟨x, H1, I1, rx, a, dx, fs, ex, ea, l, q⟩ := zz12
 subst ex
 obtain rfl : u = Value.ref a := rx
 refine getmeth_ok I1 ea c hm l ?_
 refine PySem.W.callWith_K (first := [.ref a]) (h₀ := X.base) I.ok.mod.kin hm.kp (thn (ha pos pins s1 σ H1 _ I1 q) fun us s2 zz13 => ?_) hst hpl
 obtain ⟨vs, H2, I2, r, q2⟩ := zz13
 refine ⟨I2.kIn, ?_⟩
 exact run_fn (us := .ref a :: us) (vs := .ref a :: vs) F hr hb hd hx I2 (.cons rfl r) q2
theorem pe_meth0 {pl : Sem Bool} (he : PE X o ta) (c : Cls X.K C) (hm : Meth X.K C m f) (F : FnOk X.prog X.w X.K X.mg X.base CX k f fd ps sp) (hr : Room k X.A) (hb : Binds X.K fd ps ds) (hd : Vals dvs ds) (hx : Passes CX X E)
  (ht : eval (.Call (.Attribute o m apos) [] [] pos) X.env = (do
   let ov ← eval o X.env
   standAt apos.atName
   let (f, first) ← holding [ov] (getMethod ov m pl)
   callWith pos f first (backTo pos (starEach [] X.env)) (backToKw pos (keywordEach [] X.env))) := by rfl) :
  PE X (.Call (.Attribute o m apos) [] [] pos) (tMeth C m sp dvs E ta tNil) := by
 intro pins s σ H Q I h
 refine PySem.W.methodCall_KW (pl := pl) (thn (he pins s σ H _ I h) fun u s1 zz14 => ?_) ht
 obtain ⟨x, H1, I1, rx, a, dx, fs, ex, ea, l, q⟩ := zz14
 subst ex
 obtain rfl : u = Value.ref a := rx
 refine getmeth_ok I1 ea c hm l ?_
 exact PySem.W.callWith_K0 (first := [.ref a]) I1.kIn hm.kp (run_fn (us := [.ref a]) (vs := [.ref a]) F hr hb hd hx I1 (.cons rfl .nil) q)
structure Mk (K : PySem.W.Frag) (C f : Addr) : Prop where
 makes : PySem.W.makesIn K C = true
 init : PySem.W.findIn K (.ref C) "__init__" = some (some (.ref f))
 fn : PySem.W.isFn K (.ref f) = true
 kp : PySem.W.keepIn K (.ref C) = true
theorem run_make {pins : List (Addr × Obj)} {σ : St} {H : Hp} {s : Shared} {Q : VK} {us : List Value} {vs : List V} (M : Mk X.K C f) (F : FnOk X.prog X.w X.K X.mg X.base CX k f fd ps sp) (hr : Room (k + 1) X.A) (hb : Binds X.K fd ps ds) (hd : Vals dvs ds)
  (hx : Passes CX X E) (I : Inv X pins σ H s) (r : Vals vs us)
  (h : ∀ x dx, H x = none → H dx = none → dx ≠ x → sp (.ref x :: (vs ++ dvs)) (upd (upd H dx (.own x)) x (.ins C dx [])) (fun v H2 => v = .non ∧ Q (.ref x) H2) E) :
  wpAny (model X.prog X.w) X.A (call (.ref C) us) (EP X pins σ Q) X.xe s := by
 have hq := h (s.heap.objs.size + 1) s.heap.objs.size (I.hok.fresh (Nat.le_succ _)) (I.hok.fresh (Nat.le_refl _)) (Nat.ne_of_lt (Nat.lt_succ_self _))
 have I2 := Inv.made (C := C) I
 have r2 : Vals (V.ref (s.heap.objs.size + 1) :: (vs ++ dvs)) (Value.ref (s.heap.objs.size + 1) :: (us ++ ds)) := .cons rfl (r.append hd)
 have hl : (Value.ref (s.heap.objs.size + 1) :: us ++ ds).length = ps.length := by
  have e := r2.length
  rw [F.len _ _ _ _ hq] at e
  exact e.symm
 refine wpAny_call (make_map (f := f) I.kIn M.makes M.init (beq_iff_eq.mp M.fn) (codeAny_mono (F.run _ X.stack _ _ ⟨Value.ref (s.heap.objs.size + 1) :: us, []⟩ (Value.ref (s.heap.objs.size + 1) :: (us ++ ds)) _ _ E (hr.make C us [])
  (I2.env0.make C us []) (hb _ (Value.ref (s.heap.objs.size + 1) :: us) I2.kIn hl) r2 hq) fun r s' hq' => ?_))
 cases r with
 | error e => exact hx pins σ _ _ e s' I2 hq'
 | ok fl =>
  cases fl with
  | ret u =>
   obtain ⟨v, H', I3, rv, ev, q3⟩ := I2.after hq'
   subst ev
   exact ⟨rv, ⟨V.ref (s.heap.objs.size + 1), H', I3, rfl, q3⟩⟩
  | next => exact False.elim hq'
  | brk => exact False.elim hq'
  | cont => exact False.elim hq'
theorem pe_make (M : Mk X.K C f) (F : FnOk X.prog X.w X.K X.mg X.base CX k f fd ps sp) (hr : Room (k + 1) X.A) (hg : Gl X x) (hm : X.mg x = some (.ref C)) (hb : Binds X.K fd ps ds) (hd : Vals dvs ds) (hx : Passes CX X E)
  (ha : PA X (e :: es) t) (hdb : (x == ("__debug__" : Str)) = false := by decide) (he : starEach (e :: es) X.env = (false, eval e X.env) :: starEach es X.env := by rfl) (hpl : (backTo pos (starEach es X.env)).any (·.1) = false := by rfl) :
  PE X (.Call (.Name x p) (e :: es) [] pos) (tMake C sp dvs E t) := by
 intro pins s σ H Q I h
 refine wpAny_Call_Name_kw (ld_glob I hg hm ?_ hdb)
 refine PySem.W.callWith_K (h₀ := X.base) I.ok.mod.kin M.kp (thn (ha pos pins s σ H _ I h) fun us s1 zz15 => ?_) he hpl
 obtain ⟨vs, H1, I1, r, q⟩ := zz15
 refine ⟨I1.kIn, ?_⟩
 exact run_make M F hr hb hd hx I1 r q
end
structure FnScope (N P : List Str) (sc : Scope) : Prop where
 kind : sc.kind = .function
 co : sc.isCoroutine = false
 gen : sc.isGenerator = false
 nd : N.Nodup
 pre : N.take P.length = P
 par : ∀ x ∈ P, sc.names.lookup x = some .local ∨ sc.names.lookup x = some .cell
 nofree : ∀ y ∈ sc.names, y.2 ≠ .free
theorem bindL_out {kindOf : Str → Option NameKind} {x : Str} : ∀ {binds : List (Str × Value)} {m : Str → Option Value}, (∀ v, (x, v) ∉ binds) → bindL kindOf binds m x = m x
 | [], _, _ => rfl
 | (n, v) :: r, m, h => by
  unfold bindL
  rw [bindL_out fun w hw => h w (List.mem_cons_of_mem _ hw)]
  split
  ·have : x ≠ n := by rintro rfl; exact h v List.mem_cons_self
   simp [this]
  ·rfl
theorem bindC_out {kindOf : Str → Option NameKind} {x : Str} : ∀ {binds : List (Str × Value)} {m : Str → Option Value}, (∀ v, (x, v) ∉ binds) → bindC kindOf binds m x = m x
 | [], _, _ => rfl
 | (n, v) :: r, m, h => by
  unfold bindC
  rw [bindC_out fun w hw => h w (List.mem_cons_of_mem _ hw)]
  split
  ·rfl
  ·have : x ≠ n := by rintro rfl; exact h v List.mem_cons_self
   simp [this]
theorem bindL_get {kindOf : Str → Option NameKind} {x : Str} {v : Value} : ∀ {P : List Str} {vs : List Value} {i : Nat} {m : Str → Option Value}, P.Nodup → P[i]? = some x → vs[i]? = some v → kindOf x = some .local →
  bindL kindOf (P.zip vs) m x = some v
 | [], _, _, _, _, h, _, _ => by simp at h
 | _ :: _, [], _, _, _, _, h, _ => by simp at h
 | p :: P, w :: vs, 0, m, nd, h1, h2, hk => by
  simp at h1 h2; subst h1; subst h2
  show bindL kindOf ((p, w) :: P.zip vs) m p = _
  unfold bindL
  rw [bindL_out fun v hv => (List.nodup_cons.mp nd).1 (List.of_mem_zip hv).1, if_pos hk]
  simp
 | p :: P, w :: vs, i + 1, m, nd, h1, h2, hk => by
  show bindL kindOf ((p, w) :: P.zip vs) m x = _
  unfold bindL
  exact bindL_get (i := i) (List.nodup_cons.mp nd).2 (by simpa using h1) (by simpa using h2) hk
theorem bindC_get {kindOf : Str → Option NameKind} {x : Str} {v : Value} : ∀ {P : List Str} {vs : List Value} {i : Nat} {m : Str → Option Value}, P.Nodup → P[i]? = some x → vs[i]? = some v → kindOf x ≠ some .local →
  bindC kindOf (P.zip vs) m x = some v
 | [], _, _, _, _, h, _, _ => by simp at h
 | _ :: _, [], _, _, _, _, h, _ => by simp at h
 | p :: P, w :: vs, 0, m, nd, h1, h2, hk => by
  simp at h1 h2; subst h1; subst h2
  show bindC kindOf ((p, w) :: P.zip vs) m p = _
  unfold bindC
  rw [bindC_out fun v hv => (List.nodup_cons.mp nd).1 (List.of_mem_zip hv).1, if_neg hk]
  simp
 | p :: P, w :: vs, i + 1, m, nd, h1, h2, hk => by
  show bindC kindOf ((p, w) :: P.zip vs) m x = _
  unfold bindC
  exact bindC_get (i := i) (List.nodup_cons.mp nd).2 (by simpa using h1) (by simpa using h2) hk
noncomputable def start (N : List Str) (vs : List V) : St := vs.map some ++ List.replicate (N.length - vs.length) none
noncomputable def cxOf (CX : CXT) (P : Program) (w : World) (K : PySem.W.Frag) (mg : Str → Option Value) (base : Heap) (N : List Str) (qual : Str) (scope : Scope) (f : Addr) (cd : Value) (A : Around) (outer : List Env) (s : Shared) (H : Hp) (E : XK) : Cx where
 prog := P
 w := w
 K := K
 mg := mg
 base := base
 A := A.deeper (envOfC qual scope s.heap.objs.size f cd)
 N := N
 s₀ := s
 H₀ := H
 env := envOfC qual scope s.heap.objs.size f cd
 outer := outer
 stack := envOfC qual scope s.heap.objs.size f cd :: outer
 ex := []
 calm := true
 fn := fun _ => true
 pn := []
 xe := fun e s' => wpAny (model P w) (A.deeper (envOfC qual scope s.heap.objs.size f cd)) (leaving (envOfC qual scope s.heap.objs.size f cd) e) (fun _ s'' => CX outer H s E e s'') (fun e' s'' => CX outer H s E e' s'') s'
theorem cell_has {sc : Scope} {n : Nat} {x : Str} (h : sc.names.lookup x = some .cell) : ∃ c, (cellsFrom n sc.names []).lookup x = some c := by
 have q := PySem.W.cellsFrom_some sc.names n [] (.inl h)
 exact Option.isSome_iff_exists.mp q
theorem inv_start {CX : CXT} {P : Program} {w : World} {K : PySem.W.Frag} {mg : Str → Option Value} {base : Heap} {N ps : List Str} {qual : Str} {scope : Scope} {f : Addr} {cd : Value} {A : Around} {outer : List Env} {s s1 : Shared} {H : Hp} {E : XK} {us : List Value} {vs : List V}
  (S : FnScope N ps scope) (hd : A.handled = none) (e0 : Env0 P w K mg base A outer s H) (hl : vs.length = ps.length) (r : Vals vs us)
  (x : InCallC s s.heap.objs.size (bindL (envOfC qual scope s.heap.objs.size f cd).kindOf (ps.zip us) fun _ => none) (cellsFrom (s.heap.objs.size + 1) scope.names []) (bindC (envOfC qual scope s.heap.objs.size f cd).kindOf (ps.zip us) fun _ => none) s1) :
  Inv (cxOf CX P w K mg base N qual scope f cd A outer s H E) [] (start N vs) H s1 := by
 have hpl : ps.length ≤ N.length := by have := congrArg List.length S.pre; rw [List.length_take] at this; omega
 obtain ⟨h1, tk, rfl, hk⟩ := x.done
 have noA : ∀ b : Addr, b ∉ (cxOf CX P w K mg base N qual scope f cd A outer s H E).ex := fun b z => absurd (show b ∈ ([] : List Addr) from z) (by simp)
 refine ⟨⟨e0.mod, S.kind, rfl, rfl, Nat.le_refl _, fun y z c h1 h2 => ?_, fun y hy => ?_, fun y c _ h => ?_, fun _ => hd, Around.frames_deeper e0.frames, .inr ⟨rfl, rfl⟩, fun b z => absurd z (noA b), e0.bs, e0.bsz, fun b _ _ => noA b, fun b z => absurd z (noA b), e0.funs, e0.frf⟩,
  rfl, e0.bare, Un.kept hk, ⟨_, x.toInCall.ns, fun i y v h1 h2 h3 => ?_⟩, fun y c h => ⟨_, x.cell y c h⟩, e0.hok.fresh (Nat.le_refl _), fun y c h => ?_, fun p hp => absurd (show p ∈ ([] : List (Addr × Obj)) from hp) (by simp), e0.hok.kept hk, ?_⟩
 ·exact name_of_addr x.apart (PySem.mem_of_lookup h1) (PySem.mem_of_lookup h2)
 ·have hy : scope.names.lookup y = some .cell ∨ scope.names.lookup y = some .free := hy
  rcases hy with hy | hy
  ·exact cell_has hy
  ·exact absurd rfl (S.nofree _ (PySem.mem_of_lookup hy))
 ·exact Nat.le_of_lt (x.above y c (PySem.mem_of_lookup h))
 ·have hi : i < vs.length := by
   unfold start at h2
   by_cases hi : i < vs.length
   ·exact hi
   ·rw [List.getElem?_append_right (by simpa using hi)] at h2
    rw [List.getElem?_replicate] at h2
    split at h2 <;> cases h2
  have ha : vs[i]? = some v := by
   unfold start at h2
   rw [List.getElem?_append_left (by simpa using hi), List.getElem?_map] at h2
   cases e : vs[i]? with
   | none => rw [e] at h2; cases h2
   | some a => rw [e] at h2; cases h2; rfl
  obtain ⟨u, hu, rv⟩ := r.get ha
  have hp : ps[i]? = some y := by
   rw [← S.pre, List.getElem?_take_of_lt (by omega)]; exact h1
  have ndP : ps.Nodup := by rw [← S.pre]; exact S.nd.sublist (List.take_sublist _ _)
  refine ⟨u, rv, ?_⟩
  rcases S.par y (List.mem_of_getElem? hp) with k | k
  ·exact .inl ⟨k, bindL_get ndP hp hu k⟩
  ·obtain ⟨c, e⟩ := cell_has (n := s.heap.objs.size + 1) k
   refine .inr ⟨.inl k, c, e, ?_⟩
   have q := x.cell y c e
   rw [bindC_get ndP hp hu (by show scope.names.lookup y ≠ _; rw [k]; decide)] at q
   exact q
 ·exact e0.hok.fresh (Nat.le_of_lt (x.above y c (PySem.mem_of_lookup h)))
 ·unfold start
  show _ = N.length
  rw [List.length_append, List.length_map, List.length_replicate]
  omega
theorem fn_of {CX : CXT} {P : Program} {w : World} {K : PySem.W.Frag} {mg : Str → Option Value} {base : Heap} {k : Nat} {f : Addr} {name qual : Str} {params : Arguments} {body : List Stmt} {scope : Scope} {dV kV doc pm cdv ct oc : Value} {an od : Option Addr}
  {osl : Array (Option Value)} {N ps : List Str} {sp : Sp} (lk : K.lookup f = some ⟨oc, od, .func (PySem.W.fnOf name qual params body scope dV kV doc pm an cdv ct), osl⟩) (hcd : PySem.W.codeIn K cdv qual = true) (S : FnScope N ps scope)
  (len : ∀ vs H Q E, sp vs H Q E → vs.length = ps.length)
  (hbody : ∀ (A : Around) (outer : List Env) (s : Shared) (H : Hp) (vs : List V) (Q : VK) (E : XK), Room k (A.deeper (envOfC qual scope s.heap.objs.size f cdv)) → sp vs H Q E →
   ∃ t, PSs (cxOf CX P w K mg base N qual scope f cdv A outer s H E) body t ∧ t { nx := fun _ H' => Q .non H', rt := Q } (start N vs) H) :
  FnOk P w K mg base CX (k + 1) f (PySem.W.fnOf name qual params body scope dV kV doc pm an cdv ct) ps sp := by
 refine ⟨len, fun A outer s H args us vs Q E hr e0 hb r hsp => ?_⟩
 have hl := len _ _ _ _ hsp
 have KX : K.In s.heap := e0.mod.kin.keeps fun b o e => (e0.bs b o e).1
 have lim : s.heap.NoLimit := e0.mod.nolimit.keeps fun b o e => (e0.bs b o e).1
 have hkind : ∀ y ∈ ps.zip us, scope.names.lookup y.1 = some .local ∨ (scope.names.lookup y.1 = some .cell ∧ ((cellsFrom (s.heap.objs.size + 1) scope.names []).lookup y.1).isSome = true) := fun ⟨n, v⟩ hy => by
  rcases S.par n (List.of_mem_zip hy).1 with q | q
  ·exact .inl q
  ·exact .inr ⟨q, PySem.W.cellsFrom_some _ _ _ (.inl q)⟩
 refine codeAny_call_function hr.depth (KX _ _ lk) rfl S.co S.gen rfl (PySem.W.codeRec_of KX hcd) (hb _ _ _ _ ?_)
 refine wpAny_newFunctionEnv_cells S.kind hkind fun env he s1 x => ?_
 subst he
 refine ⟨lim.keeps x.toInCall.keep, codeAny_func ?_⟩
 obtain ⟨t, ht, hq⟩ := hbody A outer s H vs Q E (hr.deeper _) hsp
 have I : Inv (cxOf CX P w K mg base N qual scope f cdv A outer s H E) [] (start N vs) H s1 := inv_start S hr.hd e0 hl r x
 refine wpAny_mono (ht [] s1 (start N vs) H _ I hq) (fun fl s' hs => ?_) fun e s' hs => hs
 have fin : ∀ {σ' : St} {H' : Hp} {v : V} {u : Value}, Inv (cxOf CX P w K mg base N qual scope f cdv A outer s H E) [] σ' H' s' → RelV v u → Q v H' → CE outer P w H s Q u s' :=
  fun {σ' H' v u} J rv q => ⟨v, H', J.os, J.bare, J.base, J.hok, rv, q⟩
 cases fl with
 | ret u =>
  obtain ⟨v, σ', H', J, rv, q⟩ := hs
  exact fin J rv q
 | next =>
  obtain ⟨σ', H', J, q⟩ := hs
  exact fin (v := V.non) (u := Value.none) J rfl q
 | brk =>
  obtain ⟨_, _, _, q⟩ := hs
  exact False.elim q
 | cont =>
  obtain ⟨_, _, _, q⟩ := hs
  exact False.elim q
end L2
namespace L2
open PySem PySem.Spec PyProof.Rows
section
variable {X : Cx} {x : Str} {p pos : Pos} {e : Expr} {es : List Expr} {t : TA} {id T : String} {r : List V → Hp → VK → Prop}
noncomputable def tCB (r : List V → Hp → VK → Prop) (t : TA) : TE := fun σ H Q => t σ H fun vs H1 => r vs H1 Q
theorem pe_callB (hc : CallR X (.builtin id) r) (hg : Gl X x) (hm : X.mg x = none) (hv : bootBuiltins x = some (.builtin id)) (ha : PA X (e :: es) t) (hn : x ≠ "__name__" := by decide) (hdb : (x == ("__debug__" : Str)) = false := by decide)
  (he : starEach (e :: es) X.env = (false, eval e X.env) :: starEach es X.env := by rfl) (hpl : (backTo pos (starEach es X.env)).any (·.1) = false := by rfl) : PE X (.Call (.Name x p) (e :: es) [] pos) (tCB r t) := by
 intro pins s σ H Q I h
 refine wpAny_Call_Name_kw (ld_blt I hg hm hv ?_ hn hdb)
 refine PyProof.Rows.callWith_builtin1 (thn (ha pos pins s σ H _ I h) fun us s1 zz16 => ?_) he hpl
 obtain ⟨vs, H1, I1, r1, q1⟩ := zz16
 exact hc pins s1 σ H1 vs us Q I1 r1 q1
theorem pe_callTy (hc : CallR X (.type T) r) (hg : Gl X x) (hm : X.mg x = none) (hv : bootBuiltins x = some (.type T)) (ha : PA X (e :: es) t) (hn : x ≠ "__name__" := by decide) (hdb : (x == ("__debug__" : Str)) = false := by decide)
  (he : starEach (e :: es) X.env = (false, eval e X.env) :: starEach es X.env := by rfl) (hpl : (backTo pos (starEach es X.env)).any (·.1) = false := by rfl) : PE X (.Call (.Name x p) (e :: es) [] pos) (tCB r t) := by
 intro pins s σ H Q I h
 refine wpAny_Call_Name_kw (ld_blt I hg hm hv ?_ hn hdb)
 refine PyProof.Rows.callWith_type1 (thn (ha pos pins s σ H _ I h) fun us s1 zz17 => ?_) he hpl
 obtain ⟨vs, H1, I1, r1, q1⟩ := zz17
 exact hc pins s1 σ H1 vs us Q I1 r1 q1
end
end L2
namespace HT
open PySem PyProof.Rows
section
variable {prog : Program} {w : World} {A : Around} {E : Value → Shared → Prop} {s : Shared}
noncomputable def sIx (n d : Nat) : Option Int → Nat
 | none => d
 | some v => if v < 0 then (v + (n : Int)).toNat else min v.toNat n
theorem sIx_none (n d : Nat) : sIx n d none = d := rfl
theorem sIx_nat (n d k : Nat) : sIx n d (some (k : Int)) = min k n := by
 show (if (k : Int) < 0 then ((k : Int) + (n : Int)).toNat else min (k : Int).toNat n) = min k n
 rw [if_neg (by omega), Int.toNat_natCast]
end
end HT
namespace L2
open PySem PySem.Spec PyProof.Rows
noncomputable abbrev TO := St → Hp → (Option Int → Hp → Prop) → Prop
noncomputable def PO (X : Cx) (e : Option Expr) (t : TO) : Prop :=
 ∀ (pins : List (Addr × Obj)) (s : Shared) (σ : St) (H : Hp) (Q : Option Int → Hp → Prop), Inv X pins σ H s → t σ H Q →
  wpAny (model X.prog X.w) X.A (evalPart e X.env) (fun u s' => ∃ o H', Inv X pins σ H' s' ∧ IsPart u o ∧ Q o H') X.xe s
noncomputable def tNoPart : TO := fun _ H Q => Q none H
noncomputable def tPart (t : TE) : TO := fun σ H Q => t σ H fun x H1 => ∃ i, x = .int i ∧ Q (some i) H1
theorem intsAre_of {ns : List Int} : ∀ {us : List Value}, Vals (ns.map V.int) us → IntsAre us ns := by
 induction ns with
 | nil => intro us r; rw [List.map_nil] at r; cases r; exact .nil
 | cons n ns ih =>
  intro us r
  rw [List.map_cons] at r
  cases r with
  | cons r1 r2 =>
   obtain ⟨t, e⟩ := r1
   subst e
   exact .cons n t (ih r2)
section
variable {X : Cx} {e : Expr} {te : TE} {lo hi : Option Expr} {tl th : TO} {pos p2 : Pos}
theorem po_none : PO X none tNoPart := by
 intro pins s σ H Q I h
 rw [evalPart_none]
 exact wpAny_pure ⟨none, H, I, .none, h⟩
theorem po_some (h : PE X e te) : PO X (some e) (tPart te) := by
 intro pins s σ H Q I hw
 rw [evalPart_some]
 refine thn (h pins s σ H _ I hw) fun u s1 zz9 => ?_
 obtain ⟨x, H1, I1, r1, q1⟩ := zz9
 obtain ⟨i, rfl, q⟩ := q1
 obtain ⟨t, rfl⟩ := r1
 exact ⟨some i, H1, I1, .int i t, q⟩
noncomputable def SlR (X : Cx) (r : V → Option Int → Option Int → Hp → VK → Prop) : Prop :=
 ∀ (pins : List (Addr × Obj)) (s : Shared) (σ : St) (H : Hp) (x : V) (v vl vu : Value) (lo hi : Option Int) (sl : Addr) (Q : VK), Inv X pins σ H s → RelV x v → s.heap.IsSliceOf sl vl vu .none → IsPart vl lo → IsPart vu hi → r x lo hi H Q →
  ∃ T id, typeLookup (.type T) "__getitem__" = pure (some (.builtin id)) ∧ s.TypeIs v T ∧ wpAny (model X.prog X.w) X.A (getItem v (.ref sl)) (EP X pins σ Q) X.xe s
noncomputable def tSl (r : V → Option Int → Option Int → Hp → VK → Prop) (te : TE) (tl th : TO) : TE := fun σ H Q => te σ H fun x H1 => tl σ H1 fun l H2 => th σ H2 fun u H3 => r x l u H3 Q
theorem pe_slice {r : V → Option Int → Option Int → Hp → VK → Prop} (hr : SlR X r) (he : PE X e te) (hl : PO X lo tl) (hu : PO X hi th) : PE X (.Subscript e (.Slice lo hi none p2) pos) (tSl r te tl th) := by
 intro pins s σ H Q I h
 refine Subscript_ (thn (he pins s σ H _ I h) fun v s1 zz9 => ?_)
 obtain ⟨x, H1, I1, r1, q1⟩ := zz9
 refine wpAny_Slice (thn (hl pins s1 σ H1 _ I1 q1) fun vl s2 zz18 => ?_)
 obtain ⟨l, H2, I2, pl, q2⟩ := zz18
 refine thn (hu pins s2 σ H2 _ I2 q2) fun vu s3 zz9 => ?_
 obtain ⟨u, H3, I3, pu, q3⟩ := zz9
 rw [evalPart_none]
 refine wpAny_pure ?_
 have I4 : Inv X pins σ H3 { s3 with heap := s3.heap.push { cls := .type "slice", data := .fields #[vl, vu, .none] } } := I3.kept (t' := s3.toks) fun b ob q => Heap.get?_push_of_some _ q
 obtain ⟨T, id, hT, ht, hg⟩ := hr pins { s3 with heap := s3.heap.push { cls := .type "slice", data := .fields #[vl, vu, .none] } } σ H3 x v vl vu l u s3.heap.objs.size Q I4 r1 (Heap.IsSliceOf.new ..) pl pu q3
 show wpAny (model X.prog X.w) X.A (subscriptTail e (.Slice lo hi none p2) v (.ref s3.heap.objs.size)) (EP X pins σ Q) X.xe { s3 with heap := s3.heap.push { cls := .type "slice", data := .fields #[vl, vu, .none] } }
 exact tail_any (ops := [.ref s3.heap.objs.size, v]) ht hT hg (by with_unfolding_all rfl)
noncomputable def cutV (xs : List V) (lo hi : Option Int) : List V := (xs.drop (HT.sIx xs.length 0 lo)).take (HT.sIx xs.length xs.length hi - HT.sIx xs.length 0 lo)
theorem cutV_length (xs : List V) (lo hi : Option Int) : (cutV xs lo hi).length ≤ xs.length := by
 unfold cutV
 rw [List.length_take, List.length_drop]
 omega
end
end L2
namespace L2
open PySem PySem.Spec PyProof.Rows
noncomputable def ixN (n : Nat) (i : Int) : Option Nat := if 0 ≤ i then (if i < n then some i.toNat else none) else if -(n : Int) ≤ i then some (i + n).toNat else none
noncomputable def atI {α : Type} (xs : List α) (i : Int) : Option α := (ixN xs.length i).bind fun j => xs[j]?
theorem ixN_seq {n : Nat} {i : Int} {j : Nat} (h : ixN n i = some j) : seqIndex? i n = some j ∧ j < n ∧ -(n : Int) ≤ i ∧ i < n := by
 unfold ixN at h
 by_cases h0 : 0 ≤ i
 ·rw [if_pos h0] at h
  by_cases h1 : i < n
  ·rw [if_pos h1] at h
   have e : i.toNat = j := Option.some.inj h
   exact ⟨by rw [seqIndex_of h0 h1, e], by omega, by omega, h1⟩
  ·rw [if_neg h1] at h; cases h
 ·rw [if_neg h0] at h
  by_cases h1 : -(n : Int) ≤ i
  ·rw [if_pos h1] at h
   have e : (i + n).toNat = j := Option.some.inj h
   exact ⟨by rw [seqIndex_neg (by omega) h1, e], by omega, h1, by omega⟩
  ·rw [if_neg h1] at h; cases h
theorem atI_get {α : Type} {xs : List α} {i : Int} {v : α} (h : atI xs i = some v) : ∃ j, seqIndex? i xs.length = some j ∧ xs[j]? = some v ∧ j < xs.length ∧ -(xs.length : Int) ≤ i ∧ i < xs.length := by
 unfold atI at h
 cases e : ixN xs.length i with
 | none => rw [e] at h; cases h
 | some j =>
  rw [e] at h
  obtain ⟨h1, h2, h3, h4⟩ := ixN_seq e
  exact ⟨j, h1, h, h2, h3, h4⟩
theorem atI_nat {α : Type} {xs : List α} {j : Nat} {v : α} (h : xs[j]? = some v) : atI xs (j : Int) = some v := by
 have hj : j < xs.length := (List.getElem?_eq_some_iff.mp h).1
 have e : ixN xs.length (j : Int) = some j := by
  unfold ixN
  rw [if_pos (by omega), if_pos (by omega)]; simp
 unfold atI; rw [e]; exact h
noncomputable def PlainIx (b : Expr) : Prop := ∀ o i, subscripted b false o i = operate [o, i] (getItem o i)
noncomputable def IxR (X : Cx) (r : R2) : Prop :=
 ∀ (value slice : Expr) (pins : List (Addr × Obj)) (s : Shared) (σ : St) (H : Hp) (x y : V) (v u : Value) (Q : VK), Inv X pins σ H s → RelV x v → RelV y u → r x y H Q →
  subscripted slice false v u = operate [v, u] (getItem v u) → wpAny (model X.prog X.w) X.A (subscriptTail value slice v u) (EP X pins σ Q) X.xe s
noncomputable def MtR (X : Cx) (id : String) (r : V → List V → Hp → VK → Prop) : Prop :=
 ∀ (pins : List (Addr × Obj)) (s : Shared) (σ : St) (H : Hp) (x : V) (xs : List V) (v : Value) (us : List Value) (Q : VK), Inv X pins σ H s → RelV x v → Vals xs us → r x xs H Q →
  wpAny (model X.prog X.w) X.A (call (.builtin id) (v :: us)) (EP X pins σ Q) X.xe s
section
variable {X : Cx} {a b : Expr} {ta tb : TE} {pos : Pos}
theorem pe_ix {r : R2} (hr : IxR X r) (ha : PE X a ta) (hb : PE X b tb) (hs : PlainIx b) : PE X (.Subscript a b pos) (tOp r ta tb) := by
 intro pins s σ H Q I h
 exact Subscript_ (binT ha hb I h fun v u s2 x y H2 I2 rx ry q => hr a b pins s2 σ H2 x y v u Q I2 rx ry q (hs _ _))
noncomputable def rIxL (K : PySem.W.Frag) : R2 := fun x y H Q => ∃ p xs i v, x = .ref p ∧ y = .int i ∧ SqL K H p xs ∧ atI xs i = some v ∧ Q v H
noncomputable def rIxT (K : PySem.W.Frag) : R2 := fun x y H Q => ∃ p xs i v, x = .ref p ∧ y = .int i ∧ SqT K H p xs ∧ atI xs i = some v ∧ Q v H
theorem ix_list : IxR X (rIxL X.K) := by
 intro value slice pins s σ H x y v u Q I rx ry h hs
 obtain ⟨p, xs, i, z, rfl, rfl, hq, he, q⟩ := h
 cases rx
 obtain ⟨t, rfl⟩ := ry
 obtain ⟨its, r, pl, hz⟩ := I.list hq
 obtain ⟨j, h1, h2, h3, h4, h5⟩ := atI_get he
 obtain ⟨w, ew, rw'⟩ := r.get h2
 have hl := r.length
 have hn := line63
 have fin : EP X pins σ Q w s := ⟨z, H, I, rw', q⟩
 by_cases h0 : 0 ≤ i
 ·have hj : i.toNat = j := by
   rw [seqIndex_of h0 h5] at h1
   exact Option.some.inj h1
  exact item_listR pl.isList h0 (by omega) (by rw [hj]; simpa using ew) fin hs
 ·have hj : (i + (its.toArray.size : Int)).toNat = j := by
   rw [seqIndex_neg (by omega) h4] at h1
   rw [List.size_toArray, ← hl]
   exact Option.some.inj h1
  exact subscriptTail_builtinR (x := w) pl.isList.typeIs slot_list_getitem.lookup
   (wpAny_getItem_list_neg (Q := fun r s' => r = w ∧ EP X pins σ Q r s') pl.isList (by omega) (by rw [List.size_toArray] <;> omega) (by omega) (by rw [hj]; simpa using ew) ⟨rfl, fin⟩) hs
theorem ix_tup : IxR X (rIxT X.K) := by
 intro value slice pins s σ H x y v u Q I rx ry h hs
 obtain ⟨p, xs, i, z, rfl, rfl, hq, he, q⟩ := h
 cases rx
 obtain ⟨t, rfl⟩ := ry
 obtain ⟨its, r, pl, hz⟩ := I.tuple hq
 obtain ⟨j, h1, h2, h3, h4, h5⟩ := atI_get he
 obtain ⟨w, ew, rw'⟩ := r.get h2
 have hl := r.length
 have hn := line63
 have fin : EP X pins σ Q w s := ⟨z, H, I, rw', q⟩
 exact subscriptTail_builtinR (x := w) pl.typeIs slot_tuple_getitem.lookup
  (getItem_tuple (j := j) (Q := fun r s' => r = w ∧ EP X pins σ Q r s') pl (by omega) (by omega) (by rw [List.size_toArray, ← hl]; exact h1) (by simpa using ew) ⟨rfl, fin⟩) hs
theorem mapSeq_set (its : List Value) (n j : Nat) (u : Value) : Obj.mapSeq (·.setIfInBounds j u) { cls := .type "list", data := .seq its.toArray n } = { cls := .type "list", data := .seq (its.set j u).toArray n } := by
 simp [Obj.mapSeq]
theorem Inv.lst {pins : List (Addr × Obj)} {σ : St} {H : Hp} {s : Shared} {p : Addr} {xs : List V} (I : Inv X pins σ H s) (h : H p = some (.lst xs)) :
  ∃ (its : List Value) (n : Nat), Vals xs its ∧ s.heap.get? p = some { cls := .type "list", data := .seq its.toArray n } ∧ xs.length ≤ sizeLine := by
 obtain ⟨z, its, n, r, e⟩ := I.hok p _ h
 exact ⟨its, n, r, e, z⟩
theorem Inv.lstUpd {pins : List (Addr × Obj)} {σ : St} {H : Hp} {s : Shared} {p : Addr} {xs ys : List V} {its its' : List Value} {n n' : Nat} {f : Obj → Obj} (I : Inv X pins σ H s) (h : H p = some (.lst xs))
  (ho : s.heap.get? p = some { cls := .type "list", data := .seq its.toArray n }) (hf : f { cls := .type "list", data := .seq its.toArray n } = { cls := .type "list", data := .seq its'.toArray n' }) (r : Vals ys its') (hz : ys.length ≤ sizeLine) (t : Nat) :
  Inv X pins σ (upd H p (.lst ys)) { s with heap := s.heap.update p f, toks := t } := by
 have e : (s.heap.update p f).get? p = some { cls := .type "list", data := .seq its'.toArray n' } := by
  rw [Heap.get?_update_self f ho (by rw [hf] <;> rfl), hf]
 refine I.write (x := p) (e := p) (by rw [h]; trivial) (.inl rfl) (fun b u hb q => (Heap.get?_update_other _ _ (Ne.symm hb)).trans q) ⟨_, e⟩ ?_
 exact ⟨hz, its', n', r, e⟩
noncomputable def rSetL : V → V → V → Hp → (Hp → Prop) → Prop := fun o i v H Q => ∃ p xs k j, o = .ref p ∧ i = .int k ∧ H p = some (.lst xs) ∧ ixN xs.length k = some j ∧ Q (upd H p (.lst (xs.set j v)))
theorem set_list : PSet X rSetL := by
 intro pins s σ H o i v ov iv u Q I ro ri rv h
 obtain ⟨p, xs, k, j, rfl, rfl, hp, hj, q⟩ := h
 cases ro
 obtain ⟨t, rfl⟩ := ri
 obtain ⟨its, n, r, ho, hz⟩ := I.lst hp
 obtain ⟨h1, h2, h3, h4⟩ := ixN_seq hj
 have hl := r.length
 have hn := line63
 have I' : Inv X pins σ (upd H p (.lst (xs.set j v))) { s with heap := s.heap.update p (Obj.mapSeq (·.setIfInBounds j u)) } :=
  I.lstUpd hp ho (mapSeq_set its n j u) (r.set rv j) (by rw [List.length_set]; exact hz) s.toks
 by_cases h0 : 0 ≤ k
 ·have hk : k.toNat = j := by
   rw [seqIndex_of h0 h4] at h1
   exact Option.some.inj h1
  exact PySem.W.ki_setAt ho h0 (by omega) (by rw [List.size_toArray, ← hl]; exact h4) (by rw [hk]; exact ⟨_, I', q⟩)
 ·have hk : (k + (its.toArray.size : Int)).toNat = j := by
   rw [seqIndex_neg (by omega) h3] at h1
   rw [List.size_toArray, ← hl]
   exact Option.some.inj h1
  exact PySem.W.ki_setBack ho (by omega) (by rw [List.size_toArray, ← hl]; exact h3) (by omega) (by rw [hk]; exact ⟨_, I', q⟩)
theorem slice_bounds (lo hi : Option Int) (n : Nat) : (sliceBounds lo hi none n).1 = ((HT.sIx n 0 lo : Nat) : Int) ∧ (sliceBounds lo hi none n).2.1 = ((HT.sIx n n hi : Nat) : Int) ∧ (sliceBounds lo hi none n).2.2 = 1 := by
 refine ⟨?_, ?_, rfl⟩
 ·cases lo with
  | none => simp [sliceBounds, HT.sIx]
  | some i =>
   simp only [sliceBounds, HT.sIx, Option.getD_none, show (1 : Int) > 0 by decide, if_true]
   by_cases h : i < 0
   ·simp only [h, if_true] <;> omega
   ·simp only [h, if_false] <;> omega
 ·cases hi with
  | none => simp [sliceBounds, HT.sIx]
  | some i =>
   simp only [sliceBounds, HT.sIx, Option.getD_none, show (1 : Int) > 0 by decide, if_true]
   by_cases h : i < 0
   ·simp only [h, if_true] <;> omega
   ·simp only [h, if_false] <;> omega
theorem slicePick_cut (its : List Value) (lo hi : Option Int) : slicePick its.toArray lo hi none = ((its.drop (HT.sIx its.length 0 lo)).take (HT.sIx its.length its.length hi - HT.sIx its.length 0 lo)).toArray := by
 obtain ⟨h1, h2, h3⟩ := slice_bounds lo hi its.toArray.size
 unfold slicePick
 rw [h1, h2, h3]
 simp only [sliceRange_one, pick_run, List.size_toArray] <;> rfl
noncomputable def rSlL (K : PySem.W.Frag) : V → Option Int → Option Int → Hp → VK → Prop := fun x lo hi H Q => ∃ a xs, x = .ref a ∧ SqL K H a xs ∧ ∀ p, H p = none → Q (.ref p) (upd H p (.lst (cutV xs lo hi)))
theorem sl_list : SlR X (rSlL X.K) := by
 intro pins s σ H x v vl vu lo hi sl Q I rx hs pl pu h
 obtain ⟨a, xs, rfl, hx, q⟩ := h
 cases rx
 obtain ⟨its, r, ht, hz⟩ := I.list hx
 have hlen := r.length
 refine ⟨"list", _, slot_list_getitem.lookup, ht.isList.typeIs, ?_⟩
 refine wpAny_getItem_list_slice ht.isList hs pl pu .none (by simp) ?_ (by rw [List.size_toArray] <;> omega)
 rw [slicePick_cut, ← hlen]
 refine ⟨.ref s.heap.objs.size, _, I.laid (t' := s.toks) (o := .lst (cutV xs lo hi)) (fun b ob q => Heap.get?_push_of_some _ q) (Nat.le_refl _) ?_, rfl, q _ (I.hok.fresh (Nat.le_refl _))⟩
 exact ⟨Nat.le_trans (cutV_length xs lo hi) hz, _, 0, (r.drop (HT.sIx xs.length 0 lo)).take (HT.sIx xs.length xs.length hi - HT.sIx xs.length 0 lo), Heap.get?_push_size _ rfl⟩
noncomputable def flatV : V → Bool
 | .non => true
 | .bl _ => true
 | .int _ => true
 | .str _ => true
 | _ => false
noncomputable def eqV : V → V → Bool
 | .non, .non => true
 | .bl a, .bl b => a == b
 | .bl a, .int b => (if a then 1 else 0) == b
 | .int a, .bl b => a == (if b then 1 else 0)
 | .int a, .int b => a == b
 | .str a, .str b => a == b
 | _, _ => false
theorem eqAt_V {A : Around} {s : Shared} {y x : V} {u v : Value} (ry : RelV y u) (rx : RelV x v) (fy : flatV y = true) (fx : flatV x = true) : SeqAt.EqAt A s u v (eqV y x) := by
 cases y with
 | non =>
  cases ry
  cases x with
  | non => cases rx; exact SeqAt.EqAt.same _
  | bl b => cases rx; exact SeqAt.EqAt.none_bool b
  | int b => obtain ⟨t, rfl⟩ := rx; exact SeqAt.EqAt.none_int b t
  | str b => obtain ⟨t, rfl⟩ := rx; exact SeqAt.EqAt.none_str b t
  | _ => exact absurd (show false = true from fx) Bool.false_ne_true
 | bl a =>
  cases ry
  cases x with
  | non => cases rx; exact SeqAt.EqAt.bool_none a
  | bl b => cases rx; exact SeqAt.EqAt.bool_bool a b
  | int b => obtain ⟨t, rfl⟩ := rx; exact SeqAt.EqAt.bool_int a b t
  | str b => obtain ⟨t, rfl⟩ := rx; exact SeqAt.EqAt.bool_str a b t
  | _ => exact absurd (show false = true from fx) Bool.false_ne_true
 | int a =>
  obtain ⟨t', rfl⟩ := ry
  cases x with
  | non => cases rx; exact SeqAt.EqAt.int_none a t'
  | bl b => cases rx; exact SeqAt.EqAt.int_bool a t' b
  | int b => obtain ⟨t, rfl⟩ := rx; exact SeqAt.EqAt.int_int a t' b t
  | str b => obtain ⟨t, rfl⟩ := rx; exact SeqAt.EqAt.int_str a t' b t
  | _ => exact absurd (show false = true from fx) Bool.false_ne_true
 | str a =>
  obtain ⟨t', rfl⟩ := ry
  cases x with
  | non => cases rx; exact SeqAt.EqAt.str_none a t'
  | bl b => cases rx; exact SeqAt.EqAt.str_bool a t' b
  | int b => obtain ⟨t, rfl⟩ := rx; exact SeqAt.EqAt.str_int a t' b t
  | str b => obtain ⟨t, rfl⟩ := rx; exact SeqAt.EqAt.str_str a t' b t
  | _ => exact absurd (show false = true from fx) Bool.false_ne_true
 | _ => exact absurd (show false = true from fy) Bool.false_ne_true
noncomputable def eqU (x : V) (u : Value) : Bool := match u with
 | .none => eqV .non x
 | .bool b => eqV (.bl b) x
 | .int i _ => eqV (.int i) x
 | .str z _ => eqV (.str z) x
 | _ => false
theorem eqU_of {x y : V} {u : Value} (r : RelV y u) (f : flatV y = true) : eqU x u = eqV y x := by
 cases y with
 | non => cases r; rfl
 | bl b => cases r; rfl
 | int i => obtain ⟨t, rfl⟩ := r; rfl
 | str z => obtain ⟨t, rfl⟩ := r; rfl
 | _ => exact absurd (show false = true from f) Bool.false_ne_true
theorem any_eqU {x : V} : ∀ {xs : List V} {us : List Value}, Vals xs us → xs.all flatV = true → us.any (eqU x) = xs.any fun y => eqV y x
 | _, _, .nil, _ => rfl
 | y :: xs, u :: us, .cons r t, f => by
  rw [List.all_cons, Bool.and_eq_true] at f
  rw [List.any_cons, List.any_cons, eqU_of r f.1, any_eqU t f.2]
theorem mem_eqAt {A : Around} {s : Shared} {x : V} {v : Value} (rx : RelV x v) (fx : flatV x = true) : ∀ {xs : List V} {us : List Value}, Vals xs us → xs.all flatV = true → ∀ u ∈ us, SeqAt.EqAt A s u v (eqU x u)
 | _, _, .nil, _ => fun u hu => by cases hu
 | y :: xs, u :: us, .cons r t, f => fun u' hu => by
  rw [List.all_cons, Bool.and_eq_true] at f
  rcases List.mem_cons.mp hu with rfl | hu
  ·rw [eqU_of r f.1]; exact eqAt_V r rx f.1 fx
  ·exact mem_eqAt rx fx t f.2 u' hu
noncomputable def inV (x : V) (xs : List V) : Bool := xs.any fun y => eqV y x
noncomputable def rIn (K : PySem.W.Frag) (neg : Bool) : R2 := fun x y H Q => ∃ p xs, y = .ref p ∧ (SqL K H p xs ∨ SqT K H p xs) ∧ flatV x = true ∧ xs.all flatV = true ∧ Q (.bl (if neg then !inV x xs else inV x xs)) H
theorem op_in_seq : OpR X (compareOp .In) (rIn X.K false) := by
 intro pins s σ H x y v u Q I rx ry h
 obtain ⟨p, xs, rfl, hq, fx, fs, q⟩ := h
 cases ry
 rcases hq with hq | hq
 ·obtain ⟨its, r, pl, hz⟩ := I.list hq
  refine SeqAt.in_listAt (eqU x) pl.isList (fun w hw => mem_eqAt rx fx r fs w (by simpa using hw)) ⟨.bl _, H, I, rfl, ?_⟩
  rw [show its.toArray.any (eqU x) = its.any (eqU x) by simp, any_eqU r fs]
  exact q
 ·obtain ⟨its, r, pl, hz⟩ := I.tuple hq
  refine SeqAt.in_tupleAt (eqU x) pl (fun w hw => mem_eqAt rx fx r fs w (by simpa using hw)) ⟨.bl _, H, I, rfl, ?_⟩
  rw [show its.toArray.any (eqU x) = its.any (eqU x) by simp, any_eqU r fs]
  exact q
theorem op_notIn_seq : OpR X (compareOp .NotIn) (rIn X.K true) := by
 intro pins s σ H x y v u Q I rx ry h
 obtain ⟨p, xs, rfl, hq, fx, fs, q⟩ := h
 cases ry
 rcases hq with hq | hq
 ·obtain ⟨its, r, pl, hz⟩ := I.list hq
  refine SeqAt.notIn_listAt (eqU x) pl.isList (fun w hw => mem_eqAt rx fx r fs w (by simpa using hw)) ⟨.bl _, H, I, rfl, ?_⟩
  rw [show its.toArray.any (eqU x) = its.any (eqU x) by simp, any_eqU r fs]
  exact q
 ·obtain ⟨its, r, pl, hz⟩ := I.tuple hq
  refine SeqAt.notIn_tupleAt (eqU x) pl (fun w hw => mem_eqAt rx fx r fs w (by simpa using hw)) ⟨.bl _, H, I, rfl, ?_⟩
  rw [show its.toArray.any (eqU x) = its.any (eqU x) by simp, any_eqU r fs]
  exact q
theorem call_len_seq : CallR X (.builtin "len") (fun xs H Q => ∃ p ys, xs = [.ref p] ∧ (SqL X.K H p ys ∨ SqT X.K H p ys) ∧ Q (.int ys.length) H) := by
 intro pins s σ H xs us Q I r h
 obtain ⟨p, ys, rfl, hq, q⟩ := h
 obtain ⟨u, rfl, rx⟩ := vals1 r
 cases rx
 have hn := line63
 rcases hq with hq | hq
 ·obtain ⟨its, r', pl, hz⟩ := I.list hq
  have hlen := r'.length
  exact Calls.call_len_list pl.isList (by simp only [List.size_toArray] <;> omega) ⟨.int ys.length, H, I.tok _, ⟨s.toks + 1, by rw [List.size_toArray, hlen]⟩, q⟩
 ·obtain ⟨its, r', pl, hz⟩ := I.tuple hq
  have hlen := r'.length
  exact len_tuple pl (by simp only [List.size_toArray] <;> omega) ⟨.int ys.length, H, I.tok _, ⟨s.toks + 1, by rw [List.size_toArray, hlen]⟩, q⟩
theorem call_len_str : CallR X (.builtin "len") (fun xs H Q => ∃ z, xs = [.str z] ∧ z.length ≤ sizeLine ∧ Q (.int z.length) H) := by
 intro pins s σ H xs us Q I r h
 obtain ⟨z, rfl, hz, q⟩ := h
 obtain ⟨u, rfl, t, rfl⟩ := vals1 r
 have hn := line63
 exact len_str (by omega) ⟨.int z.length, H, I.tok _, ⟨_, rfl⟩, q⟩
theorem call_list_of : CallR X (.type "list") (fun xs H Q => ∃ p ys, xs = [.ref p] ∧ (SqL X.K H p ys ∨ SqT X.K H p ys) ∧ ∀ l, H l = none → Q (.ref l) (upd H l (.lst ys))) := by
 intro pins s σ H xs us Q I r h
 obtain ⟨p, ys, rfl, hq, q⟩ := h
 obtain ⟨u, rfl, rx⟩ := vals1 r
 cases rx
 have fin : ∀ (its : List Value), Vals ys its → ys.length ≤ sizeLine → ∀ (h' : Heap) (c' : Nat), (∀ b o', s.heap.get? b = some o' → h'.get? b = some o') →
   h'.get? s.heap.objs.size = some { cls := .type "list", dict := none, data := .seq its.toArray c', slots := #[] } → EP X pins σ Q (.ref s.heap.objs.size) { s with heap := h' } := fun its r' hz h' c' kp e =>
  ⟨.ref s.heap.objs.size, _, I.laid (t' := s.toks) kp (Nat.le_refl _) (show ObjOk X.prog X.w _ h' _ (.lst ys) from ⟨hz, its, c', r', e⟩), rfl, q _ (I.hok.fresh (Nat.le_refl _))⟩
 rcases hq with hq | hq
 ·obtain ⟨its, r', pl, hz⟩ := I.list hq
  have hlen := r'.length
  obtain ⟨o, ho, hc, n, hd⟩ := pl.isList
  exact call_list_seq p (.inl rfl) ho hc hd (fun h' c' kp e => fin its r' hz h' c' kp e) (by simp only [List.size_toArray] <;> omega)
 ·obtain ⟨its, r', pl, hz⟩ := I.tuple hq
  have hlen := r'.length
  obtain ⟨o, ho, hc, n, hd⟩ := pl
  exact call_list_seq p (.inr rfl) ho hc hd (fun h' c' kp e => fin its r' hz h' c' kp e) (by simp only [List.size_toArray] <;> omega)
theorem call_tuple_of : CallR X (.type "tuple") (fun xs H Q => ∃ p ys, xs = [.ref p] ∧ ((SqL X.K H p ys ∧ ∀ l, H l = none → Q (.ref l) (upd H l (.tup ys))) ∨ (SqT X.K H p ys ∧ Q (.ref p) H))) := by
 intro pins s σ H xs us Q I r h
 obtain ⟨p, ys, rfl, h⟩ := h
 obtain ⟨u, rfl, rx⟩ := vals1 r
 cases rx
 rcases h with ⟨hq, q⟩ | ⟨hq, q⟩
 ·obtain ⟨its, r', pl, hz⟩ := I.list hq
  have hlen := r'.length
  refine call_tuple_list pl.isList (fun h' kp => ?_) (by simp only [List.size_toArray] <;> omega)
  have I1 : Inv X pins σ H { s with heap := h' } := I.kept (t' := s.toks) kp
  have I2 : Inv X pins σ (upd H h'.objs.size (.tup ys)) { s with heap := h'.push { cls := .type "tuple", data := .seq its.toArray } } :=
   I1.laid (t' := s.toks) (fun b o e => Heap.get?_push_of_some _ e) (Nat.le_refl _) (show ObjOk X.prog X.w _ _ _ (.tup ys) from ⟨hz, its, r', IsTup.new _ _⟩)
  exact ⟨.ref h'.objs.size, _, I2, rfl, q _ (I1.hok.fresh (Nat.le_refl _))⟩
 ·obtain ⟨its, r', pl, hz⟩ := I.tuple hq
  exact call_tuple_same pl ⟨.ref p, H, I, rfl, q⟩
noncomputable def tyV (K : PySem.W.Frag) (T : String) (x : V) (H : Hp) : Prop := match x with
 | .str _ => T = "str"
 | .int _ => T = "int"
 | .ref p => (T = "list" ∧ ∃ xs, SqL K H p xs) ∨ (T = "tuple" ∧ ∃ o, K.lookup p = some o ∧ o.cls = .type "tuple" ∧ o.dict = none) ∨
   (T = "dict" ∧ ((∃ kvs, H p = some (.dK kvs)) ∨ ∃ kvs, H p = some (.dT kvs))) ∨ (T = "set" ∧ ∃ S n, H p = some (.set S n))
 | _ => False
theorem tyV_is {pins : List (Addr × Obj)} {σ : St} {H : Hp} {s : Shared} {T : String} {x : V} {v : Value} (I : Inv X pins σ H s) (r : RelV x v) (ty : tyV X.K T x H) :
  s.TypeIs v T ∧ ∀ a, v = .ref a → ∃ ob, s.heap.get? a = some ob ∧ ob.dict = none := by
 cases x with
 | str z =>
  obtain ⟨t, rfl⟩ := r
  cases (show T = "str" from ty)
  exact ⟨typeIs_str s z t, fun _ e => nomatch e⟩
 | int i =>
  obtain ⟨t, rfl⟩ := r
  cases (show T = "int" from ty)
  exact ⟨typeIs_int s i t, fun _ e => nomatch e⟩
 | ref p =>
  cases r
  rcases ty with ⟨rfl, xs, hq⟩ | ⟨rfl, o, hk, hc, hd⟩ | ⟨rfl, hk⟩ | ⟨rfl, S, n, hk⟩
  ·obtain ⟨its, _, pl, _⟩ := I.list hq
   refine ⟨pl.isList.typeIs, fun a e => ?_⟩
   cases e
   obtain ⟨o, n, e, c, hd, _⟩ := pl
   exact ⟨o, e, hd⟩
  ·refine ⟨⟨o, I.kIn p o hk, hc⟩, fun a e => ?_⟩
   cases e
   exact ⟨o, I.kIn _ o hk, hd⟩
  ·have z : ∃ o, s.heap.get? p = some o ∧ o.ExactDict := by
    rcases hk with ⟨kvs, hk⟩ | ⟨kvs, hk⟩
    ·obtain ⟨_, _, _, _, o, _, _, e, ex, _⟩ := I.hok p _ hk
     exact ⟨o, e, ex⟩
    ·obtain ⟨_, _, _, _, o, _, _, e, ex, _⟩ := I.hok p _ hk
     exact ⟨o, e, ex⟩
   obtain ⟨o, e, ex⟩ := z
   refine ⟨⟨o, e, ex.1⟩, fun a e2 => ?_⟩
   cases e2
   exact ⟨o, e, ex.2.1⟩
  ·obtain ⟨o, _, _, _, e, ex, _⟩ := I.hok p _ hk
   refine ⟨⟨o, e, ex.1⟩, fun a e2 => ?_⟩
   cases e2
   exact ⟨o, e, ex.2.1⟩
 | _ => exact False.elim ty
noncomputable def tBM (K : PySem.W.Frag) (T : String) (r : V → List V → Hp → VK → Prop) (to : TE) (t : TA) : TE := fun σ H Q => to σ H fun x H1 => tyV K T x H1 ∧ t σ H1 fun xs H2 => r x xs H2 Q
variable {o e : Expr} {es : List Expr} {to : TE} {t : TA} {name : Str} {apos cpos : Pos} {T id : String} {r : V → List V → Hp → VK → Prop}
theorem pe_bm (pa : PlainAttrs T) (slot : Slot T name id) (hty : typeOf (.builtin id) = pure (.type "method_descriptor")) (hm : MtR X id r) (ho : PE X o to) (ha : PA X (e :: es) t)
  (hbase : attributeBase o name X.env (eval o X.env) = eval o X.env := by rfl)
  (hfew : ((backTo cpos (starEach (e :: es) X.env)).all (fun x => !x.1) && (backToKw cpos (keywordEach [] X.env)).all (fun x => x.1.isSome)
   && decide ((e :: es).length + ([] : List Keyword).length + (if ([] : List Keyword).isEmpty then 0 else 1) < 30)) = true := by rfl)
  (hline : (apos.endLine == cpos.line) = true := by rfl) (hs : starEach (e :: es) X.env = (false, eval e X.env) :: starEach es X.env := by rfl) (hplain : (backTo cpos (starEach es X.env)).any (·.1) = false := by rfl) :
  PE X (.Call (.Attribute o name apos) (e :: es) [] cpos) (tBM X.K T r to t) := by
 intro pins s σ H Q I h
 refine wpAny_Call_method_late hbase hfew hline rfl (thn (ho pins s σ H _ I h) fun v s1 zz9 => ?_)
 obtain ⟨x, H1, I1, r1, ty, q1⟩ := zz9
 obtain ⟨h1, h2⟩ := tyV_is I1 r1 ty
 refine ⟨T, id, pa, slot, hty, h1, h2, ?_⟩
 have hA := ha cpos pins s1 σ H1 _ I1 q1
 rw [hs] at hA ⊢
 refine Calls.callWith_builtin (by show (false || (backTo cpos (starEach es X.env)).any (·.1)) = false; rw [hplain] <;> rfl) (Calls.evalArgs_plain ?_)
 refine thn hA fun us s2 zz19 => ?_
 obtain ⟨vs, H2, I2, r2, q2⟩ := zz19
 exact hm pins s2 σ H2 x vs v us Q I2 r1 r2 q2
end
end L2
namespace L2
open PySem PySem.Spec PyProof.Rows
noncomputable def MtM (X : Cx) (id : String) (r : V → List V → Hp → VK → Prop) : Prop :=
 ∀ (pins : List (Addr × Obj)) (s : Shared) (σ : St) (H : Hp) (x : V) (xs : List V) (v : Value) (us : List Value) (Q : VK), Inv X pins σ H s → RelV x v → Vals xs us → r x xs H Q →
  wpAny (model X.prog X.w) X.A (call (.builtin id) (v :: us)) (EP X pins σ Q) X.xe s
theorem Vals.one {x : V} {us : List Value} (h : Vals [x] us) : ∃ u, us = [u] ∧ RelV x u := by
  cases h with
  | cons r t => cases t; exact ⟨_, rfl, r⟩
theorem Vals.two {x y : V} {us : List Value} (h : Vals [x, y] us) : ∃ u v, us = [u, v] ∧ RelV x u ∧ RelV y v := by
  cases h with
  | cons r t =>
    obtain ⟨v, rfl, q⟩ := Vals.one t
    exact ⟨_, v, rfl, r, q⟩
theorem Vals.eraseIdx : ∀ {xs : List V} {us : List Value} (i : Nat), Vals xs us → Vals (xs.eraseIdx i) (us.eraseIdx i)
 | _, _, _, .nil => .nil
 | _, _, 0, .cons _ t => t
 | _, _, i + 1, .cons r t => .cons r (Vals.eraseIdx i t)
theorem Vals.rep {xs : List V} {us : List Value} (h : Vals xs us) : ∀ k : Nat, Vals (List.replicate k xs).flatten (List.replicate k us).flatten
 | 0 => .nil
 | k + 1 => by
  rw [List.replicate_succ, List.replicate_succ, List.flatten_cons, List.flatten_cons]
  exact Vals.append h (Vals.rep h k)
theorem len_erase {α : Type} : ∀ (l : List α) (i : Nat), (l.eraseIdx i).length ≤ l.length
 | [], _ => Nat.le_refl _
 | _ :: _, 0 => Nat.le_succ _
 | _ :: r, i + 1 => Nat.succ_le_succ (len_erase r i)
theorem foldl_rep (its : List Value) : ∀ (k : Nat) (acc : List Value),
  List.foldl (fun x1 x2 => x1 ++ x2) acc.toArray (List.replicate k its.toArray) = (acc ++ (List.replicate k its).flatten).toArray
 | 0, acc => by simp
 | k + 1, acc => by
  have e : acc.toArray ++ its.toArray = (acc ++ its).toArray := by simp
  have e2 : (acc ++ its) ++ (List.replicate k its).flatten = acc ++ (List.replicate (k + 1) its).flatten := by
   rw [List.replicate_succ, List.flatten_cons, List.append_assoc]
  rw [← e2, ← foldl_rep its k (acc ++ its), ← e, List.replicate_succ, List.foldl_cons]
section
variable {X : Cx} {pins : List (Addr × Obj)} {σ : St} {H : Hp} {s : Shared} {l b : Addr} {xs ys zs : List V}
theorem Inv.lset {its its' : List Value} {n : Nat} {f : Array Value → Array Value} {t' : Nat} (I : Inv X pins σ H s) (hH : H l = some (.lst xs))
  (e : s.heap.get? l = some { cls := .type "list", data := .seq its.toArray n }) (hf : f its.toArray = its'.toArray) (hv : Vals ys its') (hz : ys.length ≤ sizeLine) :
  Inv X pins σ (upd H l (.lst ys)) { s with heap := s.heap.update l (Obj.mapSeq f), toks := t' } := by
 have q := PySem.IsL.update e f
 rw [hf] at q
 refine I.write (x := l) (e := l) (by rw [hH]; exact trivial) (.inl rfl) (fun b' u hb hu => (Heap.get?_update_other s.heap (Obj.mapSeq f) (Ne.symm hb)).trans hu) ⟨_, q⟩ ?_
 exact ⟨hz, its', _, hv, q⟩
theorem Inv.lnew {its : List Value} {t' : Nat} (I : Inv X pins σ H s) (hv : Vals ys its) (hz : ys.length ≤ sizeLine) :
  Inv X pins σ (upd H s.heap.objs.size (.lst ys)) { s with heap := s.heap.push { cls := .type "list", data := .seq its.toArray }, toks := t' } :=
 I.laid (fun _ _ q => Heap.get?_push_of_some _ q) (Nat.le_refl _) ⟨hz, its, 0, hv, Heap.get?_push_size _ rfl⟩
theorem Inv.fresh (I : Inv X pins σ H s) : H s.heap.objs.size = none := I.hok.fresh (Nat.le_refl _)
theorem Inv.lstM (I : Inv X pins σ H s) (hH : H l = some (.lst xs)) : xs.length ≤ sizeLine ∧ ∃ (its : List Value) (n : Nat), Vals xs its ∧ xs.length = its.length ∧ s.heap.get? l = some { cls := .type "list", data := .seq its.toArray n } := by
 obtain ⟨z, its, n, r, e⟩ := I.hok l _ hH
 exact ⟨z, its, n, r, r.length, e⟩
theorem notLongL {n : Nat} (h : n ≤ sizeLine) : Builtin.List.listTooLong n = false := by
 unfold Builtin.List.listTooLong
 exact decide_eq_false (by omega)
end
section
variable {X : Cx}
noncomputable def rAppend : V → List V → Hp → VK → Prop := fun x vs H Q => ∃ l xs y, x = .ref l ∧ vs = [y] ∧ H l = some (.lst xs) ∧ xs.length < sizeLine ∧ Q .non (upd H l (.lst (xs ++ [y])))
theorem mt_append : MtM X "list.append" rAppend := by
 intro pins s σ H x vs v us Q I rx rv h
 obtain ⟨l, xs, y, rfl, rfl, hH, hz, q⟩ := h
 cases rx
 obtain ⟨u, rfl, ru⟩ := rv.one
 obtain ⟨z, its, n, r, hl, e⟩ := I.lstM hH
 refine call_meets F.slot_list_append ⟨_, e, rfl⟩ F.entry_list_append (F.args_list_append_2 _ _) (PySem.list_append l its.toArray n u (by rw [List.size_toArray]; omega)) ⟨e, ?_⟩
 refine ⟨.non, _, I.lset (its' := its ++ [u]) hH e (by simp) (r.append (.cons ru .nil)) ?_, rfl, q⟩
 rw [List.length_append, List.length_singleton]
 omega
noncomputable def rPopAt : V → List V → Hp → VK → Prop := fun x vs H Q => ∃ l xs i k y, x = .ref l ∧ vs = [.int i] ∧ H l = some (.lst xs) ∧ -(2 ^ 63) ≤ i ∧ i < 2 ^ 63 ∧ seqIndex? i xs.length = some k ∧ xs[k]? = some y ∧ Q y (upd H l (.lst (xs.eraseIdx k)))
theorem mt_popAt : MtM X "list.pop" rPopAt := by
 intro pins s σ H x vs v us Q I rx rv h
 obtain ⟨l, xs, i, k, y, rfl, rfl, hH, h1, h2, hk, hy, q⟩ := h
 cases rx
 obtain ⟨u, rfl, ru⟩ := rv.one
 obtain ⟨t, rfl⟩ := ru
 obtain ⟨z, its, n, r, hl, e⟩ := I.lstM hH
 obtain ⟨w, hw, rw'⟩ := r.get hy
 refine call_meets F.slot_list_pop ⟨_, e, rfl⟩ F.entry_list_pop (F.args_list_pop_2 _ _)
  (MeetsSeq.list_pop_at l its.toArray n i t k w (fitsIndex_both h1 h2) (by rw [List.size_toArray, ← hl]; exact hk) (by rw [← Array.getElem?_toList]; exact hw) (by rw [List.size_toArray]; omega)) ⟨e, ?_⟩
 refine ⟨y, _, I.lset (its' := its.eraseIdx k) hH e ?_ (r.eraseIdx k) ?_, rw', q⟩
 ·show its.toArray.eraseIdxIfInBounds k = (its.eraseIdx k).toArray
  rw [List.eraseIdxIfInBounds_toArray]
 ·have := len_erase xs k
  omega
noncomputable def rCat : R2 := fun x y H Q => ∃ l b xs zs, x = .ref l ∧ y = .ref b ∧ H l = some (.lst xs) ∧ H b = some (.lst zs) ∧ xs.length + zs.length ≤ sizeLine ∧ ∀ p, H p = none → Q (.ref p) (upd H p (.lst (xs ++ zs)))
theorem op_cat : OpR X (binaryOp .Add) rCat := by
 intro pins s σ H x y v u Q I rx ry h
 obtain ⟨l, b, xs, zs, rfl, rfl, hH, hB, hz, q⟩ := h
 cases rx
 cases ry
 obtain ⟨z, its, n, r, hl, e⟩ := I.lstM hH
 obtain ⟨z2, its2, n2, r2, hl2, e2⟩ := I.lstM hB
 refine PySem.P.add_list e e2 ?_ (by rw [List.size_toArray, List.size_toArray]; omega)
 have ea : its.toArray ++ its2.toArray = (its ++ its2).toArray := by simp
 rw [ea]
 exact ⟨.ref _, _, I.lnew (t' := s.toks) (r.append r2) (by rw [List.length_append]; omega), rfl, q _ I.fresh⟩
noncomputable def rRep : R2 := fun x y H Q => ∃ l k xs, x = .ref l ∧ y = .int k ∧ H l = some (.lst xs) ∧ -(2 ^ 63) ≤ k ∧ k < 2 ^ 63 ∧ xs.length * k.toNat ≤ sizeLine ∧
 ∀ p, H p = none → Q (.ref p) (upd H p (.lst (List.replicate k.toNat xs).flatten))
theorem len_rep {α : Type} (xs : List α) (k : Nat) : (List.replicate k xs).flatten.length = k * xs.length := by
 induction k with
 | zero => simp
 | succ k ih => rw [List.replicate_succ, List.flatten_cons, List.length_append, ih, Nat.succ_mul, Nat.add_comm]
theorem op_rep : OpR X (binaryOp .Mult) rRep := by
 intro pins s σ H x y v u Q I rx ry h
 obtain ⟨l, k, xs, rfl, rfl, hH, h1, h2, hz, q⟩ := h
 cases rx
 obtain ⟨t, rfl⟩ := ry
 obtain ⟨z, its, n, r, hl, e⟩ := I.lstM hH
 have hlen : its.toArray.size * k.toNat ≤ sizeLine := by rw [List.size_toArray, ← hl]; exact hz
 have hcap : ¬ its.toArray.size * k.toNat > (2 ^ 63 - 1) / 8 := by
  have : (sizeLine : Nat) ≤ (2 ^ 63 - 1) / 8 := by decide
  omega
 have hfit : ¬ (!Builtin.List.listFitsIndex k) = true := by
  rw [fitsIndex_both h1 h2]
  exact Bool.false_ne_true
 have hlong : ¬ Builtin.List.listTooLong (its.toArray.size * k.toNat) = true := by
  rw [notLongL hlen]
  exact Bool.false_ne_true
 have hnew : List.foldl (fun x1 x2 => x1 ++ x2) #[] (List.replicate (if its.toArray.isEmpty = true then 0 else k.toNat) its.toArray) = (List.replicate k.toNat its).flatten.toArray := by
  have f0 : ∀ m : Nat, List.foldl (fun x1 x2 => x1 ++ x2) #[] (List.replicate m its.toArray) = (List.replicate m its).flatten.toArray := fun m => by
   have := foldl_rep its m []
   rw [List.nil_append] at this
   exact this
  rw [f0]
  cases its with
  | nil => simp
  | cons a r' => rw [if_neg (by simp)]
 refine wpAny_binaryOp_repeat_ref (T := "list") (U := "int") (by decide) ⟨_, e, rfl⟩ (fun s' => typeIs_int s' k t) noFill_list_mul F.fills_int_mul F.slot_int_rmul repeat_list F.slot_int_index.lookup
  (call_meets F.slot_int_rmul (typeIs_int s k t) F.entry_int_rmul (F.args_int_rmul_2 _ _) (int___rmul___int_list k t l its.toArray n)
   ⟨e, rfl, ⟨_, e, rfl⟩, call_meets F.slot_list_mul ⟨_, e, rfl⟩ F.entry_list_mul (F.args_list_mul_2 _ _) (AutoListH.list___mul___list_int_3 l its.toArray n k t hfit hcap hlong) ⟨e, ?_⟩⟩)
 rw [hnew]
 exact ⟨.ref _, _, I.lnew (t' := s.toks) (r.rep k.toNat) (by rw [len_rep, Nat.mul_comm]; exact hz), rfl, q _ I.fresh⟩
end
end L2
namespace L2
open PySem PySem.Spec PyProof.Rows
section
variable {κ : Type} [DecidableEq κ]
noncomputable def valV (kvs : List (κ × V)) (k : κ) : Option V := (kvs.find? fun kv => decide (kv.1 = k)).map (·.2)
noncomputable def putK (kvs : List (κ × V)) (k : κ) (v : V) : List (κ × V) :=
 if (kvs.any fun kv => decide (kv.1 = k)) = true then kvs.map (fun kv => if kv.1 = k then (kv.1, v) else kv) else kvs ++ [(k, v)]
theorem valV_pos {p : κ × V} {r : List (κ × V)} {k : κ} (e : p.1 = k) : valV (p :: r) k = some p.2 := by simp [valV, List.find?_cons, e]
theorem valV_neg {p : κ × V} {r : List (κ × V)} {k : κ} (e : ¬ p.1 = k) : valV (p :: r) k = valV r k := by simp [valV, List.find?_cons, e]
theorem valV_any (k : κ) : ∀ kvs : List (κ × V), (kvs.any fun kv => decide (kv.1 = k)) = (valV kvs k).isSome
 | [] => rfl
 | p :: r => by
  rw [List.any_cons]
  by_cases e : p.1 = k
  ·simp only [valV_pos e, decide_eq_true e, Bool.true_or, Option.isSome_some]
  ·rw [valV_neg e, decide_eq_false e, Bool.false_or]; exact valV_any k r
theorem length_putK (kvs : List (κ × V)) (k : κ) (v : V) : (putK kvs k v).length ≤ kvs.length + 1 := by
 unfold putK
 split
 ·rw [List.length_map]; omega
 ·rw [List.length_append, List.length_cons, List.length_nil]; omega
theorem RelO.isSome_eq {o : Option V} {u : Option Value} (r : RelO o u) : o.isSome = u.isSome := by
 cases o with
 | none => cases u with
  | none => rfl
  | some _ => exact (show False from r).elim
 | some _ => cases u with
  | none => exact (show False from r).elim
  | some _ => rfl
theorem RelO.getD {o : Option V} {u : Option Value} {d : V} {d' : Value} (r : RelO o u) (rd : RelV d d') : RelV (o.getD d) (u.getD d') := by
 cases o with
 | none => cases u with
  | none => exact rd
  | some _ => exact (show False from r).elim
 | some _ => cases u with
  | none => exact (show False from r).elim
  | some _ => exact r
theorem KV.val {kvs : List (κ × V)} {vs : List (κ × Value)} (r : KV kvs vs) (k : κ) : RelO (valV kvs k) (valueAt vs k) := by
 unfold KV at r
 induction r with
 | nil => exact True.intro
 | @cons p q ps qs h t ih =>
  obtain ⟨h1, h2⟩ := h
  by_cases e : p.1 = k
  ·have e' : q.1 = k := h1.symm.trans e
   have b : valueAt (q :: qs) k = some q.2 := by simp [valueAt, List.find?_cons, e']
   rw [valV_pos e, b]; exact h2
  ·have e' : ¬ q.1 = k := fun z => e (h1.trans z)
   have b : valueAt (q :: qs) k = valueAt qs k := by simp [valueAt, List.find?_cons, e']
   rw [valV_neg e, b]; exact ih
theorem KV.any {kvs : List (κ × V)} {vs : List (κ × Value)} (r : KV kvs vs) (k : κ) : (kvs.any fun kv => decide (kv.1 = k)) = vs.any fun kv => decide (kv.1 = k) := by
 unfold KV at r
 induction r with
 | nil => rfl
 | cons h t ih => rw [List.any_cons, List.any_cons, ih, h.1]
theorem KV.repl {kvs : List (κ × V)} {vs : List (κ × Value)} (r : KV kvs vs) (k : κ) {y : V} {u : Value} (ry : RelV y u) :
  KV (kvs.map fun kv => if kv.1 = k then (kv.1, y) else kv) (vs.map fun kv => if kv.1 = k then (kv.1, u) else kv) := by
 unfold KV at r ⊢
 induction r with
 | nil => exact .nil
 | @cons p q ps qs h t ih =>
  rw [List.map_cons, List.map_cons]
  refine .cons ?_ ih
  obtain ⟨h1, h2⟩ := h
  by_cases e : p.1 = k
  ·rw [if_pos e, if_pos (h1.symm.trans e)]; exact ⟨h1, ry⟩
  ·rw [if_neg e, if_neg (fun z => e (h1.trans z))]; exact ⟨h1, h2⟩
theorem KV.put {kvs : List (κ × V)} {vs : List (κ × Value)} (r : KV kvs vs) (k : κ) {y : V} {u : Value} (ry : RelV y u) : KV (putK kvs k y) (stored vs k u) := by
 unfold putK stored
 rw [r.any k]
 by_cases e : (vs.any fun kv => decide (kv.1 = k)) = true
 ·rw [if_pos e, if_pos e]; exact r.repl k ry
 ·rw [if_neg e, if_neg e]; exact Paired.snoc r ⟨rfl, ry⟩
theorem KV.length {kvs : List (κ × V)} {vs : List (κ × Value)} (r : KV kvs vs) : kvs.length = vs.length := Paired.length r
end
theorem kV_is {P : Program} {w : World} {k : Key} {u : Value} (r : RelV (kV k) u) : (mixKind P w).is k u = true := by
 cases k with
 | inl i => obtain ⟨t, e⟩ := (show ∃ t, u = Value.int i t from r); subst e; exact mixKind_int P w i t
 | inr x => obtain ⟨t, e⟩ := (show ∃ t, u = Value.str x t from r); subst e; exact mixKind_str P w x t
theorem items_are {P : Program} {w : World} : ∀ {ks : List Key} {us : List Value}, Vals (ks.map kV) us → ItemsAre (mixKind P w) ks us
 | [], _, r => by rw [List.map_nil] at r; cases r; exact .nil
 | k :: ks, _, r => by
  rw [List.map_cons] at r
  cases r with
  | cons h t => exact .cons (kV_is h) (items_are t)
noncomputable abbrev KT (H : Hp) : List (List Key × V) → List (List Key × Addr × Value) → Prop := Paired fun p q => p.1 = q.1 ∧ H q.2.1 = some (.tup (p.1.map kV)) ∧ RelV p.2 q.2.2
theorem KT.val {H : Hp} {kvs : List (List Key × V)} {xs : List (List Key × Addr × Value)} (r : KT H kvs xs) (k : List Key) : RelO (valV kvs k) ((atKey xs k).map (·.2)) := by
 induction r with
 | nil => exact True.intro
 | @cons p q ps qs h t ih =>
  obtain ⟨h1, _, h2⟩ := h
  by_cases e : p.1 = k
  ·have e' : q.1 = k := h1.symm.trans e
   have b : atKey (q :: qs) k = some q.2 := by simp [atKey, List.find?_cons, e']
   rw [valV_pos e, b]; exact h2
  ·have e' : ¬ q.1 = k := fun z => e (h1.trans z)
   have b : atKey (q :: qs) k = atKey qs k := by simp [atKey, List.find?_cons, e']
   rw [valV_neg e, b]; exact ih
theorem KT.repl {H : Hp} {kvs : List (List Key × V)} {xs : List (List Key × Addr × Value)} (r : KT H kvs xs) (k : List Key) {y : V} {u : Value} (ry : RelV y u) :
  KT H (kvs.map fun kv => if kv.1 = k then (kv.1, y) else kv) (xs.map (putAt k u)) := by
 induction r with
 | nil => exact .nil
 | @cons p q ps qs h t ih =>
  rw [List.map_cons, List.map_cons]
  refine .cons ?_ ih
  obtain ⟨h1, h2, h3⟩ := h
  unfold putAt
  by_cases e : p.1 = k
  ·rw [if_pos e, if_pos (h1.symm.trans e)]; exact ⟨h1, h2, ry⟩
  ·rw [if_neg e, if_neg (fun z => e (h1.trans z))]; exact ⟨h1, h2, h3⟩
theorem KT.put {H : Hp} {kvs : List (List Key × V)} {xs : List (List Key × Addr × Value)} (r : KT H kvs xs) (k : List Key) {b : Addr} {y : V} {u : Value} (hb : H b = some (.tup (k.map kV))) (ry : RelV y u) :
  KT H (putK kvs k y) (storedH xs k b u) := by
 have e : (kvs.any fun kv => decide (kv.1 = k)) = (atKey xs k).isSome := by
  rw [valV_any, (r.val k).isSome_eq, Option.isSome_map]
 unfold putK storedH
 rw [e]
 by_cases q : (atKey xs k).isSome = true
 ·rw [if_pos q, if_pos q]; exact r.repl k ry
 ·rw [if_neg q, if_neg q]; exact Paired.snoc r ⟨rfl, hb, ry⟩
theorem KT.keeps {H H' : Hp} {kvs : List (List Key × V)} {xs : List (List Key × Addr × Value)} (r : KT H kvs xs) (ht : ∀ b ys, H b = some (.tup ys) → H' b = some (.tup ys)) : KT H' kvs xs :=
 Paired.mapP r fun _ _ z => ⟨z.1, ht _ _ z.2.1, z.2.2⟩
section
variable {P : Program} {w : World} {H : Hp} {h : Heap} {a : Addr}
theorem rd_of {u : HO} (ok : HOk P w H h) (e : Rd H a u) : ObjOk P w H h a u := e.ok ok
theorem dk_rd {kvs : List (Key × V)} (ok : HOk P w H h) (e : Rd H a (.dK kvs)) : kvs.length ≤ sizeLine ∧ (a == sysModules) = false ∧ ∃ vs, KV kvs vs ∧ h.DictOf (mixKind P w) a vs :=
 show ObjOk P w H h a (.dK kvs) from rd_of ok e
theorem dk_of {kvs : List (Key × V)} (ok : HOk P w H h) (e : H a = some (.dK kvs)) : kvs.length ≤ sizeLine ∧ (a == sysModules) = false ∧ ∃ vs, KV kvs vs ∧ h.DictOf (mixKind P w) a vs := dk_rd ok (.inl e)
theorem key_of {ks : List Key} (ok : HOk P w H h) (e : H a = some (.tup (ks.map kV))) : (tupleKind (mixKind P w)).is h ks a := by
 obtain ⟨_, its, r, o, h1, h2, n, h3⟩ := (show ObjOk P w H h a (.tup (ks.map kV)) from ok a _ e)
 exact ⟨o, its.toArray, n, h1, h2, h3, by simpa using items_are r⟩
theorem dt_rd {kvs : List (List Key × V)} (ok : HOk P w H h) (e : Rd H a (.dT kvs)) : kvs.length ≤ sizeLine ∧ (a == sysModules) = false ∧
  ∃ xs, KT H kvs xs ∧ h.DictOfH (tupleKind (mixKind P w)) a xs := by
 obtain ⟨z, y, xs, r, o, es, ep, h1, h2, h3, h4, h5⟩ := (show ObjOk P w H h a (.dT kvs) from rd_of ok e)
 refine ⟨z, y, xs, r, o, es, ep, h1, h2, h3, h4, fun x hx => ?_, h5⟩
 have all : ∀ {l : List (List Key × V)} {m : List (List Key × Addr × Value)}, KT H l m → ∀ x ∈ m, (tupleKind (mixKind P w)).is h x.1 x.2.1 := by
  intro l m q
  induction q with
  | nil => intro x hx; exact nomatch hx
  | @cons p q ps qs hq t ih =>
   intro x hx
   rcases List.mem_cons.mp hx with e | hx
   ·subst e
    exact key_of ok (by rw [← hq.1]; exact hq.2.1)
   ·exact ih x hx
 exact all r x hx
theorem dt_of {kvs : List (List Key × V)} (ok : HOk P w H h) (e : H a = some (.dT kvs)) : kvs.length ≤ sizeLine ∧ (a == sysModules) = false ∧
  ∃ xs, KT H kvs xs ∧ h.DictOfH (tupleKind (mixKind P w)) a xs := dt_rd ok (.inl e)
end
noncomputable def DGet (H : Hp) (a : Addr) (y : V) (r : Option V) : Prop :=
 (∃ kvs k, Rd H a (.dK kvs) ∧ y = kV k ∧ r = valV kvs k) ∨ ∃ kvs k b, Rd H a (.dT kvs) ∧ y = .ref b ∧ H b = some (.tup (k.map kV)) ∧ r = valV kvs k
noncomputable def DPut (H : Hp) (a : Addr) (y v : V) (H' : Hp) : Prop :=
 (∃ kvs k, H a = some (.dK kvs) ∧ y = kV k ∧ kvs.length < sizeLine ∧ H' = upd H a (.dK (putK kvs k v))) ∨
 ∃ kvs k b, H a = some (.dT kvs) ∧ y = .ref b ∧ H b = some (.tup (k.map kV)) ∧ kvs.length < sizeLine ∧ H' = upd H a (.dT (putK kvs k v))
theorem DGet.k {H : Hp} {a : Addr} {kvs : List (Key × V)} {k : Key} (e : H a = some (.dK kvs)) : DGet H a (kV k) (valV kvs k) := .inl ⟨kvs, k, .inl e, rfl, rfl⟩
theorem DPut.k {H : Hp} {a : Addr} {kvs : List (Key × V)} {k : Key} {v : V} (e : H a = some (.dK kvs)) (hl : kvs.length < sizeLine) : DPut H a (kV k) v (upd H a (.dK (putK kvs k v))) := .inl ⟨kvs, k, e, rfl, hl, rfl⟩
section
variable {X : Cx} {pins : List (Addr × Obj)} {σ : St} {H : Hp} {s : Shared} {a : Addr} {y v : V} {u r : Value} {o : Option V} {A : Around} {E : Value → Shared → Prop}
theorem Inv.big (I : Inv X pins σ H s) : sysModules < s.heap.objs.size := by
 have h : mainGlobals < s.heap.objs.size := (I.mod.glob.keeps I.bk).lt
 exact Nat.lt_trans (by decide) h
theorem d_getItem {Q : Value → Shared → Prop} (hu : A.units + 1 < cLine) (I : Inv X pins σ H s) (g : DGet H a y (some v)) (ry : RelV y u) (h : ∀ w' s', Inv X pins σ H s' → RelV v w' → Q w' s') :
  wpAny (model X.prog X.w) A (getItem (.ref a) u) Q E s := by
 rcases g with ⟨kvs, k, e, ey, l⟩ | ⟨kvs, k, b, e, ey, eb, l⟩
 ·subst ey
  obtain ⟨z, hd, vs, rel, dd⟩ := dk_rd I.hok e
  obtain ⟨w', hw, rw'⟩ := RelO.some_of (v := v) (o := valueAt vs k) (by rw [l]; exact rel.val k)
  exact wpAny_getItem_of (kV_is ry) dd.mapOf hw (h w' _ (I.tok _) rw')
 ·subst ey
  cases (show u = Value.ref b from ry)
  obtain ⟨z, hd, xs, rel, dd⟩ := dt_rd I.hok e
  obtain ⟨w', hw, rw'⟩ := RelO.some_of (v := v) (o := (atKey xs k).map (·.2)) (by rw [l]; exact rel.val k)
  obtain ⟨p, hp, hp2⟩ := Option.map_eq_some_iff.mp hw
  refine wpAny_getItem_heap (tupleKind_room_in1 hu) (key_of I.hok eb) dd hp ?_
  rw [hp2]
  exact h w' _ (I.tok _) rw'
theorem d_in {Q : Value → Shared → Prop} (hu : A.units + 1 < cLine) (I : Inv X pins σ H s) (g : DGet H a y o) (ry : RelV y u) (h : ∀ s', Inv X pins σ H s' → Q (.bool o.isSome) s') :
  wpAny (model X.prog X.w) A (compareOp .In u (.ref a)) Q E s := by
 rcases g with ⟨kvs, k, e, ey, l⟩ | ⟨kvs, k, b, e, ey, eb, l⟩
 ·subst ey
  obtain ⟨z, hd, vs, rel, dd⟩ := dk_rd I.hok e
  refine wpAny_in_of (kV_is ry) hd dd.mapOf ?_
  rw [← (rel.val k).isSome_eq, ← l]
  exact h _ (I.tok _)
 ·subst ey
  cases (show u = Value.ref b from ry)
  obtain ⟨z, hd, xs, rel, dd⟩ := dt_rd I.hok e
  refine wpAny_in_heap (tupleKind_room_in1 hu) (key_of I.hok eb) hd dd ?_
  have q := (rel.val k).isSome_eq
  rw [Option.isSome_map] at q
  rw [← q, ← l]
  exact h _ (I.tok _)
theorem d_notIn {Q : Value → Shared → Prop} (hu : A.units + 1 < cLine) (I : Inv X pins σ H s) (g : DGet H a y o) (ry : RelV y u) (h : ∀ s', Inv X pins σ H s' → Q (.bool (!o.isSome)) s') :
  wpAny (model X.prog X.w) A (compareOp .NotIn u (.ref a)) Q E s := by
 rcases g with ⟨kvs, k, e, ey, l⟩ | ⟨kvs, k, b, e, ey, eb, l⟩
 ·subst ey
  obtain ⟨z, hd, vs, rel, dd⟩ := dk_rd I.hok e
  refine wpAny_notIn_of (kV_is ry) hd dd.mapOf ?_
  rw [← (rel.val k).isSome_eq, ← l]
  exact h _ (I.tok _)
 ·subst ey
  cases (show u = Value.ref b from ry)
  obtain ⟨z, hd, xs, rel, dd⟩ := dt_rd I.hok e
  refine wpAny_notIn_heap (tupleKind_room_in1 hu) (key_of I.hok eb) hd dd ?_
  have q := (rel.val k).isSome_eq
  rw [Option.isSome_map] at q
  rw [← q, ← l]
  exact h _ (I.tok _)
theorem d_write {h' : Heap} {t' : Nat} {ob : HO} (I : Inv X pins σ H s) (mu : Mut (H a)) (hs : Heap.SameBut a s.heap h') (he : ∃ q, h'.get? a = some q) (new : ObjOk X.prog X.w (upd H a ob) h' a ob) :
  Inv X pins σ (upd H a ob) { s with heap := h', toks := t' } :=
 I.write (x := a) (e := a) mu (.inl rfl) (fun b q hb z => (hs.2 b hb).trans z) he new
theorem dk_new {P : Program} {w : World} {H' : Hp} {h' : Heap} {kvs : List (Key × V)} {vs : List (Key × Value)} (z : kvs.length ≤ sizeLine) (hd : (a == sysModules) = false) (rel : KV kvs vs) (dd : h'.DictOf (mixKind P w) a vs) :
  ObjOk P w H' h' a (.dK kvs) := ⟨z, hd, vs, rel, dd⟩
theorem d_setItem {H' : Hp} {Q : Unit → Shared → Prop} (hu : A.units + 1 < cLine) (I : Inv X pins σ H s) (g : DPut H a y v H') (ry : RelV y u) (rv : RelV v r) (h : ∀ s', Inv X pins σ H' s' → Q () s') :
  wpAny (model X.prog X.w) A (setItem (.ref a) u r) Q E s := by
 rcases g with ⟨kvs, k, e, ey, l, eH⟩ | ⟨kvs, k, b, e, ey, eb, l, eH⟩
 ·subst ey eH
  obtain ⟨z, hd, vs, rel, dd⟩ := dk_of I.hok e
  have hz : vs.length ≤ sizeLine := by rw [← rel.length]; exact z
  have hl : (putK kvs k v).length ≤ sizeLine := by have := length_putK kvs k v; omega
  refine wpAny_setItem_pairs (hsz := hz) (kV_is ry) dd fun h' dd' hs => h _ ?_
  have he : ∃ q, h'.get? a = some q := let ⟨q, _, _, hq, _⟩ := dd'; ⟨q, hq⟩
  exact d_write I (by rw [e]; exact True.intro) hs he (dk_new hl hd (rel.put k rv) dd')
 ·subst ey eH
  cases (show u = Value.ref b from ry)
  obtain ⟨z, hd, xs, rel, dd⟩ := dt_of I.hok e
  have hz : xs.length ≤ sizeLine := by rw [← Paired.length rel]; exact z
  have hl : (putK kvs k v).length ≤ sizeLine := by have := length_putK kvs k v; omega
  refine wpAny_setItem_heap (hsz := hz) (tupleKind_room_in1 hu) (key_of I.hok eb) dd fun h' dd' hs => h _ ?_
  obtain ⟨q, es, ep, hq, h2, h3, h4, _, h5⟩ := dd'
  refine d_write I (by rw [e]; exact True.intro) hs ⟨q, hq⟩ ⟨hl, hd, _, (rel.put k eb rv).keeps fun c ys ec => ?_, q, es, ep, hq, h2, h3, h4, h5⟩
  rw [upd_ne (ne_of ec e (fun z => nomatch z))]
  exact ec
end
noncomputable def NoSl (i : Expr) : Prop := ∀ ov iv, subscripted i false ov iv = operate [ov, iv] (getItem ov iv)
theorem subD_of {prog : Program} {w : World} {A : Around} {E : Value → Shared → Prop} {s : Shared} {env : Env} {value slice : Expr} {pos : Pos} {T id : String} {Q : Value → Shared → Prop}
  (hl : typeLookup (.type T) "__getitem__" = pure (some (.builtin id))) (hs : NoSl slice)
  (h : wpAny (model prog w) A (eval value env) (fun o s₁ => wpAny (model prog w) A (eval slice env) (fun i s₂ => s₂.TypeIs o T ∧ wpAny (model prog w) A (getItem o i) Q E s₂) E s₁) E s) :
  wpAny (model prog w) A (eval (.Subscript value slice pos) env) Q E s := by
 refine Subscript_ (wpAny_mono h (fun o s₁ h₁ => wpAny_mono h₁ (fun i s₂ h₂ => ?_) fun _ _ x => x) fun _ _ x => x)
 obtain ⟨hT, h₂⟩ := h₂
 unfold subscriptTail
 refine wpAny_bind ?_
 rw [getitemInPython_of_ne hT.not_modules]
 refine wpAny_bind (wpAny_specialOf hT hl ?_)
 have fin : wpAny (model prog w) A (subscripted slice false o i) (fun r s₃ => wpAny (model prog w) A (letTemporaryGo value o r >>= fun _ => pure r) Q E s₃) E s₂ := by
  rw [hs o i]
  exact wpAny_operating (wpAny_mono h₂ (fun r s₃ h₃ => wpAny_bind (wpAny_letTemporaryGo (wpAny_pure h₃))) fun _ _ x => x)
 first
  | exact wpAny_pure (wpAny_bind fin)
  | exact wpAny_bind (wpAny_pure (wpAny_bind fin))
  | exact wpAny_bind fin
theorem dict_typeIs {X : Cx} {pins : List (Addr × Obj)} {σ : St} {H : Hp} {s : Shared} {a : Addr} {y : V} {o : Option V} (I : Inv X pins σ H s) (g : DGet H a y o) : s.TypeIs (.ref a) "dict" := by
 rcases g with ⟨kvs, k, e, _, _⟩ | ⟨kvs, k, b, e, _, _, _⟩
 ·obtain ⟨_, _, vs, _, dd⟩ := dk_rd I.hok e
  exact dd.typeIs
 ·obtain ⟨_, _, xs, _, dd⟩ := dt_rd I.hok e
  exact dd.typeIs
noncomputable def tDGet (td ty : TE) : TE := fun σ H Q => td σ H fun x H1 => ty σ H1 fun y H2 => ∃ a v, x = .ref a ∧ DGet H2 a y (some v) ∧ Q v H2
noncomputable def tDIn (ty td : TE) : TE := fun σ H Q => ty σ H fun y H1 => td σ H1 fun x H2 => ∃ a o, x = .ref a ∧ DGet H2 a y o ∧ Q (.bl o.isSome) H2
noncomputable def tDNotIn (ty td : TE) : TE := fun σ H Q => ty σ H fun y H1 => td σ H1 fun x H2 => ∃ a o, x = .ref a ∧ DGet H2 a y o ∧ Q (.bl (!o.isSome)) H2
noncomputable def sDPut (td ty tv : TE) : TS := fun D σ H => tv σ H fun v H1 => td σ H1 fun x H2 => ty σ H2 fun y H3 => ∃ a H4, x = .ref a ∧ DPut H3 a y v H4 ∧ D.nx σ H4
section
variable {X : Cx} {o i e value : Expr} {pos pos' tpos : Pos} {td ty tv : TE}
theorem pe_dget (hu : X.A.units + 1 < cLine) (ho : PE X o td) (hi : PE X i ty) (hs : NoSl i) : PE X (.Subscript o i pos) (tDGet td ty) := by
 intro pins s σ H Q I h
 refine subD_of PySem.F.slot_dict_getitem.lookup hs (thn (ho pins s σ H _ I h) fun u s1 zz20 => ?_)
 obtain ⟨x, H1, I1, rx, q1⟩ := zz20
 refine thn (hi pins s1 σ H1 _ I1 q1) fun iv s2 zz9 => ?_
 obtain ⟨y, H2, I2, ry, a, v, ex, g, q2⟩ := zz9
 subst ex
 obtain rfl : u = Value.ref a := rx
 exact ⟨dict_typeIs I2 g, d_getItem hu I2 g ry fun w' s3 I3 rw' => ⟨v, H2, I3, rw', q2⟩⟩
theorem pc_din (hu : X.A.units + 1 < cLine) (hi : PE X i ty) (ho : PE X o td) : PC X .In i o (tDIn ty td) := by
 intro pins s σ H Q I h
 refine thn (hi pins s σ H _ I h) fun iv s1 zz21 => ?_
 obtain ⟨y, H1, I1, ry, q1⟩ := zz21
 refine thn (ho pins s1 σ H1 _ I1 q1) fun u s2 zz9 => ?_
 obtain ⟨x, H2, I2, rx, a, ov, ex, g, q2⟩ := zz9
 subst ex
 obtain rfl : u = Value.ref a := rx
 exact d_in hu I2 g ry fun s3 I3 => ⟨.bl ov.isSome, H2, I3, rfl, q2⟩
theorem pc_dnotin (hu : X.A.units + 1 < cLine) (hi : PE X i ty) (ho : PE X o td) : PC X .NotIn i o (tDNotIn ty td) := by
 intro pins s σ H Q I h
 refine thn (hi pins s σ H _ I h) fun iv s1 zz22 => ?_
 obtain ⟨y, H1, I1, ry, q1⟩ := zz22
 refine thn (ho pins s1 σ H1 _ I1 q1) fun u s2 zz9 => ?_
 obtain ⟨x, H2, I2, rx, a, ov, ex, g, q2⟩ := zz9
 subst ex
 obtain rfl : u = Value.ref a := rx
 exact d_notIn hu I2 g ry fun s3 I3 => ⟨.bl (!ov.isSome), H2, I3, rfl, q2⟩
theorem ps_dput (hu : X.A.units + 1 < cLine) (ho : PE X o td) (hi : PE X i ty) (hv : PE X value tv) (hs : swapsWith value (some (.Subscript o i pos')) pos.line X.env = pure false) :
  PS X (.Assign [.Subscript o i pos'] value pos) (sDPut td ty tv) := by
 intro pins s σ H D I h
 refine wpAny_Assign_Subscript (thn (hv pins s σ H _ I h) fun r s1 zz23 => ?_) hs
 obtain ⟨v, H1, I1, rv, q1⟩ := zz23
 refine thn (ho pins s1 σ H1 _ I1 q1) fun u s2 zz24 => ?_
 obtain ⟨x, H2, I2, rx, q2⟩ := zz24
 refine thn (hi pins s2 σ H2 _ I2 q2) fun iv s3 zz25 => ?_
 obtain ⟨y, H3, I3, ry, a, H4, ex, g, q3⟩ := zz25
 subst ex
 obtain rfl : u = Value.ref a := rx
 exact d_setItem hu I3 g ry rv fun s4 I4 => ⟨σ, H4, I4, q3⟩
end
theorem dk_empty {P : Program} {w : World} {H : Hp} (h : Heap) (hb : sysModules < h.objs.size) : ObjOk P w H (h.push { cls := .type "dict", data := .dict #[] }) h.objs.size (.dK []) :=
 ⟨Nat.zero_le _, beq_eq_false_iff_ne.mpr (Ne.symm (Nat.ne_of_lt hb)), [], .nil, Heap.DictOf.new h⟩
noncomputable def tDNewK : TE := fun _ H Q => ∀ p, H p = none → Q (.ref p) (upd H p (.dK []))
section
variable {X : Cx} {pos : Pos}
theorem pe_dnewK : PE X (.Dict [] [] pos) tDNewK := fun pins s σ H Q I h =>
 wpAny_Dict_empty ⟨.ref s.heap.objs.size, _, I.laid (a := s.heap.objs.size) (o := .dK []) (t' := s.toks) (fun _ _ q => Heap.get?_push_of_some _ q) (Nat.le_refl _) (dk_empty s.heap I.big), rfl, h _ (I.hok.fresh (Nat.le_refl _))⟩
end
noncomputable def tPairs : List (TE × TE) → St → Hp → (List (V × V) → Hp → Prop) → Prop
 | [], _, H, Q => Q [] H
 | (tk, tv) :: r, σ, H, Q => tk σ H fun x H1 => tv σ H1 fun y H2 => tPairs r σ H2 fun ps H3 => Q ((x, y) :: ps) H3
noncomputable abbrev VV : List (V × V) → List (Value × Value) → Prop := Paired fun p q => RelV p.1 q.1 ∧ RelV p.2 q.2
noncomputable def PPs (X : Cx) (pos : Pos) (keys : List (Option Expr)) (values : List Expr) (trs : List (TE × TE)) : Prop :=
 ∀ (pins : List (Addr × Obj)) (s : Shared) (σ : St) (H : Hp) (Q : List (V × V) → Hp → Prop), Inv X pins σ H s → tPairs trs σ H Q →
  wpAny (model X.prog X.w) X.A (evalPairs (pairTrees keys values X.env pos)) (fun vs s' => ∃ ps H', Inv X pins σ H' s' ∧ VV ps vs ∧ Q ps H') X.xe s
theorem pps_nil {X : Cx} {pos : Pos} : PPs X pos [] [] [] := fun pins s σ H Q I h => pairTrees_nil_walk ⟨[], H, I, .nil, h⟩
theorem pps_cons {X : Cx} {pos : Pos} {k v : Expr} {ks : List (Option Expr)} {vs : List Expr} {tk tv : TE} {trs : List (TE × TE)} (hk : PE X k tk) (hv : PE X v tv) (hr : PPs X pos ks vs trs) :
  PPs X pos (some k :: ks) (v :: vs) ((tk, tv) :: trs) := fun pins s σ H Q I h =>
 pairTrees_cons_walk (thn (hk pins s σ H _ I h) fun u s1 ⟨x, H1, I1, rx, q1⟩ => thn (hv pins s1 σ H1 _ I1 q1) fun w2 s2 ⟨y, H2, I2, ry, q2⟩ =>
  thn (hr pins s2 σ H2 _ I2 q2) fun ws s3 ⟨ps, H3, I3, rel, q3⟩ => ⟨(x, y) :: ps, H3, I3, .cons ⟨rx, ry⟩ rel, q3⟩)
noncomputable def mergeK (kvs more : List (Key × V)) : List (Key × V) := more.foldl (fun acc kv => putK acc kv.1 kv.2) kvs
theorem KV.merge : ∀ {more : List (Key × V)} {rs : List (Key × Value)} {kvs : List (Key × V)} {vs : List (Key × Value)}, KV more rs → KV kvs vs → KV (mergeK kvs more) (merged vs rs) := by
 intro more rs kvs vs r
 unfold KV at r
 induction r generalizing kvs vs with
 | nil => intro q; exact q
 | @cons p q ps qs h t ih =>
  intro r0
  have e : KV (putK kvs p.1 p.2) (stored vs q.1 q.2) := by
   have := r0.put p.1 h.2
   rw [← h.1]; exact this
  exact ih e
theorem length_mergeK : ∀ (more kvs : List (Key × V)), (mergeK kvs more).length ≤ kvs.length + more.length
 | [], kvs => by show kvs.length ≤ kvs.length + 0; omega
 | p :: r, kvs => by
  have h1 := length_mergeK r (putK kvs p.1 p.2)
  have h2 := length_putK kvs p.1 p.2
  show (mergeK (putK kvs p.1 p.2) r).length ≤ _
  rw [List.length_cons]; omega
theorem carries_of {P : Program} {w : World} : ∀ {kvs : List (Key × V)} {ws : List (Value × Value)}, VV (kvs.map fun kv => (kV kv.1, kv.2)) ws → ∃ rs, Carries (mixKind P w) ws rs ∧ KV kvs rs
 | [], _, r => by rw [List.map_nil] at r; cases r; exact ⟨[], True.intro, .nil⟩
 | p :: kvs, _, r => by
  rw [List.map_cons] at r
  cases r with
  | @cons a b as bs h t =>
   obtain ⟨rs, c, q⟩ := carries_of (P := P) (w := w) t
   obtain ⟨b1, b2⟩ := b
   exact ⟨(p.1, b2) :: rs, ⟨kV_is h.1, rfl, c⟩, .cons ⟨rfl, h.2⟩ q⟩
noncomputable def tDisp (trs : List (TE × TE)) : TE := fun σ H Q => ∀ p, H p = none → tPairs trs σ (upd H p (.dK [])) fun ps H2 => H2 p = some (.dK []) ∧ ∃ kvs : List (Key × V), ps = kvs.map (fun kv => (kV kv.1, kv.2)) ∧ kvs.length ≤ 15 ∧ Q (.ref p) (upd H2 p (.dK (mergeK [] kvs)))
theorem pe_disp {X : Cx} {pos : Pos} {keys : List (Option Expr)} {values : List Expr} {trs : List (TE × TE)} (h : PPs X pos keys values trs) (hall : keys.all (·.isSome) = true) (hl : keys.length = values.length) (h0 : keys ≠ [])
  (h15 : keys.length ≤ 15) : PE X (.Dict keys values pos) (tDisp trs) := by
 intro pins s σ H Q I q
 have hn := I.hok.fresh (Nat.le_refl s.heap.objs.size)
 have I1 := I.laid (a := s.heap.objs.size) (o := .dK []) (h' := s.heap.push { cls := .type "dict", data := .dict #[] }) (t' := s.toks) (fun _ _ q => Heap.get?_push_of_some _ q) (Nat.le_refl _) (dk_empty s.heap I.big)
 refine wpAny_Dict_walk (knd := mixKind X.prog X.w) hall hl h0 h15 (thn (h pins _ σ _ _ I1 (q _ hn)) fun ws s2 zz9 => ?_)
 obtain ⟨ps, H2, I2, rel, e, kvs, ep, lk, q2⟩ := zz9
 subst ep
 obtain ⟨rs, c, rk⟩ := carries_of (P := X.prog) (w := X.w) rel
 obtain ⟨z, hd, vs0, r0, dd⟩ := dk_of I2.hok e
 cases r0
 refine ⟨rs, c, dd, fun h' dd' hs => ⟨.ref s.heap.objs.size, _, ?_, rfl, q2⟩⟩
 have hz : (mergeK [] kvs).length ≤ sizeLine := by
  have h1 := length_mergeK kvs []
  rw [List.length_nil] at h1
  rw [sizeLine_eq]; omega
 have he : ∃ q, h'.get? s.heap.objs.size = some q := let ⟨q, _, _, hq, _⟩ := dd'; ⟨q, hq⟩
 exact d_write I2 (by rw [e]; exact True.intro) hs he (dk_new hz hd (rk.merge .nil) dd')
structure M2 (X : Cx) (o : Expr) (m : Str) (apos : Pos) (e f : Expr) (cpos : Pos) : Prop where
 base : attributeBase o m X.env (eval o X.env) = eval o X.env
 few : ((backTo cpos (starEach [e, f] X.env)).all (fun x => !x.1) && (backToKw cpos (keywordEach [] X.env)).all (fun x => x.1.isSome)
  && decide (([e, f] : List Expr).length + ([] : List Keyword).length + (if ([] : List Keyword).isEmpty then 0 else 1) < 30)) = true
 line : (apos.endLine == cpos.line) = true
 trees : backTo cpos (starEach [e, f] X.env) = [(false, eval e X.env), (false, eval f X.env)]
noncomputable def IsD (H : Hp) (a : Addr) : Prop := (∃ kvs, Rd H a (.dK kvs)) ∨ ∃ kvs, Rd H a (.dT kvs)
theorem isD_at {X : Cx} {pins : List (Addr × Obj)} {σ : St} {H : Hp} {s : Shared} {a : Addr} (I : Inv X pins σ H s) (d : IsD H a) :
  s.TypeIs (.ref a) "dict" ∧ (∀ b, Value.ref a = .ref b → ∃ ob, s.heap.get? b = some ob ∧ ob.dict = none) ∧ (a == sysModules) = false := by
 rcases d with ⟨kvs, e⟩ | ⟨kvs, e⟩
 ·obtain ⟨_, hd, vs, _, dd⟩ := dk_rd I.hok e
  refine ⟨dd.typeIs, fun b q => ?_, hd⟩
  cases q
  obtain ⟨ob, _, _, h1, h2, _⟩ := dd
  exact ⟨ob, h1, h2.2.1⟩
 ·obtain ⟨_, hd, xs, _, dd⟩ := dt_rd I.hok e
  refine ⟨dd.typeIs, fun b q => ?_, hd⟩
  cases q
  obtain ⟨ob, _, _, h1, h2, _⟩ := dd
  exact ⟨ob, h1, h2.2.1⟩
section
variable {X : Cx} {pins : List (Addr × Obj)} {σ : St} {H : Hp} {s : Shared} {a : Addr} {y d : V} {u r : Value} {o : Option V} {A : Around} {E : Value → Shared → Prop}
theorem d_get2 {Q : Value → Shared → Prop} (hu : A.units + 1 < cLine) (I : Inv X pins σ H s) (g : DGet H a y o) (ry : RelV y u) (rd : RelV d r) (h : ∀ w' s', Inv X pins σ H s' → RelV (o.getD d) w' → Q w' s') :
  wpAny (model X.prog X.w) A (call (.builtin "dict.get") [.ref a, u, r]) Q E s := by
 rcases g with ⟨kvs, k, e, ey, l⟩ | ⟨kvs, k, b, e, ey, eb, l⟩
 ·subst ey
  obtain ⟨z, hd, vs, rel, dd⟩ := dk_rd I.hok e
  refine call_meetsIn PySem.F.slot_dict_get dd.typeIs PySem.F.entry_dict_get (PySem.F.args_dict_get_3 _ _ _) (meets_dict_get_default (mixKind X.prog X.w) a (kV_is ry) hd r) ⟨_, dd.mapOf, h _ _ (I.tok _) ?_⟩
  rw [l]
  exact (rel.val k).getD rd
 ·subst ey
  cases (show u = Value.ref b from ry)
  obtain ⟨z, hd, xs, rel, dd⟩ := dt_rd I.hok e
  refine call_meetsIn PySem.F.slot_dict_get dd.typeIs PySem.F.entry_dict_get (PySem.F.args_dict_get_3 _ _ _) (meetsH_dict_get_default (tupleKind (mixKind X.prog X.w)) a b hd r) ⟨tupleKind_room_in1 hu, k, xs, key_of I.hok eb, dd, h _ _ (I.tok _) ?_⟩
  rw [l]
  exact (rel.val k).getD rd
end
noncomputable def tDGet2 (td ty tx : TE) : TE := fun σ H Q => td σ H fun x H1 => ∃ a, x = .ref a ∧ IsD H1 a ∧ ty σ H1 fun y H2 => tx σ H2 fun z H3 => ∃ o, DGet H3 a y o ∧ Q (o.getD z) H3
section
variable {X : Cx} {o e f : Expr} {apos cpos : Pos} {td ty tx : TE}
theorem pe_dget2 (hu : X.A.units + 1 < cLine) (ho : PE X o td) (he : PE X e ty) (hf : PE X f tx) (m : M2 X o "get" apos e f cpos) : PE X (.Call (.Attribute o "get" apos) [e, f] [] cpos) (tDGet2 td ty tx) := by
 intro pins s σ H Q I h
 refine wpAny_Call_method m.base m.few m.line PySem.F.plainAttrs_dict PySem.F.slot_dict_get PySem.F.type_dict_get (thn (ho pins s σ H _ I h) fun u s1 zz9 => ?_)
 obtain ⟨x, H1, I1, rx, a, ex, d, q1⟩ := zz9
 subst ex
 obtain rfl : u = Value.ref a := rx
 obtain ⟨t1, t2, _⟩ := isD_at I1 d
 refine ⟨t1, t2, ?_⟩
 rw [m.trees]
 refine Calls.callWith_builtin rfl (Calls.evalArgs_plain (Calls.spliced_cons (thn (he pins s1 σ H1 _ I1 q1) fun iv s2 ⟨y, H2, I2, ry, q2⟩ =>
  Calls.spliced_cons (thn (hf pins s2 σ H2 _ I2 q2) fun fv s3 ⟨z, H3, I3, rz, ov, g, q3⟩ => Calls.spliced_nil ?_))))
 exact d_get2 hu I3 g ry rz fun w' s4 I4 rw' => ⟨_, H3, I4, rw', q3⟩
end
end L2
namespace Att
open PySem PySem.W PySem.Calls PyProof.Rows
theorem ints_of_wellAll {P : Params} {h : Heap} : ∀ (ns : List Int) (vs : List Value), WellAll P h vs (ns.map WData.int) → IntsAre vs ns := by
 intro ns
 induction ns with
 | nil =>
  intro vs w
  rw [List.map_nil] at w
  cases w
  exact .nil
 | cons n ns ih =>
  intro vs w
  rw [List.map_cons] at w
  cases w with
  | cons a b =>
   cases a
   exact .cons _ _ (ih _ b)
theorem script_of {l : OpenLaw} {n : Nat} (hn : l.most = some n) {P : Params} {h : Heap} {args : List WData} {vals : List Value}
  (hpre : l.row.toRowW.claim.pre args = true) (hwl : WellAll P h vals args) :
  ∃ a vs ns, vals = [Value.ref a] ∧ args = [WData.list (ns.map WData.int)] ∧ h.get? a = some { cls := .type "list", data := .seq vs.toArray } ∧ IntsAre vs ns ∧ ns.length ≤ n := by
 have hsh : WShape.hasAll [] args [.list .int] = true := (pre_splitW hpre).1
 have hc : l.pre.holds [] { args := args } = true := (pre_splitW hpre).2
 obtain ⟨d, r, rfl, h1, h2⟩ := hasAllW_cons hsh
 obtain rfl := hasAllW_nil h2
 obtain ⟨xs, rfl, h3⟩ := hasW_list h1
 obtain ⟨ns, rfl⟩ := items_int h3
 have hlen : ns.length ≤ n := by
  unfold OpenLaw.pre at hc
  have h4 : (WTm.not (.lt (.lit (.int (n : Int))) (.len (.arg 0)))).holds [] { args := [.list (ns.map .int)] } = true := by
   have h4 := (holds_andW hc).1
   rw [hn] at h4
   exact h4
  have h5 := condW_of h4 (w_not (w_lt w_lit (w_len_list (w_arg rfl))))
  rw [List.length_map] at h5
  refine Nat.le_of_not_lt fun q => ?_
  have q' : (n : Int) < ((ns.length : Nat) : Int) := by omega
  first
   | (rw [decide_eq_true q'] at h5; exact absurd h5 (by decide))
   | (simp at h5; omega)
 cases hwl with
 | cons w1 w2 =>
  cases w2
  cases w1 with
  | list ho hall => exact ⟨_, _, ns, rfl, rfl, ho, ints_of_wellAll ns _ hall, hlen⟩
theorem post_true (l : OpenLaw) (args : List WData) : l.row.toRowW.claim.post args (.bool true) args = true :=
 postW_of (r := l.row.toRowW) (X := (true == true))
  (show WShape.has [] (.bool true) .bool = true by first | rfl | decide | simp [WShape.has, WShape.arms, WShape.armsAll])
  (show (WTm.eq .res (.lit (.bool true))).value [] { args := args, res := some (.bool true), after := args } = some (.bool (true == true)) from w_eq_bool (w_res rfl) w_lit) rfl
theorem attach_call {l : OpenLaw} {n : Nat} {q : Program} {loose : List Str} {XP : (Str → Option Value) → Heap → Prop} {YP : World → Heap → Prop} {d : DefRec}
  (hn : l.most = some n) (hdf : d.params.defaults = [])
  (call : ∀ (w : World) (s₀ s₁ : Shared) (mg mb : Str → Option Value) (fa : Addr) (o : Obj) (pm cd doc : Value) (a : Addr) (vs : List Value) (ns : List Int),
   Ground q loose [] XP w s₀ mg mb s₁.heap → YP w s₁.heap →
   s₁.heap.get? fa = some o → o.data = .func (docDef d.name d.params d.body d.scope pm cd doc) → s₁.heap.CodeRec cd d.name → mg d.name = some (.ref fa) →
   s₁.heap.get? a = some { cls := .type "list", data := .seq vs.toArray } → IntsAre vs ns → ns.length ≤ n → s₁.gens = #[] →
   codeAny (model l.prog w) callerA (.call (.ref fa) ⟨[.ref a], []⟩) (fun r s' => r = .ok (.ret (.bool true)) ∧ OldK s₁.heap s'.heap ∧ s'.os = s₁.os ∧ AllBare s'.gens) s₁) :
  WalkO q loose XP YP l.row.toRowW d [] (fun f vs => PySem.call f vs) := by
 intro w s₀ s₁ mg mb G Y fa o pm cd doc dV kV ho hd hcd hD hmg hg args vals as hpre hlay hrd hwl hlo
 obtain rfl : dV = .none := Dflts.none hD hdf
 obtain rfl : kV = .none := Dflts.noKw hD
 obtain ⟨a, vs, ns, rfl, rfl, hobj, hints, hlen⟩ := script_of hn hpre hwl
 refine enter_call (codeAny_mono (call w s₀ s₁ mg mb fa o pm cd doc a vs ns G Y ho (fd_plain hd) hcd hmg hobj hints hlen hg) fun r s' hq => ?_)
 obtain ⟨rfl, h2, h3, h4⟩ := hq
 exact ⟨.inl ⟨.bool true, .bool true, [], rfl, fun _ => rfl, .bool true, post_true l _, fun _ => ⟨List.Pairwise.nil, fun _ hm => (nomatch hm)⟩⟩, h2, h3, h4⟩
end Att
namespace L2
open PySem PySem.Spec PyProof.Rows
theorem vals_ints : ∀ {vs : List Value} {ns : List Int}, IntsAre vs ns → Vals (ns.map V.int) vs
 | _, _, .nil => .nil
 | _, _, .cons n t h => .cons ⟨t, rfl⟩ (vals_ints h)
noncomputable def Only (H : Hp) : Prop := ∀ b, H b = none ∨ ∃ o xs, H b = some (.frz o (.lst xs))
theorem law_call {P : Program} {w : World} {K : PySem.W.Frag} {mg mb : Str → Option Value} {CX : CXT} {k : Nat} {fa a : Addr} {fd : FuncData} {x : Str} {sp : Sp} {s₁ : Shared} {vs : List Value} {ns : List Int}
  (KX : K.In s₁.heap) (hns : s₁.heap.Ns mainGlobals mg) (hb : s₁.heap.Ns builtinsNs mb) (hbb : ∀ x : Str, x ≠ "__name__" → mb x = bootBuiltins x) (hlim : s₁.heap.NoLimit) (hg : s₁.gens = #[])
  (ha : s₁.heap.get? a = some { cls := .type "list", data := .seq vs.toArray }) (hi : IntsAre vs ns) (hl : ns.length ≤ sizeLine) (hr : Room k callerA)
  (F : ∀ base : Heap, K.In base → base.Ns mainGlobals mg → FnOk P w K mg base CX k fa fd [x] sp) (hbind : ∀ (s : Shared) (u : Value), BindsTo s fd ⟨[u], []⟩ [(x, u)])
  (hsp : ∀ H : Hp, Only H → SqL K H a (ns.map V.int) → sp [.ref a] H (fun v _ => v = .bl true) fun _ _ _ => False)
  (hCX : ∀ H e s', CX [] H s₁ (fun _ _ _ => False) e s' → False) :
  codeAny (model P w) callerA (.call (.ref fa) ⟨[.ref a], []⟩) (fun r s' => r = .ok (.ret (.bool true)) ∧ OldK s₁.heap s'.heap ∧ s'.os = s₁.os ∧ AllBare s'.gens) s₁ := by
 have rv := vals_ints hi
 have lenV := hi.length
 have core : ∀ H : Hp, Only H → SqL K H a (ns.map V.int) → HOk P w H s₁.heap → (∀ b, H b ≠ none → b = a) → (H a ≠ none → K.lookup a = none) →
   codeAny (model P w) callerA (.call (.ref fa) ⟨[.ref a], []⟩) (fun r s' => r = .ok (.ret (.bool true)) ∧ OldK s₁.heap s'.heap ∧ s'.os = s₁.os ∧ AllBare s'.gens) s₁ := by
  intro H hO hS hok hA hK
  have base_of : ∀ {b : Addr} {o : Obj}, s₁.heap.get? b = some o → H b = none → (hidT s₁.heap H).get? b = some o := fun e n => hidT_get e n
  have noA : ∀ {b : Addr} {o : Obj} {es : Array DictEntry} {ep : Nat}, s₁.heap.get? b = some o → o.data = .dict es ep → H b = none := fun {b o es ep} e d => by
   cases q : H b with
   | none => rfl
   | some u =>
    have e' : b = a := hA b (by rw [q]; simp)
    subst e'
    rw [ha] at e; cases e
    have d' : Data.seq vs.toArray _ = Data.dict es ep := d
    cases d'
  have nsK : ∀ {b : Addr} {m : Str → Option Value}, s₁.heap.Ns b m → (hidT s₁.heap H).Ns b m := fun {b m} ⟨o, es, ep, e, d, r⟩ => ⟨o, es, ep, base_of e (noA e d), d, r⟩
  have hKb : K.In (hidT s₁.heap H) := fun b o e => base_of (KX b o e) (by
   cases q : H b with
   | none => rfl
   | some u =>
    have e' : b = a := hA b (by rw [q]; simp)
    subst e'
    rw [hK (by rw [q]; simp)] at e; cases e)
  have hM : Mod K mg (hidT s₁.heap H) := ⟨hKb, nsK hns, ⟨mb, nsK hb, hbb⟩, let ⟨mc, h1, h2⟩ := hlim; ⟨mc, nsK h1, h2⟩⟩
  have e0 : Env0 P w K mg (hidT s₁.heap H) callerA [] s₁ H := ⟨rfl, hM, fun b o e => of_hidT e, Nat.le_of_eq (hidT_size _ _), trivial, fun b hb => absurd (show b ∈ ([] : List Addr) from hb) (by simp), hok, .of_eq hg⟩
  refine codeAny_mono ((F _ hKb (nsK hns)).run callerA [] s₁ H ⟨[.ref a], []⟩ [.ref a] [.ref a] _ _ hr e0 (hbind s₁ (.ref a)) (.cons rfl .nil) (hsp H hO hS)) fun r s' h => ?_
  cases r with
  | error e => exact (hCX H e s' h).elim
  | ok fl =>
   cases fl with
   | next => exact False.elim h
   | brk => exact False.elim h
   | cont => exact False.elim h
   | ret u =>
    obtain ⟨v, H', os, bare, un, hok', r', q⟩ := h
    have q' : v = .bl true := q
    subst q'
    obtain rfl : u = Value.bool true := r'
    refine ⟨rfl, OldK.of_keep fun b o e => ?_, os, bare⟩
    cases q : H b with
    | none => exact un.keep b o e q (by intro z; exact absurd (show b ∈ ([] : List Addr) from z) (by simp)) (by simp)
    | some u =>
     rcases hO b with z | ⟨ob, xs, z⟩
     ·rw [q] at z; cases z
     ·have z2 := un.frzs b ob _ z
      obtain ⟨e1, _⟩ := hok b _ z
      obtain ⟨e2, _⟩ := hok' b _ z2
      rw [e] at e1; cases e1
      exact e2
 cases hk : K.lookup a with
 | some o =>
  have e := KX a o hk
  rw [ha] at e
  cases e
  refine core (fun _ => none) (fun _ => .inl rfl) (.inr ⟨_, vs.toArray, _, hk, rfl, rfl, rfl, by rw [List.size_toArray, lenV]; exact hl, by simpa using rv⟩) (fun b u z => by have z' : (none : Option HO) = some u := z; cases z') (fun b z => absurd rfl z) fun z => absurd rfl z
 | none =>
  refine core (fun b => if b = a then some (.frz { cls := .type "list", data := .seq vs.toArray } (.lst (ns.map V.int))) else none) (fun b => ?_) (.inl (.inr ⟨{ cls := .type "list", data := .seq vs.toArray }, if_pos rfl⟩)) (fun b u z => ?_) (fun b z => ?_) fun _ => hk
  ·by_cases hb : b = a
   ·exact .inr ⟨_, _, if_pos hb⟩
   ·exact .inl (if_neg hb)
  ·by_cases hb : b = a
   ·have z' := (if_pos hb).symm.trans z
    cases z'
    subst hb
    exact ⟨ha, by rw [List.length_map]; exact hl, vs, _, rv, ha⟩
   ·have z' := (if_neg hb).symm.trans z
    cases z'
  ·by_cases hb : b = a
   ·exact hb
   ·exact absurd (if_neg hb) z
end L2
namespace L2
open PySem PySem.Spec PyProof.Rows
noncomputable abbrev KOf {K : PySem.W.Frag} {h : Heap} (_ : K.In h) : PySem.W.Frag := K
theorem walk_of {l : PySem.W.OpenLaw} {n k : Nat} {q : Program} {loose : List Str} {XP : (Str → Option Value) → Heap → Prop} {YP : World → Heap → Prop} {d : DefRec} {K : Params → PySem.W.Frag} {CX : World → CXT} {sp : World → Sp} {x : Str}
  (hn : l.most = some n) (hn2 : n ≤ sizeLine) (hdf : d.params.defaults = []) (hr : Room k callerA)
  (hY : ∀ (w : World) (h : Heap), YP w h → (K w.params).In h)
  (F : ∀ (w : World) (mg : Str → Option Value) (fa : Addr) (h : Heap), (K w.params).In h → h.Ns mainGlobals mg → mg d.name = some (.ref fa) →
   ∃ fd : FuncData, (∀ (s : Shared) (u : Value), BindsTo s fd ⟨[u], []⟩ [(x, u)]) ∧
    ∀ base : Heap, (K w.params).In base → base.Ns mainGlobals mg → FnOk l.prog w (K w.params) mg base (CX w) k fa fd [x] (sp w))
  (hsp : ∀ (w : World) (H : Hp) (a : Addr) (ns : List Int), ns.length ≤ n → Only H → SqL (K w.params) H a (ns.map V.int) → sp w [.ref a] H (fun v _ => v = .bl true) fun _ _ _ => False)
  (hCX : ∀ (w : World) (H : Hp) (s : Shared) (e : Value) (s' : Shared), CX w [] H s (fun _ _ _ => False) e s' → False) :
  PySem.W.WalkO q loose XP YP l.row.toRowW d [] (fun f vs => PySem.call f vs) := by
 refine Att.attach_call hn hdf fun w s₀ s₁ mg mb fa o pm cd doc a vs ns G Y ho hd hcd hmg hobj hints hlen hg => ?_
 have KX := hY w _ Y
 obtain ⟨fd, hb, hF⟩ := F w mg fa _ KX G.T.g hmg
 exact law_call KX G.T.g G.T.b G.T.builtins G.T.nolimit hg hobj hints (Nat.le_trans hlen hn2) hr hF hb (fun H hO hS => hsp w H a ns hlen hO hS) fun H e s' => hCX w H s₁ e s'
end L2
namespace L2
open PySem PySem.Spec PyProof.Rows
noncomputable def inClass (s : Stmt) (j : Nat) : Stmt := match s with
 | .ClassDef _ _ _ body _ _ _ _ _ _ _ => body.getD j (.Pass ⟨0, 0, 0, 0⟩)
 | _ => .Pass ⟨0, 0, 0, 0⟩
noncomputable def defArgs (s : Stmt) : Arguments := match s with
 | .FunctionDef _ a _ _ _ _ _ _ _ _ => a
 | _ => { posonlyargs := [], args := [], vararg := none, kwonlyargs := [], kw_defaults := [], kwarg := none, defaults := [] }
noncomputable def defBody (s : Stmt) : List Stmt := match s with
 | .FunctionDef _ _ b _ _ _ _ _ _ _ => b
 | _ => []
noncomputable def defScope (s : Stmt) : Scope := match s with
 | .FunctionDef _ _ _ _ _ _ sc _ _ _ => sc
 | _ => { kind := .function, names := [], isGenerator := false, isCoroutine := false }
noncomputable abbrev E0 : XK := fun _ _ _ => False
structure Fun (K : PySem.W.Frag) (x qual : Str) (st : Stmt) (f : Addr) (fd : FuncData) : Prop where
 ex : ∃ (oc : Value) (od : Option Addr) (kV doc pm : Value) (an : Option Addr) (cdv ct : Value) (osl : Array (Option Value)),
  fd = PySem.W.fnOf x qual (defArgs st) (defBody st) (defScope st) .none kV doc pm an cdv ct ∧ K.lookup f = some ⟨oc, od, .func fd, osl⟩ ∧ PySem.W.codeIn K cdv qual = true
 kp : PySem.W.keepIn K (.ref f) = true
section
variable {P : Program} {w : World} {K : PySem.W.Frag} {mg : Str → Option Value} {base : Heap}
theorem Fun.binds {x qual : Str} {st : Stmt} {f : Addr} {fd : FuncData} {ps : List Str} (F : Fun K x qual st f fd)
  (h : ∀ (kV doc pm : Value) (an : Option Addr) (cdv ct : Value) (us : List Value), us.length = ps.length → bindArgs (PySem.W.fnOf x qual (defArgs st) (defBody st) (defScope st) .none kV doc pm an cdv ct) ⟨us, []⟩ = pure (ps.zip us)) : Binds K fd ps [] := by
 obtain ⟨oc, od, kV, doc, pm, an, cdv, ct, osl, rfl, lk, hcd⟩ := F.ex
 exact .all (h kV doc pm an cdv ct)
theorem fun_mk {x qual : Str} {st : Stmt} {f : Addr} {oc : Value} {od an : Option Addr} {osl : Array (Option Value)} {kV doc pm cdv ct : Value} (l : K.lookup f = some ⟨oc, od, .func (PySem.W.fnOf x qual (defArgs st) (defBody st) (defScope st) .none kV doc pm an cdv ct), osl⟩)
  (c : PySem.W.codeIn K cdv qual = true) (k : PySem.W.keepIn K (.ref f) = true) : Fun K x qual st f (PySem.W.fnOf x qual (defArgs st) (defBody st) (defScope st) .none kV doc pm an cdv ct) := ⟨⟨oc, od, kV, doc, pm, an, cdv, ct, osl, rfl, l, c⟩, k⟩
end
theorem hu_of {A : Around} {k : Nat} (hr : Room k A) : A.units + 1 < cLine := Nat.lt_of_le_of_lt (Nat.add_le_add_left (by decide : 1 ≤ 64) _) hr.units
theorem small1000 {n : Nat} (h : n ≤ 1000) : n < sizeLine := Nat.lt_of_le_of_lt h (by decide)
section
variable {X : Cx}
theorem pv (i : Nat) {x : Str} {pos : Pos} (hN : X.N[i]? = some x := by rfl) (hv : Vis X.env.scope x := by first | exact Or.inl rfl | exact Or.inr (Or.inl rfl) | exact Or.inr (Or.inr rfl)) (hd : (x == ("__debug__" : Str)) = false := by decide)
  (hcd : (x == ("__classdict__" : Str)) = false := by decide) : PE X (.Name x pos) (tVar i) := pe_var hN hv hd hcd
end
theorem iteF {A B : Prop} (h : B) : if false = true then A else B := by
 rw [if_neg Bool.false_ne_true]
 exact h
theorem iteT {A B : Prop} (h : A) : if true = true then A else B := by
 rw [if_pos rfl]
 exact h
theorem ite2 {c A B : Prop} [Decidable c] (h1 : c → A) (h2 : ¬ c → B) : if c then A else B := by
 by_cases h : c
 ·rw [if_pos h]
  exact h1 h
 ·rw [if_neg h]
  exact h2 h
noncomputable def Same (H H' : Hp) : Prop := ∀ b o, H b = some o → H' b = some o
theorem Same.refl (H : Hp) : Same H H := fun _ _ h => h
theorem Same.trans {H H1 H2 : Hp} (a : Same H H1) (b : Same H1 H2) : Same H H2 := fun c o h => b c o (a c o h)
theorem Same.free {H H' : Hp} (e : Same H H') {l : Addr} (h : H' l = Option.none) : H l = Option.none := by
 cases q : H l with
 | none => rfl
 | some o =>
  rw [e l o q] at h
  cases h
theorem Same.seq {K : PySem.W.Frag} {H H' : Hp} {a : Addr} {xs : List V} (e : Same H H') (h : SqL K H a xs) : SqL K H' a xs := by
 rcases h with (h | ⟨o, h⟩) | h
 ·exact .inl (.inl (e _ _ h))
 ·exact .inl (.inr ⟨o, e _ _ h⟩)
 ·exact .inr h
end L2
set_option maxHeartbeats 4000000
namespace L2
open PySem PySem.Spec PyProof.Rows
noncomputable def cloList (env : Env) : List (Str × NameKind) → List (Str × Addr) → List (Str × Addr)
 | [], acc => acc
 | (n, k) :: r, acc => if (k == NameKind.free) = true then (match env.cells.lookup n with
  | some c => cloList env r ((n, c) :: acc)
  | none => cloList env r acc) else cloList env r acc
theorem cloList_sound {env : Env} : ∀ (ns : List (Str × NameKind)) (acc : List (Str × Addr)), (∀ x c, acc.lookup x = some c → env.cells.lookup x = some c) →
  ∀ x c, (cloList env ns acc).lookup x = some c → env.cells.lookup x = some c
 | [], acc, h => h
 | (n, k) :: r, acc, h => by
  unfold cloList
  split
  ·cases e : env.cells.lookup n with
   | none => exact cloList_sound r acc h
   | some c =>
    refine cloList_sound r _ fun x d hx => ?_
    rw [List.lookup_cons] at hx
    cases hb : x == n with
    | true =>
     rw [hb] at hx
     cases hx
     rw [beq_iff_eq.mp hb]
     exact e
    | false =>
     rw [hb] at hx
     exact h x d hx
  ·exact cloList_sound r acc h
theorem cloList_keeps {env : Env} : ∀ (ns : List (Str × NameKind)) (acc : List (Str × Addr)) (x : Str), (∃ c, acc.lookup x = some c) → ∃ c, (cloList env ns acc).lookup x = some c
 | [], acc, x, h => h
 | (n, k) :: r, acc, x, h => by
  unfold cloList
  split
  ·cases e : env.cells.lookup n with
   | none => exact cloList_keeps r acc x h
   | some c =>
    refine cloList_keeps r _ x ?_
    rw [List.lookup_cons]
    cases hb : x == n with
    | true => exact ⟨c, rfl⟩
    | false => exact h
  ·exact cloList_keeps r acc x h
theorem cloList_has {env : Env} : ∀ (ns : List (Str × NameKind)) (acc : List (Str × Addr)) (x : Str), (x, NameKind.free) ∈ ns → (∃ c, env.cells.lookup x = some c) → ∃ c, (cloList env ns acc).lookup x = some c
 | [], acc, x, h, _ => by cases h
 | (n, k) :: r, acc, x, h, hc => by
  rcases List.mem_cons.mp h with e | h
  ·cases e
   obtain ⟨c, hc⟩ := hc
   unfold cloList
   rw [if_pos (show (NameKind.free == NameKind.free) = true by decide), hc]
   exact cloList_keeps r _ n ⟨c, by rw [List.lookup_cons, beq_self_eq_true]⟩
  ·unfold cloList
   split
   ·cases e : env.cells.lookup n with
    | none => exact cloList_has r acc x h hc
    | some c => exact cloList_has r _ x h hc
   ·exact cloList_has r acc x h hc
theorem cloFor_run {env : Env} (f : Str × NameKind → List (Str × Addr) → Sem (ForInStep (List (Str × Addr))))
  (hf : ∀ name kind cs, f (name, kind) cs = if (kind == NameKind.free) = true then (do let a ← cellOf env name; pure (.yield ((name, a) :: cs))) else pure (.yield cs)) :
  ∀ (ns : List (Str × NameKind)) (acc : List (Str × Addr)), (∀ y ∈ ns, y.2 = .free → ∃ c, env.cells.lookup y.1 = some c) → forIn ns acc f = pure (cloList env ns acc)
 | [], acc, _ => by rw [List.forIn_nil]; rfl
 | (n, k) :: r, acc, h => by
  rw [List.forIn_cons, hf]
  unfold cloList
  have hr : ∀ y ∈ r, y.2 = .free → ∃ c, env.cells.lookup y.1 = some c := fun y hy => h y (List.mem_cons_of_mem _ hy)
  split
  ·rename_i hk
   obtain ⟨c, hc⟩ := h (n, k) List.mem_cons_self (by simpa using hk)
   have hc' : env.cells.lookup n = some c := hc
   have e : cellOf env n = pure c := by unfold cellOf; rw [hc']
   rw [e, hc']
   exact cloFor_run f hf r ((n, c) :: acc) hr
  ·exact cloFor_run f hf r acc hr
theorem closure_run {env : Env} {scope : Scope} (h : ∀ y ∈ scope.names, y.2 = .free → ∃ c, env.cells.lookup y.1 = some c) : closureFor scope env = pure (cloList env scope.names []) := by
 unfold closureFor
 dsimp only
 rw [cloFor_run (env := env) _ (fun name kind cs => by split <;> rfl) scope.names [] h]
 rfl
theorem relabel_lookup (env : Env) : ∀ (names : List (Str × NameKind)) (x : Str),
  (names.map fun (n, k) => if (k == NameKind.free && env.scope.kind == .function && env.kindOf n == some .cell) then (n, NameKind.cell) else (n, k)).lookup x =
   (names.lookup x).map fun k => if (k == NameKind.free && env.scope.kind == .function && env.kindOf x == some .cell) = true then NameKind.cell else k
 | [], _ => rfl
 | (n, k) :: r, x => by
  have ih := relabel_lookup env r x
  have e : (if (k == NameKind.free && env.scope.kind == .function && env.kindOf n == some .cell) = true then (n, NameKind.cell) else (n, k)) = (n, if (k == NameKind.free && env.scope.kind == .function && env.kindOf n == some .cell) = true then NameKind.cell else k) := by split <;> rfl
  show List.lookup x ((if (k == NameKind.free && env.scope.kind == .function && env.kindOf n == some .cell) = true then (n, NameKind.cell) else (n, k)) :: _) = _
  rw [e, List.lookup_cons, List.lookup_cons]
  cases hx : x == n with
  | true =>
   have e2 : x = n := beq_iff_eq.mp hx
   subst e2
   rfl
  | false => exact ih
theorem relabel_free {env : Env} {names : List (Str × NameKind)} {x : Str} {k : NameKind} (hc : ∀ y ∈ names, y.2 ≠ .cell)
  (h : (names.map fun (n, k) => if (k == NameKind.free && env.scope.kind == .function && env.kindOf n == some .cell) then (n, NameKind.cell) else (n, k)).lookup x = some k) (hk : k = .cell ∨ k = .free) : names.lookup x = some .free := by
 rw [relabel_lookup] at h
 cases e : names.lookup x with
 | none => rw [e] at h; cases h
 | some k' =>
  rw [e] at h
  have hk' : k' ≠ .cell := hc _ (PySem.mem_of_lookup e)
  have h' : (if (k' == NameKind.free && env.scope.kind == .function && env.kindOf x == some .cell) = true then NameKind.cell else k') = k := Option.some.inj h
  split at h'
  ·rename_i q
   simp only [Bool.and_eq_true, beq_iff_eq] at q
   rw [q.1.1]
  ·subst h'
   rcases hk with z | z
   ·exact absurd z hk'
   ·rw [z]
theorem relabel_nolocal {env : Env} {names : List (Str × NameKind)} {x : Str} (h : names.lookup x = some .free) :
  (names.map fun (n, k) => if (k == NameKind.free && env.scope.kind == .function && env.kindOf n == some .cell) then (n, NameKind.cell) else (n, k)).lookup x ≠ some .local := by
 rw [relabel_lookup, h]
 intro z
 have z' : (if (NameKind.free == NameKind.free && env.scope.kind == .function && env.kindOf x == some .cell) = true then NameKind.cell else NameKind.free) = .local := Option.some.inj z
 split at z' <;> cases z'
noncomputable def blkCx (X : Cx) (N' : List Str) (scope : Scope) (C : Addr) (s₀ : Shared) (H₀ : Hp) (ex : List Addr) : Cx :=
 { X with N := N', s₀ := s₀, H₀ := H₀, env := compEnvC scope (cloList X.env scope.names []) C X.env, outer := X.stack, ex := ex, fn := fun _ => false, pn := [], xe := fun _ _ => False }
noncomputable def FvOk (X : Cx) (scope : Scope) : List (Str × Nat) → Prop
 | [] => True
 | (x, j) :: r => (X.N[j]? = some x ∧ scope.names.lookup x = some .free ∧ (X.env.kindOf x = some .cell ∨ X.env.kindOf x = some .free)) ∧ FvOk X scope r
theorem FvOk.mem {X : Cx} {scope : Scope} : ∀ {l : List (Str × Nat)}, FvOk X scope l → ∀ y ∈ l, X.N[y.2]? = some y.1 ∧ scope.names.lookup y.1 = some .free ∧ (X.env.kindOf y.1 = some .cell ∨ X.env.kindOf y.1 = some .free)
 | [], _, _, h => by cases h
 | (x, j) :: r, h, y, hy => by
  rcases List.mem_cons.mp hy with e | hy
  ·cases e; exact h.1
  ·exact FvOk.mem h.2 y hy
noncomputable def blkN (ts : List Str) (fv : List (Str × Nat)) : List Str := ts ++ fv.map (·.1)
noncomputable def blkS (ts : List Str) (fv : List (Str × Nat)) (σ : St) : St := ts.map (fun _ => none) ++ fv.map fun y => (σ[y.2]?).join
structure BlkOk (X : Cx) (scope : Scope) (fv : List (Str × Nat)) : Prop where
 kind : scope.kind = .function
 nocell : ∀ y ∈ scope.names, y.2 ≠ .cell
 names : ∀ y ∈ scope.names, y.2 = .local → scope.names.lookup y.1 = some .local
 free : ∀ y ∈ scope.names, y.2 = .free → X.env.kindOf y.1 = some .cell ∨ X.env.kindOf y.1 = some .free
 fvs : FvOk X scope fv
section
variable {X : Cx} {pins : List (Addr × Obj)} {σ : St} {H : Hp} {s : Shared} {scope : Scope} {ts : List Str} {fv : List (Str × Nat)}
theorem blk_start {h' : Heap} {fp : List Addr} {tk : Nat} (B : BlkOk X scope fv) (I : Inv X pins σ H s) (hf : ∀ b ∈ fp, FpOk X pins H b) (ho : ∀ b ∈ fp, ∃ o, s.heap.get? b = some o)
  (hn : h'.Ns s.heap.objs.size (fun _ => none)) (hk : ∀ b o, s.heap.get? b = some o → h'.get? b = some o) :
  Inv (blkCx X (blkN ts fv) scope s.heap.objs.size s H fp) [] (blkS ts fv σ) H { s with heap := h', toks := tk } := by
 have has : ∀ y ∈ scope.names, y.2 = .free → ∃ c, X.env.cells.lookup y.1 = some c := fun y hy e => I.ok.has y.1 (B.free y hy e)
 have snd : ∀ x c, (cloList X.env scope.names []).lookup x = some c → X.env.cells.lookup x = some c := cloList_sound _ _ (fun x c h => by simp at h)
 have fr : ∀ x, (scope.names.lookup x = some .free) → ∃ c, (cloList X.env scope.names []).lookup x = some c := fun x hx =>
  cloList_has _ _ x (PySem.mem_of_lookup hx) (has _ (PySem.mem_of_lookup hx) rfl)
 have nfs : ∀ b ∈ fp, b ∉ frs X.stack := fun b hb z => by
  obtain ⟨_, h1, h2, _⟩ := hf b hb
  rcases List.mem_cons.mp (I.stkSub b z) with e | e
  ·exact h1 e
  ·exact h2 e
 have lt : ∀ b ∈ fp, b < s.heap.objs.size := fun b hb => let ⟨o, e⟩ := ho b hb; Heap.lt_size e
 refine ⟨⟨I.ok.mod, ?_, I.ok.glob, I.ok.blt, Nat.le_refl _, fun x y c h1 h2 => I.ok.inj x y c (snd x c h1) (snd y c h2), fun x hx => ?_, fun _ _ h => absurd (show false = true from h) Bool.false_ne_true, I.ok.hd, I.ok.frames, .inl rfl, fun b hb => ⟨Nat.ne_of_lt (lt b hb), fun x c e => (hf b hb).2.2.2.2.1 x c (snd x c e)⟩, I.bs, Nat.le_trans I.ok.bsz I.sz, fun b o e hb => ?_, nfs, I.stack, I.stkFree⟩,
  rfl, I.bare, Un.kept hk, ⟨_, hn, fun i x v h1 h2 h3 => ?_⟩, fun x c e => ?_, I.fresh, fun x c e => I.freeC x c (snd x c e), fun p hp => ?_, I.hok.kept hk, ?_⟩
 ·exact B.kind
 ·refine fr x ?_
  have hx' : (relabel scope X.env).names.lookup x = some .cell ∨ (relabel scope X.env).names.lookup x = some .free := hx
  rcases hx' with e | e
  ·exact relabel_free B.nocell e (.inl rfl)
  ·exact relabel_free B.nocell e (.inr rfl)
 ·rcases (hf b hb).2.2.2.1 with z | z
  ·exact I.ok.noex b o e z
  ·exact absurd (Nat.lt_of_lt_of_le (Heap.lt_size e) (Nat.le_trans I.ok.bsz z)) (Nat.lt_irrefl _)
 ·have h1 : (ts ++ fv.map (·.1))[i]? = some x := h1
  have h2 : (ts.map (fun _ => (none : Option V)) ++ fv.map fun y => (σ[y.2]?).join)[i]? = some (some v) := h2
  by_cases hi : i < ts.length
  ·rw [List.getElem?_append_left (by simpa using hi), List.getElem?_map] at h2
   cases e : ts[i]? with
   | none => rw [e] at h2; cases h2
   | some z => rw [e] at h2; cases h2
  ·rw [List.getElem?_append_right (by simpa using hi), List.length_map, List.getElem?_map] at h2
   rw [List.getElem?_append_right (by simpa using hi), List.getElem?_map] at h1
   cases e : fv[i - ts.length]? with
   | none => rw [e] at h2; cases h2
   | some y =>
    rw [e] at h1 h2
    have e1 : y.1 = x := by simpa using h1
    have e2 : (σ[y.2]?).join = some v := by simpa using h2
    obtain ⟨f1, f2, f3⟩ := B.fvs.mem y (List.mem_of_getElem? e)
    have e3 : σ[y.2]? = some (some v) := by
     cases q : σ[y.2]? with
     | none => rw [q] at e2; cases e2
     | some z => rw [q] at e2; exact congrArg some e2
    obtain ⟨m, hm, hl⟩ := I.loc
    obtain ⟨u, r, l⟩ := hl y.2 y.1 v f1 e3 (by rcases f3 with z | z; exact .inr (.inl z); exact .inr (.inr z))
    rw [e1] at f2 f3 l
    refine ⟨u, r, ?_⟩
    obtain ⟨c, hc⟩ := fr x f2
    have hc' := snd x c hc
    rcases l with ⟨l1, _⟩ | ⟨_, c2, l2, l3⟩
    ·rcases f3 with z | z
     ·rw [l1] at z; cases z
     ·rw [l1] at z; cases z
    ·rw [hc'] at l2
     cases l2
     have hv : Vis (relabel scope X.env) x := h3
     rcases hv with z | z | z
     ·exfalso
      exact relabel_nolocal f2 z
     ·exact .inr ⟨.inl z, c, hc, l3.keeps hk⟩
     ·exact .inr ⟨.inr z, c, hc, l3.keeps hk⟩
 ·obtain ⟨v, z⟩ := I.cell x c (snd x c e)
  exact ⟨v, z.keeps hk⟩
 ·exact absurd (show p ∈ ([] : List (Addr × Obj)) from hp) (by simp)
 ·show (ts.map (fun _ => (none : Option V)) ++ fv.map fun y => (σ[y.2]?).join).length = (ts ++ fv.map (·.1)).length
  simp
theorem Inv.apart {C : Addr} {h' : Heap} (I : Inv X pins σ H s) (hs : Heap.SameBut C s.heap h') (hC : H C = none) (h0 : X.s₀.heap.objs.size ≤ C) (hL : C ≠ X.env.locals) (hc : ∀ x c, X.env.cells.lookup x = some c → c ≠ C) (hp : ∀ p ∈ X.pn ++ pins, p.1 ≠ C) :
  Inv X pins σ H { s with heap := h' } :=
 I.turned (t' := s.toks) (it := C) (fun b o hb e => (hs.2 b hb).trans e) hC hL (.inr h0) hc hp
theorem blk_end {s' : Shared} {H' : Hp} {σ' : St} {C : Addr} {N' : List Str} {fp : List Addr} (I : Inv X pins σ H s) (hf : ∀ b ∈ fp, FpOk X pins H b) (hC : s.heap.objs.size ≤ C)
  (J : Inv (blkCx X N' scope C s H fp) [] σ' H' s') : Inv X pins σ H' s' ∧ H' C = none ∧ X.s₀.heap.objs.size ≤ C ∧ C ≠ X.env.locals ∧ (∀ x c, X.env.cells.lookup x = some c → c ≠ C) ∧ (∀ p ∈ X.pn ++ pins, p.1 ≠ C) := by
 refine ⟨I.call' J.os J.base J.hok J.bare fun b hb => ?_, J.free, Nat.le_trans I.sz hC, Nat.ne_of_gt (Nat.lt_of_lt_of_le I.lt hC), fun x c e z => ?_, fun p hp z => ?_⟩
 ·obtain ⟨_, h1, _, h3, h4, h5⟩ := hf b hb
  exact ⟨h3, h1, h4, h5⟩
 ·obtain ⟨v, q⟩ := I.cell x c e
  exact absurd (Nat.lt_of_lt_of_le q.lt (by rw [z]; exact hC)) (Nat.lt_irrefl _)
 ·exact absurd (Nat.lt_of_lt_of_le (Heap.lt_size (I.pin p hp).1) (by rw [z]; exact hC)) (Nat.lt_irrefl _)
end
end L2
set_option maxHeartbeats 4000000
namespace L2
open PySem PySem.Spec PyProof.Rows
noncomputable abbrev TB := St → Hp → (St → Hp → Prop) → Prop
noncomputable def PTs (X : Cx) (ifs : List Expr) (t : TT) : Prop :=
 ∀ (pins : List (Addr × Obj)) (s : Shared) (σ : St) (H : Hp) (Q : Bool → Hp → Prop), Inv X pins σ H s → t σ H Q →
  wpAny (model X.prog X.w) X.A (forIn ifs true fun c r => if r = true then do let ok ← isTrue c X.env (eval c X.env); pure (ForInStep.yield ok) else pure (ForInStep.yield r)) (TP X pins σ Q) X.xe s
noncomputable def tYes : TT := fun _ H Q => Q true H
theorem pts_nil {X : Cx} : PTs X [] tYes := fun pins s σ H Q I h => wpAny_tests_nil ⟨H, I, h⟩
theorem pts_one {X : Cx} {c : Expr} {t : TT} (h : PT X c t) : PTs X [c] t := fun pins s σ H Q I hq => wpAny_tests_one (h pins s σ H Q I hq)
noncomputable def PB (X : Cx) (kont : Sem Fin) (c : Code) (t : TB) : Prop :=
 ∀ (pins : List (Addr × Obj)) (s : Shared) (σ : St) (H : Hp) (N : St → Hp → Prop), Inv X pins σ H s → t σ H N →
  wpAny (model X.prog X.w) X.A kont (fun fin s' => fin = .again c ∧ ∃ σ' H', Inv X pins σ' H' s' ∧ N σ' H') X.xe s
noncomputable def LoopR (J : It) (g : TG) (tt : TT) (tb : TB) (R : St → Hp → Prop) (σ : St) (H : Hp) : Prop :=
 ∃ W : Nat → Nat → St → Hp → Prop, (∃ m, W 0 m σ H) ∧ ∀ i m σ H, W i m σ H →
  (J.stop i H ∧ R σ H) ∨ (J.go i H ∧ ∃ N : St → Hp → Prop, (∀ σ' H', N σ' H' → ∃ m', m' < m ∧ W (i + 1) m' σ' H') ∧
   ∀ x H', J.yld i H x H' → g x σ H' fun σ2 H2 => tt σ2 H2 fun b H3 => if b = true then tb σ2 H3 N else N σ2 H3)
section
variable {X : Cx}
theorem comp_loop {e tg : Expr} {d : Nat} {acc : Value} {ifs : List Expr} {kont : Sem Fin} {J : It} {fp : List Addr} {it : Addr} {tn : Nat → Heap → Prop} {g : TG} {tt : TT} {tb : TB} {p : Pos} {pins : List (Addr × Obj)} {s : Shared} {σ : St} {H : Hp} {R : St → Hp → Prop}
  {RR : Result → Shared → Prop} (hxe : X.xe = fun _ _ => False)
  (hcq : Code.quiet (.compLoop e d (.ref it) acc X.env) = true) (hden : (model X.prog X.w).den (.compLoop e d (.ref it) acc X.env) = (compTurn e d (.ref it) acc X.env).onRaise (fun x => do noteFrame x X.env; theTreesLotGoes x))
  (hund : X.A.under (.compLoop e d (.ref it) acc X.env) = X.A)
  (heq : compTurn e d (.ref it) acc X.env = (standAt p >>= fun _ => pyNext (.ref it) >>= fun r => match r with
   | none => pure (.done .next)
   | some v => letOwnedTupleGo tg (.ref it) v >>= fun _ => assign tg X.env v >>= fun _ =>
    (forIn ifs true fun c r => if r = true then do let ok ← isTrue c X.env (eval c X.env); pure (ForInStep.yield ok) else pure (ForInStep.yield r)) >>= fun ok =>
     if ok = true then kont else again (.compLoop e d (.ref it) acc X.env)))
  (T : Turn X.prog X.w X.K tg J fp it tn) (hc : X.calm = true) (hg : PG X tg g) (ht : PTs X ifs tt) (hb : PB X kont (.compLoop e d (.ref it) acc X.env) tb)
  (hf : ∀ b ∈ fp, FpOk X pins H b) (I : Inv X pins σ H s) (st : tn 0 s.heap) (h : LoopR J g tt tb R σ H)
  (hR : ∀ s' σ' H', Inv X pins σ' H' s' → R σ' H' → RR (.ok .next) s') :
  codeAny (model X.prog X.w) X.A (.compLoop e d (.ref it) acc X.env) RR s := by
 obtain ⟨W, ⟨m0, w0⟩, turn⟩ := h
 have stat : ∀ {H' : Hp}, (∀ b ∈ fp, H' b = none) → ∀ b ∈ fp, FpOk X pins H' b := fun hn b hb => ⟨hn b hb, (hf b hb).2⟩
 refine codeAny_loop hcq (fun n s' => ∃ i σ' H', Inv X pins σ' H' s' ∧ tn i s'.heap ∧ (∀ b ∈ fp, H' b = none) ∧ W i n σ' H') ?_ m0 ⟨0, σ, H, I, st, fun b hb => (hf b hb).1, w0⟩
 rintro n s3 ⟨i, σ3, H3, I3, st3, fr3, w3⟩
 rw [hden, hund]
 refine wpAny_noted (wpAny_mono (E := fun _ _ => False) ?_ (fun _ _ q => q) fun _ _ z => z.elim)
 rw [heq]
 have hxe' : ∀ {α : Type} {t : Sem α} {Q : α → Shared → Prop} {s : Shared}, wpAny (model X.prog X.w) X.A t Q X.xe s → wpAny (model X.prog X.w) X.A t Q (fun _ _ => False) s := fun h => by rw [hxe] at h; exact h
 refine wpAny_bind (wpAny_standAt (wpAny_bind ?_))
 rcases turn i n σ3 H3 w3 with ⟨stop, qn⟩ | ⟨go, N, hN, step⟩
 ·refine thn (T.done X rfl rfl rfl hc i pins s3 σ3 H3 _ I3 (stat fr3) st3 stop) fun r s4 ⟨hr, I4⟩ => ?_
  subst hr
  exact wpAny_pure (hR s4 σ3 H3 I4 qn)
 ·refine thn (T.item X rfl rfl rfl hc i pins s3 σ3 H3 _ I3 (stat fr3) st3 go) fun r s4 ⟨u, hr, h4⟩ => ?_
  subst hr
  refine wpAny_bind (thn h4 fun _ s5 zz9 => ?_)
  obtain ⟨x, H5, I5, r5, y5, st5, fr5⟩ := zz9
  have I5' := I5.pinned (stat fr5) (T.obj _ _ st5)
  refine wpAny_bind (hxe' (thn (hg _ s5 σ3 H5 x u _ I5' r5 (step x H5 y5)) fun _ s6 zz9 => ?_))
  obtain ⟨σ6, H6, I6, q6⟩ := zz9
  refine wpAny_bind (hxe ▸ thn (ht _ s6 σ6 H6 _ I6 q6) fun ok s7 zz9 => ?_)
  obtain ⟨H7, I7, q7⟩ := zz9
  have back : ∀ {σ7 : St} {H7 : Hp} {s7 : Shared}, Inv X (pins ++ pinsAt fp s5.heap) σ7 H7 s7 → N σ7 H7 → ∃ m, m < n ∧ ∃ i σ' H', Inv X pins σ' H' s7 ∧ tn i s7.heap ∧ (∀ b ∈ fp, H' b = none) ∧ W i m σ' H' := fun {σ7 H7 s7} I7 n7 => by
   obtain ⟨m', hm, w7⟩ := hN σ7 H7 n7
   refine ⟨m', hm, i + 1, σ7, H7, I7.unpinned, T.keep _ _ _ st5 fun b hb o e => (I7.pin (b, o) (List.mem_append_right _ (List.mem_append_right _ (mem_pinsAt hb e)))).1, fun b hb => ?_, w7⟩
   obtain ⟨o, e, d⟩ := T.obj _ _ st5 b hb
   exact (I7.pin (b, o) (List.mem_append_right _ (List.mem_append_right _ (mem_pinsAt hb e)))).2.1
  cases ok with
  | false => exact hxe ▸ wpAny_pure ⟨rfl, back I7 q7⟩
  | true =>
   refine thn (hb _ s7 σ6 H7 N I7 q7) fun fin s8 zz9 => ?_
   obtain ⟨hfin, σ8, H8, I8, q8⟩ := zz9
   subst hfin
   exact ⟨rfl, back I8 q8⟩
end
end L2
set_option maxHeartbeats 4000000
namespace L2
open PySem PySem.Spec PyProof.Rows
noncomputable def tEmit (te : TE) (D : Addr) : TB := fun σ H N => te σ H fun v H1 => ∃ xs, H1 D = some (.lst xs) ∧ xs.length < sizeLine ∧ N σ (upd H1 D (.lst (xs ++ [v])))
section
variable {X : Cx}
theorem pb_emit {elt : Expr} {te : TE} {D : Addr} {c : Code} (he : PE X elt te) :
  PB X ((eval elt X.env >>= fun x => call (.builtin "list.append") [.ref D, x] >>= fun _ => pure ()) >>= fun _ => again c) c (tEmit te D) := by
 intro pins s σ H N I h
 refine wpAny_bind (wpAny_bind (thn (he pins s σ H _ I h) fun u s1 zz9 => ?_))
 obtain ⟨v, H1, I1, r1, q1⟩ := zz9
 obtain ⟨xs, hD, hl, q⟩ := q1
 refine wpAny_bind (thn (mt_append pins s1 σ H1 (.ref D) [v] (.ref D) [u] (fun _ H2 => N σ H2) I1 rfl (.cons r1 .nil) ⟨D, xs, v, rfl, rfl, hD, hl, q⟩) fun _ s2 zz9 => ?_)
 obtain ⟨_, H2, I2, _, q2⟩ := zz9
 exact wpAny_pure (wpAny_pure ⟨rfl, σ, H2, I2, q2⟩)
noncomputable def tGen (wi : TI) (g : TG) (tt : TT) (tb : TB) : TB := fun σ H N => wi σ H fun J H1 => LoopR J g tt tb N σ H1
theorem compStart1 {prog : Program} {w : World} {A : Around} {R : Result → Shared → Prop} {s : Shared} {elt : Expr} {t0 i0 : Expr} {f0 : List Expr} {t1 i1 : Expr} {f1 : List Expr} {scope : Scope} {pos : Pos} {it acc : Value} {env : Env}
  (h0 : codeAny (model prog w) A (.compLoop (.ListComp elt [⟨t0, i0, f0, 0⟩, ⟨t1, i1, f1, 0⟩] scope pos) 1 it acc env) R s)
  (h : wpAny (model prog w) A (pyIter it) (fun it' s' => codeAny (model prog w) A (.compLoop (.ListComp elt [⟨t0, i0, f0, 0⟩, ⟨t1, i1, f1, 0⟩] scope pos) 1 it' acc env) R s')
   (notedBy (model prog w) A env fun x s' => R (.error x) s') s) :
  codeAny (model prog w) A (.compStart (.ListComp elt [⟨t0, i0, f0, 0⟩, ⟨t1, i1, f1, 0⟩] scope pos) 1 it acc env) R s := by
 refine codeAny_of_tree ?_
 show wpAny _ _ ((compStart (.ListComp elt [⟨t0, i0, f0, 0⟩, ⟨t1, i1, f1, 0⟩] scope pos) 1 it acc env).onRaise (fun x => do noteFrame x env; standAt theWindowsPlace)) _ _ s
 refine wpAny_notedAt ?_
 unfold compStart
 show wpAny _ _ (ask >>= _) _ _ s
 refine wpAny_bind (wpAny_askSetting (wpAny_ite ?_))
 split
 ·first
   | exact wpAny_bind (wpAny_pure (wpAny_pure (And.intro rfl h0)))
   | exact wpAny_pure (And.intro rfl h0)
 ·first
   | exact wpAny_bind (wpAny_rule (wpAny_bind (wpAny_standAt (wpAny_bind (wpAny_mono h (fun it' s' h' => wpAny_pure (And.intro rfl h')) fun _ _ x => x)))))
   | (refine wpAny_bind (wpAny_rule ?_); show wpAny _ _ (standAt i1.pos >>= _) _ _ s; exact wpAny_bind (wpAny_standAt (wpAny_bind (wpAny_mono h (fun it' s' h' => wpAny_pure (And.intro rfl h')) fun _ _ x => x))))
theorem pb_gen {elt t0 i0 t1 i1 : Expr} {f0 f1 : List Expr} {scope : Scope} {pos : Pos} {D : Addr} {c : Code} {wi : TI} {g : TG} {tt : TT} {te : TE} (hxe : X.xe = fun _ _ => False) (hc : X.calm = true)
  (hi : PI X t1 i1 wi) (hg : PG X t1 g) (ht : PTs X f1 tt) (he : PE X elt te) (hs : ∀ x, foldedSetIterable i1 X.env x = pure x := by intro _; rfl) :
  PB X (eval i1 X.env >>= fun x => standAt i1.pos >>= fun _ => foldedSetIterable i1 X.env x >>= fun x => holding [x] (pyIter x) >>= fun it =>
   runOwn (.compStart (.ListComp elt [⟨t0, i0, f0, 0⟩, ⟨t1, i1, f1, 0⟩] scope pos) 1 it (.ref D) X.env) X.env >>= fun _ => again c) c (tGen wi g tt (tEmit te D)) := by
 intro pins s σ H N I h
 refine wpAny_bind (thn (hi pins s σ H _ I h) fun v s1 h1 => wpAny_bind (wpAny_standAt ?_))
 rw [hs]
 refine wpAny_bind (wpAny_pure (wpAny_bind (wpAny_holding (thn h1 fun itv s2 h2 => ?_))))
 obtain ⟨it, fp, tn, J, H2, e, I2, T, st2, f2, L⟩ := h2
 subst e
 have loop : ∀ (A : Around), A = X.A → codeAny (model X.prog X.w) A (.compLoop (.ListComp elt [⟨t0, i0, f0, 0⟩, ⟨t1, i1, f1, 0⟩] scope pos) 1 (.ref it) (.ref D) X.env)
   (fun r s' => match r with | .ok f => wpAny (model X.prog X.w) X.A (again c) (fun fin s' => fin = .again c ∧ ∃ σ' H', Inv X pins σ' H' s' ∧ N σ' H') X.xe s' | .error e => cameBackBy (model X.prog X.w) X.A X.env X.xe e s') s2 := by
  rintro A rfl
  exact comp_loop (tg := t1) (ifs := f1) (R := N) hxe rfl rfl rfl rfl T hc hg ht (pb_emit (c := .compLoop (.ListComp elt [⟨t0, i0, f0, 0⟩, ⟨t1, i1, f1, 0⟩] scope pos) 1 (.ref it) (.ref D) X.env) he) f2 I2 st2 L fun s' σ' H' I' q => wpAny_pure ⟨rfl, σ', H', I', q⟩
 refine wpAny_bind (wpAny_runOwn (h := none) ?_)
 exact compStart1 (loop _ rfl) (T.self _ _ _ _ _ st2 (loop _ rfl))
end
end L2
set_option maxHeartbeats 4000000
namespace L2
open PySem PySem.Spec PyProof.Rows
noncomputable def tComp (ts : List Str) (fv : List (Str × Nat)) (wi : TI) (g : TG) (tt : TT) (tb : Addr → TB) : TE := fun σ H Q => wi σ H fun J H1 => ∀ D, H1 D = none →
 LoopR J g tt (tb D) (fun _ H' => Q (.ref D) H') (blkS ts fv σ) (upd H1 D (.lst []))
section
variable {X : Cx} {ts : List Str} {fv : List (Str × Nat)} {scope : Scope} {elt t0 i0 : Expr} {f0 : List Expr} {rest : List Comprehension} {pos : Pos} {wi : TI} {g : TG} {tt : TT} {tb : Addr → TB} {kont : Env → Addr → Addr → Sem Fin}
theorem comp_core (B : BlkOk X scope fv) (hc : X.calm = true) (hi : PI X t0 i0 wi)
  (hg : ∀ C s₀ H₀ ex, PG (blkCx X (blkN ts fv) scope C s₀ H₀ ex) t0 g) (ht : ∀ C s₀ H₀ ex, PTs (blkCx X (blkN ts fv) scope C s₀ H₀ ex) f0 tt)
  (heq : ∀ (env : Env) (it D : Addr), compTurn (.ListComp elt (⟨t0, i0, f0, 0⟩ :: rest) scope pos) 0 (.ref it) (.ref D) env = (standAt i0.pos >>= fun _ => pyNext (.ref it) >>= fun r => match r with
   | none => pure (.done .next)
   | some v => letOwnedTupleGo t0 (.ref it) v >>= fun _ => assign t0 env v >>= fun _ =>
    (forIn f0 true fun c r => if r = true then do let ok ← isTrue c env (eval c env); pure (ForInStep.yield ok) else pure (ForInStep.yield r)) >>= fun ok =>
     if ok = true then kont env it D else again (.compLoop (.ListComp elt (⟨t0, i0, f0, 0⟩ :: rest) scope pos) 0 (.ref it) (.ref D) env)))
  (hb : ∀ C s₀ H₀ ex it D, PB (blkCx X (blkN ts fv) scope C s₀ H₀ ex) (kont (blkCx X (blkN ts fv) scope C s₀ H₀ ex).env it D) (.compLoop (.ListComp elt (⟨t0, i0, f0, 0⟩ :: rest) scope pos) 0 (.ref it) (.ref D) (blkCx X (blkN ts fv) scope C s₀ H₀ ex).env) (tb D))
  {pins : List (Addr × Obj)} {s : Shared} {σ : St} {H : Hp} {Q : VK} {RR : Value → Addr → Result → Shared → Prop} (I : Inv X pins σ H s) (h : tComp ts fv wi g tt tb σ H Q)
  (hRR : ∀ D C s' H', Inv X pins σ H' s' → H' C = none → X.s₀.heap.objs.size ≤ C → C ≠ X.env.locals → (∀ x c, X.env.cells.lookup x = some c → c ≠ C) → (∀ p ∈ X.pn ++ pins, p.1 ≠ C) → (∃ m, s'.heap.Ns C m) → Q (.ref D) H' → RR (.ref D) C (.ok .next) s') :
  wpAny (model X.prog X.w) X.A (eval i0 X.env) (fun x s₁ => wpAny (model X.prog X.w) X.A (pyIter x) (fun it s₂ => wpAny (model X.prog X.w) X.A (newList []) (fun acc s₃ =>
   wpAny (model X.prog X.w) X.A (newFunctionEnv scope X.env.globals (cloList X.env scope.names []) [] X.env.qual none .none (some X.env)) (fun cenv s₄ =>
    codeAny (model X.prog X.w) X.A (.compStart (.ListComp elt (⟨t0, i0, f0, 0⟩ :: rest) scope pos) 0 it acc { cenv with scope := relabel scope X.env }) (RR acc cenv.locals) s₄) X.xe s₃) X.xe s₂) X.xe s₁) X.xe s := by
 refine thn (hi pins s σ H _ I h) fun v s1 h1 => thn h1 fun itv s2 h2 => ?_
 obtain ⟨it, fp, tn, J, H2, e, I2, T, st2, f2, L⟩ := h2
 subst e
 have L := L s2.heap.objs.size I2.fresh
 refine wpAny_newObj_type ?_
 have I3 : Inv X pins σ (upd H2 s2.heap.objs.size (.lst [])) { s2 with heap := s2.heap.push { cls := .type "list", data := .seq ([] : List Value).toArray }, toks := s2.toks } := I2.lnew (its := []) (t' := s2.toks) .nil (Nat.zero_le _)
 have ho2 : ∀ b ∈ fp, ∃ o, s2.heap.get? b = some o ∧ ∀ v, o.data ≠ .cell v := T.obj _ _ st2
 have f3 : ∀ b ∈ fp, FpOk X pins (upd H2 s2.heap.objs.size (.lst [])) b := fun b hb => by
  obtain ⟨o, ho, _⟩ := ho2 b hb
  refine ⟨?_, (f2 b hb).2⟩
  rw [upd_ne (Nat.ne_of_lt (Heap.lt_size ho))]
  exact (f2 b hb).1
 have st3 : tn 0 (s2.heap.push { cls := .type "list", data := .seq ([] : List Value).toArray }) := T.keep _ _ _ st2 fun b _ o e => Heap.get?_push_of_some _ e
 have ho3 : ∀ b ∈ fp, ∃ o, (s2.heap.push { cls := .type "list", data := .seq ([] : List Value).toArray }).get? b = some o := fun b hb => let ⟨o, e, _⟩ := ho2 b hb; ⟨o, Heap.get?_push_of_some _ e⟩
 generalize hs3 : ({ s2 with heap := s2.heap.push { cls := .type "list", data := .seq ([] : List Value).toArray }, toks := s2.toks } : Shared) = s3 at I3
 have eh : s2.heap.push { cls := .type "list", data := .seq ([] : List Value).toArray } = s3.heap := by rw [← hs3]
 rw [eh] at st3 ho3
 refine wpAny_newFunctionEnv B.nocell (by intro y hy; simp at hy) (fun h₁ hns hsb => ?_) B.kind
 have hk : ∀ b o, s3.heap.get? b = some o → h₁.get? b = some o := fun b o e => hsb.extBut b o (Nat.ne_of_lt (Heap.lt_size e)) (Heap.get?_push_of_some _ e)
 have I4 := blk_start (ts := ts) (tk := s3.toks + ([] : List (Str × Value)).length) B I3 f3 ho3 hns hk
 have f4 : ∀ b ∈ fp, FpOk (blkCx X (blkN ts fv) scope s3.heap.objs.size s3 (upd H2 s2.heap.objs.size (.lst [])) fp) [] (upd H2 s2.heap.objs.size (.lst [])) b := fun b hb => by
  obtain ⟨f0, f1, f2', f3', f4', f5'⟩ := f3 b hb
  obtain ⟨o, eo⟩ := ho3 b hb
  exact ⟨f0, Nat.ne_of_lt (Heap.lt_size eo), I4.ok.exfs b hb, .inl hb, (I4.ok.exf b hb).2, fun p hp => absurd (show p ∈ ([] : List (Addr × Obj)) from hp) (by simp)⟩
 have st4 : tn 0 h₁ := T.keep _ _ _ st3 fun b _ o e => hk b o e
 have loop : codeAny (model X.prog X.w) X.A (.compLoop (.ListComp elt (⟨t0, i0, f0, 0⟩ :: rest) scope pos) 0 (.ref it) (.ref s2.heap.objs.size) (blkCx X (blkN ts fv) scope s3.heap.objs.size s3 (upd H2 s2.heap.objs.size (.lst [])) fp).env)
   (RR (.ref s2.heap.objs.size) s3.heap.objs.size) { s3 with heap := h₁, toks := s3.toks + ([] : List (Str × Value)).length } := by
  refine comp_loop (X := blkCx X (blkN ts fv) scope s3.heap.objs.size s3 (upd H2 s2.heap.objs.size (.lst [])) fp) (tg := t0) (ifs := f0) (R := fun _ H' => Q (.ref s2.heap.objs.size) H') rfl rfl rfl rfl (heq _ it s2.heap.objs.size) T hc (hg _ _ _ _) (ht _ _ _ _) (hb _ _ _ _ it s2.heap.objs.size) f4 I4 st4 L fun s' σ' H' J' q => ?_
  obtain ⟨e1, e2, e3, e4, e5, e6⟩ := blk_end I3 f3 (Nat.le_refl _) J'
  obtain ⟨m, hm, _⟩ := J'.loc
  exact hRR _ _ s' H' e1 e2 e3 e4 e5 e6 ⟨m, hm⟩ q
 exact codeAny_compStart_list loop (T.self _ _ _ _ _ st4 loop)
theorem pe_compG (B : BlkOk X scope fv) (hc : X.calm = true) (hi : PI X t0 i0 wi)
  (hg : ∀ C s₀ H₀ ex, PG (blkCx X (blkN ts fv) scope C s₀ H₀ ex) t0 g) (ht : ∀ C s₀ H₀ ex, PTs (blkCx X (blkN ts fv) scope C s₀ H₀ ex) f0 tt)
  (heq : ∀ (env : Env) (it D : Addr), compTurn (.ListComp elt (⟨t0, i0, f0, 0⟩ :: rest) scope pos) 0 (.ref it) (.ref D) env = (standAt i0.pos >>= fun _ => pyNext (.ref it) >>= fun r => match r with
   | none => pure (.done .next)
   | some v => letOwnedTupleGo t0 (.ref it) v >>= fun _ => assign t0 env v >>= fun _ =>
    (forIn f0 true fun c r => if r = true then do let ok ← isTrue c env (eval c env); pure (ForInStep.yield ok) else pure (ForInStep.yield r)) >>= fun ok =>
     if ok = true then kont env it D else again (.compLoop (.ListComp elt (⟨t0, i0, f0, 0⟩ :: rest) scope pos) 0 (.ref it) (.ref D) env)))
  (hb : ∀ C s₀ H₀ ex it D, PB (blkCx X (blkN ts fv) scope C s₀ H₀ ex) (kont (blkCx X (blkN ts fv) scope C s₀ H₀ ex).env it D) (.compLoop (.ListComp elt (⟨t0, i0, f0, 0⟩ :: rest) scope pos) 0 (.ref it) (.ref D) (blkCx X (blkN ts fv) scope C s₀ H₀ ex).env) (tb D))
  (hs : ∀ x, foldedSetIterable i0 X.env x = pure x := by intro _; rfl) :
  PE X (.ListComp elt (⟨t0, i0, f0, 0⟩ :: rest) scope pos) (tComp ts fv wi g tt tb) := by
 intro pins s σ H Q I h
 rw [eval_ListComp]
 refine wpAny_comprehension_free (use := none) rfl hs (closure_run fun y hy e => I.ok.has y.1 (B.free y hy e)) B.kind B.names ?_
 refine comp_core (RR := fun acc C => compPost (model X.prog X.w) X.A X.xe none (EP X pins σ Q) acc C) B hc hi hg ht heq hb I h fun D C s' H' I' e2 e3 e4 e5 e6 hm q => ?_
 obtain ⟨m, hm⟩ := hm
 exact ⟨m, hm, fun h' hs' => ⟨.ref D, H', I'.apart hs' e2 e3 e4 e5 e6, rfl, q⟩⟩
theorem ps_setCompG {i : Nat} {y : Str} {py spos : Pos} (B : BlkOk X scope fv) (hc : X.calm = true) (hN : X.N.Nodup) (hiy : X.N[i]? = some y) (hyl : X.env.scope.names.lookup y = some .local)
  (hsw : swapsWith (.ListComp elt (⟨t0, i0, f0, 0⟩ :: rest) scope pos) (some (.Name y py)) spos.line X.env = pure true) (hi : PI X t0 i0 wi)
  (hg : ∀ C s₀ H₀ ex, PG (blkCx X (blkN ts fv) scope C s₀ H₀ ex) t0 g) (ht : ∀ C s₀ H₀ ex, PTs (blkCx X (blkN ts fv) scope C s₀ H₀ ex) f0 tt)
  (heq : ∀ (env : Env) (it D : Addr), compTurn (.ListComp elt (⟨t0, i0, f0, 0⟩ :: rest) scope pos) 0 (.ref it) (.ref D) env = (standAt i0.pos >>= fun _ => pyNext (.ref it) >>= fun r => match r with
   | none => pure (.done .next)
   | some v => letOwnedTupleGo t0 (.ref it) v >>= fun _ => assign t0 env v >>= fun _ =>
    (forIn f0 true fun c r => if r = true then do let ok ← isTrue c env (eval c env); pure (ForInStep.yield ok) else pure (ForInStep.yield r)) >>= fun ok =>
     if ok = true then kont env it D else again (.compLoop (.ListComp elt (⟨t0, i0, f0, 0⟩ :: rest) scope pos) 0 (.ref it) (.ref D) env)))
  (hb : ∀ C s₀ H₀ ex it D, PB (blkCx X (blkN ts fv) scope C s₀ H₀ ex) (kont (blkCx X (blkN ts fv) scope C s₀ H₀ ex).env it D) (.compLoop (.ListComp elt (⟨t0, i0, f0, 0⟩ :: rest) scope pos) 0 (.ref it) (.ref D) (blkCx X (blkN ts fv) scope C s₀ H₀ ex).env) (tb D))
  (hs : ∀ x, foldedSetIterable i0 X.env x = pure x := by intro _; rfl) :
  PS X (.Assign [.Name y py] (.ListComp elt (⟨t0, i0, f0, 0⟩ :: rest) scope pos) spos) (tAsg (tComp ts fv wi g tt tb) (gName i)) := by
 intro pins s σ H D0 I h
 rw [exec_Assign_Name_used _ _ _ _ hsw]
 refine wpAny_bind (wpAny_standAt (wpAny_bind ?_))
 show wpAny _ X.A (do let _ ← comprehension (.ListComp elt (⟨t0, i0, f0, 0⟩ :: rest) scope pos) scope X.env _ (newList []) false (eval i0 X.env) (some (assign (.Name y py) X.env))) _ _ s
 refine wpAny_bind (wpAny_mono (wpAny_comprehension_free (use := some (assign (.Name y py) X.env)) (Q := fun _ s' => SP X pins D0 .next s') rfl hs (closure_run fun y hy e => I.ok.has y.1 (B.free y hy e)) B.kind B.names ?_) (fun _ s' hq => wpAny_pure (wpAny_pure hq)) fun _ _ e => e)
 refine comp_core (Q := fun x H1 => gName i x σ H1 D0.nx) (RR := fun acc C => compPost (model X.prog X.w) X.A X.xe (some (assign (.Name y py) X.env)) (fun _ s' => SP X pins D0 .next s') acc C) B hc hi hg ht heq hb I h fun D C s' H' I' e2 e3 e4 e5 e6 hm q => ?_
 obtain ⟨m, hm⟩ := hm
 show wpAny _ X.A (assign (.Name y py) X.env (.ref D)) _ _ _
 refine wpAny_assign_Name (store_ok2 I' hN hiy (.inl hyl) (show RelV (.ref D) (.ref D) from rfl) (fun s'' I'' hch => ?_) (.inr hyl))
 obtain ⟨a, hsb, ha⟩ := hch
 have haC : C ≠ a := by
  rcases ha with e | e
  ·rw [e]; exact e4
  ·exact fun z => e5 y a e z.symm
 exact ⟨m, hm.sameBut hsb haC, fun h' hs' => ⟨_, H', I''.apart hs' e2 e3 e4 e5 e6, q⟩⟩
end
end L2
set_option maxHeartbeats 4000000
namespace L2
open PySem PySem.Spec PyProof.Rows
noncomputable def FlyT (e T : Addr) (cls a0 : Value) (h : Heap) : Prop :=
 ∃ oe vs oT ts, h.get? e = some oe ∧ (oe.cls = cls ∧ vs[0]? = some a0) ∧ oe.data = .fields vs ∧ vs[1]? = some (.ref T) ∧ T ≠ e ∧ h.get? T = some oT ∧ oT.data = .fields ts ∧ ts[3]? = some .none
noncomputable def CXr (P : Program) (w : World) : CXT := fun outer H s E ev s' =>
 ∃ (e T : Addr) (cls a0 : Value) (H' : Hp), ev = .ref e ∧ s'.os = s.os ∧ AllBare s'.gens ∧ Un (frs outer) [] H H' s.heap s'.heap ∧ HOk P w H' s'.heap ∧
  s.heap.get? e = none ∧ s.heap.get? T = none ∧ H' e = none ∧ H' T = none ∧ FlyT e T cls a0 s'.heap ∧ E cls none H'
theorem passR {X : Cx} : Passes (CXr X.prog X.w) X E0 := fun _ _ _ _ _ _ _ h => by
 obtain ⟨_, _, _, _, _, _, _, _, _, _, _, _, _, _, _, z⟩ := h
 exact z.elim
theorem cxr_top {P : Program} {w : World} {H : Hp} {s : Shared} {e : Value} {s' : Shared} (h : CXr P w [] H s (fun _ _ _ => False) e s') : False := by
 obtain ⟨_, _, _, _, _, _, _, _, _, _, _, _, _, _, _, z⟩ := h
 exact z
section
variable {P : Program} {w : World} {K : PySem.W.Frag} {mg : Str → Option Value} {base : Heap}
theorem Fun.okR {x qual : Str} {st : Stmt} {f : Addr} {fd : FuncData} {N ps : List Str} {k : Nat} {sp : Sp} (F : Fun K x qual st f fd) (S : FnScope N ps (defScope st)) (len : ∀ vs H Q E, sp vs H Q E → vs.length = ps.length)
  (hbody : ∀ (cdv : Value) (A : Around) (outer : List Env) (s : Shared) (H : Hp) (vs : List V) (Q : VK) (E : XK), Room k (A.deeper (envOfC qual (defScope st) s.heap.objs.size f cdv)) → sp vs H Q E →
   ∃ t, PSs (cxOf (CXr P w) P w K mg base N qual (defScope st) f cdv A outer s H E).nox (defBody st) t ∧ t { nx := fun _ H' => Q .non H', rt := Q } (start N vs) H) : FnOk P w K mg base (CXr P w) (k + 1) f fd ps sp := by
 obtain ⟨oc, od, kV, doc, pm, an, cdv, ct, osl, rfl, lk, hcd⟩ := F.ex
 refine fn_of lk hcd S len fun A outer s H vs Q E hr hsp => ?_
 obtain ⟨t, h, q⟩ := hbody cdv A outer s H vs Q E hr hsp
 exact ⟨t, h.nox, q⟩
end
section
variable {X : Cx}
theorem blkFree {X : Cx} {scope : Scope} (h : scope.names.all (fun y => y.2 != .free || X.env.kindOf y.1 == some .cell || X.env.kindOf y.1 == some .free) = true) :
  ∀ y ∈ scope.names, y.2 = .free → X.env.kindOf y.1 = some .cell ∨ X.env.kindOf y.1 = some .free := fun y hy e => by
 have := List.all_eq_true.mp h y hy
 simp [e] at this
 exact this
end
theorem walk_r {l : PySem.W.OpenLaw} {k : Nat} {q : Program} {loose : List Str} {XP : (Str → Option Value) → Heap → Prop} {YP : World → Heap → Prop} {d : DefRec} {K : Params → PySem.W.Frag} {spl : PySem.W.Frag → Sp}
  (hn : l.most = some 63) (hdf : d.params.defaults = []) (hr : Room k callerA) (hY : ∀ (w : World) (h : Heap), YP w h → (K w.params).In h)
  (hsp : ∀ (K : PySem.W.Frag) (H : Hp) (a : Addr) (ns : List Int), ns.length ≤ 63 → SqL K H a (ns.map V.int) → spl K [.ref a] H (fun v _ => v = .bl true) fun _ _ _ => False)
  (F : ∀ (w : World) (mg : Str → Option Value) (fa : Addr) (h : Heap), (K w.params).In h → h.Ns mainGlobals mg → mg d.name = some (.ref fa) →
   ∃ fd : FuncData, (∀ (s : Shared) (u : Value), BindsTo s fd ⟨[u], []⟩ [("_law_script", u)]) ∧
    ∀ base : Heap, (K w.params).In base → base.Ns mainGlobals mg → FnOk l.prog w (K w.params) mg base (CXr l.prog w) k fa fd ["_law_script"] (spl (K w.params))) :
  PySem.W.WalkO q loose XP YP l.row.toRowW d [] (fun f vs => PySem.call f vs) :=
 walk_of (n := 63) (k := k) (x := "_law_script") (CX := fun w => CXr l.prog w) (sp := fun w => spl (K w.params)) hn (by decide) hdf hr hY F (fun w H a ns hl _ hS => hsp _ H a ns hl hS) (fun w H s e s' h => cxr_top h)
end L2
set_option maxHeartbeats 4000000
namespace L2
open PySem PySem.Spec PyProof.Rows
noncomputable def ExT (e : Addr) (T : Option Addr) (cls a0 : Value) (h : Heap) : Prop := match T with
 | some T => FlyT e T cls a0 h
 | none => ∃ oe vs, h.get? e = some oe ∧ (oe.cls = cls ∧ vs[0]? = some a0) ∧ oe.data = .fields vs ∧ vs[1]? = some .none
structure FxOk (X : Cx) (pins : List (Addr × Obj)) (H : Hp) (b : Addr) : Prop where
 nt : H b = none
 nl : b ≠ X.env.locals
 nf : b ∉ X.fs
 n0 : X.s₀.heap.get? b = none
 nc : ∀ x c, X.env.cells.lookup x = some c → c ≠ b
 np : ∀ p ∈ X.pn ++ pins, p.1 ≠ b
noncomputable def XS (fr : Bool) (X : Cx) (pins : List (Addr × Obj)) (R : Value → St → Hp → Prop) (ev : Value) (s' : Shared) : Prop :=
 ∃ (e : Addr) (T : Option Addr) (cls a0 : Value) (σ' : St) (H' : Hp), ev = .ref e ∧ Inv X pins σ' H' s' ∧ ExT e T cls a0 s'.heap ∧ FxOk X pins H' e ∧ (∀ t, T = some t → FxOk X pins H' t) ∧ (T = none → fr = true) ∧ R cls σ' H'
noncomputable abbrev TSX := Ends → (Value → St → Hp → Prop) → St → Hp → Prop
noncomputable abbrev TEX := St → Hp → VK → XK → Prop
noncomputable def PSX (fr : Bool) (X : Cx) (st : Stmt) (t : TSX) : Prop :=
 ∀ (pins : List (Addr × Obj)) (s : Shared) (σ : St) (H : Hp) (D : Ends) (R : Value → St → Hp → Prop), Inv X pins σ H s → t D R σ H → wpAny (model X.prog X.w) X.A (exec st X.env) (SP X pins D) (XS fr X pins R) s
noncomputable def PSsX (fr : Bool) (X : Cx) (st : List Stmt) (t : TSX) : Prop :=
 ∀ (pins : List (Addr × Obj)) (s : Shared) (σ : St) (H : Hp) (D : Ends) (R : Value → St → Hp → Prop), Inv X pins σ H s → t D R σ H → wpAny (model X.prog X.w) X.A (execs st X.env) (SP X pins D) (XS fr X pins R) s
noncomputable def PEX (fr : Bool) (X : Cx) (e : Expr) (t : TEX) : Prop :=
 ∀ (pins : List (Addr × Obj)) (s : Shared) (σ : St) (H : Hp) (Q : VK) (E : XK), Inv X pins σ H s → t σ H Q E → wpAny (model X.prog X.w) X.A (eval e X.env) (EP X pins σ Q) (XS fr X pins fun cls σ' H' => σ' = σ ∧ E cls none H') s
section
variable {X : Cx} {fr : Bool}
theorem psx_of {st : Stmt} {t : TS} (h : PS X st t) (hx : X.xe = (fun _ _ => False) := by rfl) : PSX fr X st (fun D _ σ H => t D σ H) := fun pins s σ H D R I q => by
 have := h pins s σ H D I q
 rw [hx] at this
 exact wpAny_mono this (fun _ _ z => z) fun _ _ z => z.elim
theorem pssx_of {st : List Stmt} {t : TS} (h : PSs X st t) (hx : X.xe = (fun _ _ => False) := by rfl) : PSsX fr X st (fun D _ σ H => t D σ H) := fun pins s σ H D R I q => by
 have := h pins s σ H D I q
 rw [hx] at this
 exact wpAny_mono this (fun _ _ z => z) fun _ _ z => z.elim
noncomputable def tSeqX (t u : TSX) : TSX := fun D R σ H => t { D with nx := u D R } R σ H
theorem pssx_cons {st : Stmt} {rest : List Stmt} {t u : TSX} (h1 : PSX fr X st t) (h2 : PSsX fr X rest u) : PSsX fr X (st :: rest) (tSeqX t u) := by
 intro pins s σ H D R I h
 refine wpAny_execs_cons (thn (h1 pins s σ H { D with nx := u D R } R I h) fun f s1 q => ?_)
 cases f with
 | next =>
  obtain ⟨σ', H', I', q⟩ := q
  exact h2 pins s1 σ' H' D R I' q
 | ret v => exact q
 | brk => exact q
 | cont => exact q
theorem pssx_one {st : Stmt} {t : TSX} (h1 : PSX fr X st t) : PSsX fr X [st] t := by
 intro pins s σ H D R I h
 refine wpAny_execs_cons (thn (h1 pins s σ H D R I h) fun f s1 q => ?_)
 cases f with
 | next => exact wpAny_execs_nil q
 | ret v => exact q
 | brk => exact q
 | cont => exact q
theorem pssx_nil : PSsX fr X [] (fun D _ σ H => D.nx σ H) := fun _ _ σ H _ _ I h => wpAny_execs_nil ⟨σ, H, I, h⟩
noncomputable def tIfX (c : TT) (t u : TSX) : TSX := fun D R σ H => c σ H fun b H1 => if b = true then t D R σ H1 else u D R σ H1
theorem psx_if {c : Expr} {a b : List Stmt} {tc : TT} {t u : TSX} {pos : Pos} (hc : PT X c tc) (ha : PSsX fr X a t) (hb : PSsX fr X b u) (hx : X.xe = (fun _ _ => False) := by rfl) : PSX fr X (.If c a b pos) (tIfX tc t u) := by
 intro pins s σ H D R I h
 have h0 := hc pins s σ H _ I h
 rw [hx] at h0
 refine wpAny_If (wpAny_mono h0 (fun d s1 zz26 => ?_) fun _ _ z => z.elim)
 obtain ⟨H1, I1, q1⟩ := zz26
 cases d with
 | true => exact ha pins s1 σ H1 D R I1 q1
 | false => exact hb pins s1 σ H1 D R I1 q1
noncomputable def tDropX (te : TEX) : TSX := fun D R σ H => te σ H (fun _ H1 => D.nx σ H1) fun cls _ H1 => R cls σ H1
theorem psx_expr {e : Expr} {te : TEX} {pos : Pos} (he : PEX fr X e te) (hs : swapsWith e none pos.line X.env = pure false := by rfl) : PSX fr X (.Expr e pos) (tDropX te) := by
 intro pins s σ H D R I h
 refine wpAny_Expr_any (wpAny_mono (he pins s σ H _ _ I h) (fun v s1 ⟨x, H1, I1, r1, q1⟩ => ⟨σ, H1, I1, q1⟩) ?_) I.quiet hs
 rintro ev s1 ⟨e, T, cls, a0, σ', H', h1, h2, h3, h4, h5, h7, rfl, h6⟩
 exact ⟨e, T, cls, a0, σ', H', h1, h2, h3, h4, h5, h7, h6⟩
noncomputable def tSetX (i : Nat) (te : TEX) : TSX := fun D R σ H => te σ H (fun x H1 => D.nx (σ.set i (some x)) H1) fun cls _ H1 => R cls σ H1
theorem psx_set {i : Nat} {x : Str} {e : Expr} {te : TEX} {pos pos' : Pos} (hN : X.N.Nodup) (hi : X.N[i]? = some x) (hx : Loc X.env.scope x) (he : PEX fr X e te) (hs : swapsWith e (some (.Name x pos')) pos.line X.env = pure false := by rfl)
  (hf : X.fn x = true ∨ X.env.scope.names.lookup x = some .local := by first | exact .inl rfl | exact .inr rfl | assumption) : PSX fr X (.Assign [.Name x pos'] e pos) (tSetX i te) := by
 intro pins s σ H D R I h
 refine wpAny_Assign_Name (wpAny_mono (he pins s σ H _ _ I h) (fun v s1 ⟨y, H1, I1, r1, q1⟩ => ?_) ?_) hs
 ·exact store_ok I1 hN hi hx r1 (fun s2 I2 => ⟨_, H1, I2, q1⟩) hf
 ·rintro ev s1 ⟨e, T, cls, a0, σ', H', h1, h2, h3, h4, h5, h7, rfl, h6⟩
  exact ⟨e, T, cls, a0, σ', H', h1, h2, h3, h4, h5, h7, h6⟩
theorem Inv.cxr {pins : List (Addr × Obj)} {σ : St} {H : Hp} {s s' : Shared} {E : XK} {ev : Value} (I : Inv X pins σ H s) (hex : X.ex = []) (h : CXr X.prog X.w X.stack H s E ev s') : XS fr X pins (fun cls σ' H' => σ' = σ ∧ E cls none H') ev s' := by
 obtain ⟨e, T, cls, a0, H', rfl, os, bare, un, hok, ne, nT, he, hT, fl, q⟩ := h
 have I' : Inv X pins σ H' s' := I.call' os un hok bare fun b hb => absurd hb (by simp)
 have fx : ∀ b, s.heap.get? b = none → H' b = none → FxOk X pins H' b := fun b hb hn => by
  refine ⟨hn, fun z => ?_, fun z => ?_, ?_, fun x c e z => ?_, fun p hp z => ?_⟩
  ·obtain ⟨m, ⟨o, _, _, ho, _⟩, _⟩ := I.loc
   rw [z, ho] at hb; cases hb
  ·obtain ⟨_, o, ho, _⟩ := I.funs.mem z
   rw [ho] at hb; cases hb
  ·cases q : X.s₀.heap.get? b with
   | none => rfl
   | some o =>
    obtain ⟨o', e'⟩ := I.base.there b o q (by rw [hex]; simp)
    rw [hb] at e'; cases e'
  ·obtain ⟨v, o, ho, _⟩ := I.cell x c e
   rw [z, hb] at ho; cases ho
  ·have := (I.pin p hp).1
   rw [z, hb] at this; cases this
 exact ⟨e, some T, cls, a0, σ, H', rfl, I', fl, fx e ne he, fun t ht => by cases ht; exact fx T nT hT, (fun z => nomatch z), rfl, q⟩
variable {k : Nat} {f C : Addr} {fd : FuncData} {ps : List Str} {sp : Sp} {dvs : List V} {ds : List Value} {x m : Str} {p pos apos : Pos} {e o : Expr} {es : List Expr} {ta : TE} {t : TA}
theorem run_fnX {pins : List (Addr × Obj)} {σ : St} {H : Hp} {s : Shared} {Q : VK} {E : XK} {us : List Value} {vs : List V} (F : FnOk X.prog X.w X.K X.mg X.base (CXr X.prog X.w) k f fd ps sp) (hr : Room k X.A) (hb : Binds X.K fd ps ds) (hd : Vals dvs ds) (hex : X.ex = [])
  (I : Inv X pins σ H s) (r : Vals vs us) (h : sp (vs ++ dvs) H Q E) : wpAny (model X.prog X.w) X.A (call (.ref f) us) (EP X pins σ Q) (XS fr X pins fun cls σ' H' => σ' = σ ∧ E cls none H') s := by
 have r2 : Vals (vs ++ dvs) (us ++ ds) := r.append hd
 have hl : (us ++ ds).length = ps.length := by rw [← r2.length]; exact F.len _ _ _ _ h
 refine wpAny_call (codeAny_mono (F.run X.A X.stack s H ⟨us, []⟩ (us ++ ds) (vs ++ dvs) Q E hr I.env0 (hb s us I.kIn hl) r2 h) fun r s' hq => ?_)
 cases r with
 | error e => exact I.cxr hex hq
 | ok fl =>
  cases fl with
  | ret u => exact I.after hq
  | next => exact False.elim hq
  | brk => exact False.elim hq
  | cont => exact False.elim hq
noncomputable def tCallX (sp : Sp) (dvs : List V) (t : TA) : TEX := fun σ H Q E => t σ H fun vs H1 => sp (vs ++ dvs) H1 Q E
theorem pex_call (F : FnOk X.prog X.w X.K X.mg X.base (CXr X.prog X.w) k f fd ps sp) (hr : Room k X.A) (hg : Gl X x) (hm : X.mg x = some (.ref f)) (hk : PySem.W.keepIn X.K (.ref f) = true) (hb : Binds X.K fd ps ds) (hd : Vals dvs ds)
  (ha : PA X (e :: es) t) (hex : X.ex = [] := by rfl) (hx : X.xe = (fun _ _ => False) := by rfl) (hdb : (x == ("__debug__" : Str)) = false := by decide) (he : starEach (e :: es) X.env = (false, eval e X.env) :: starEach es X.env := by rfl) (hpl : (backTo pos (starEach es X.env)).any (·.1) = false := by rfl) :
  PEX fr X (.Call (.Name x p) (e :: es) [] pos) (tCallX sp dvs t) := by
 intro pins s σ H Q E I h
 have h0 := ha pos pins s σ H _ I h
 rw [hx] at h0
 refine wpAny_Call_Name_kw (ld_glob I hg hm ?_ hdb)
 refine PySem.W.callWith_K (h₀ := X.base) I.ok.mod.kin hk (wpAny_mono h0 (fun us s1 zz27 => ?_) fun _ _ z => z.elim) he hpl
 obtain ⟨vs, H1, I1, r, q⟩ := zz27
 refine ⟨I1.kIn, ?_⟩
 exact run_fnX F hr hb hd hex I1 r q
noncomputable def tMethX (C : Addr) (m : Str) (sp : Sp) (dvs : List V) (ta : TE) (t : TA) : TEX := fun σ H Q E => ta σ H fun x H1 => ∃ a dx fs, x = .ref a ∧ H1 a = some (.ins C dx fs) ∧ fs.lookup m = none ∧
 t σ H1 fun vs H2 => sp (x :: (vs ++ dvs)) H2 Q E
theorem pex_meth {pl : Sem Bool} (he : PE X o ta) (c : Cls X.K C) (hm : Meth X.K C m f) (F : FnOk X.prog X.w X.K X.mg X.base (CXr X.prog X.w) k f fd ps sp) (hr : Room k X.A) (hb : Binds X.K fd ps ds) (hd : Vals dvs ds) (ha : PA X (e :: es) t)
  (hex : X.ex = [] := by rfl) (hx : X.xe = (fun _ _ => False) := by rfl) (hst : starEach (e :: es) X.env = (false, eval e X.env) :: starEach es X.env := by rfl) (hpl : (backTo pos (starEach es X.env)).any (·.1) = false := by rfl)
  (ht : eval (.Call (.Attribute o m apos) (e :: es) [] pos) X.env = (do
   let ov ← eval o X.env
   standAt apos.atName
   let (f, first) ← holding [ov] (getMethod ov m pl)
   callWith pos f first (backTo pos (starEach (e :: es) X.env)) (backToKw pos (keywordEach [] X.env))) := by rfl) :
  PEX fr X (.Call (.Attribute o m apos) (e :: es) [] pos) (tMethX C m sp dvs ta t) := by
 intro pins s σ H Q E I h
 have h0 := he pins s σ H _ I h
 rw [hx] at h0
 refine PySem.W.methodCall_KW (pl := pl) (wpAny_mono h0 (fun u s1 zz28 => ?_) fun _ _ z => z.elim) ht
 obtain ⟨x, H1, I1, rx, a, dx, fs, ex, ea, l, q⟩ := zz28
 subst ex
 obtain rfl : u = Value.ref a := rx
 refine getmeth_ok I1 ea c hm l ?_
 have h1 := ha pos pins s1 σ H1 _ I1 q
 rw [hx] at h1
 refine PySem.W.callWith_K (first := [.ref a]) (h₀ := X.base) I.ok.mod.kin hm.kp (wpAny_mono h1 (fun us s2 zz29 => ?_) fun _ _ z => z.elim) hst hpl
 obtain ⟨vs, H2, I2, r, q2⟩ := zz29
 refine ⟨I2.kIn, ?_⟩
 exact run_fnX (us := .ref a :: us) (vs := .ref a :: vs) F hr hb hd hex I2 (.cons rfl r) q2
end
end L2
set_option maxHeartbeats 4000000
namespace L2
open PySem PySem.Spec PyProof.Rows
theorem ObjOk.there {P : Program} {w : World} {H : Hp} {h : Heap} {a : Addr} : ∀ {o : HO}, ObjOk P w H h a o → ∃ ob, h.get? a = some ob
 | .lst _, x => by obtain ⟨_, _, _, _, e⟩ := x; exact ⟨_, e⟩
 | .tup _, x => by obtain ⟨_, _, _, ob, e, _⟩ := x; exact ⟨_, e⟩
 | .dK _, x => by obtain ⟨_, _, _, _, o, _, _, e, _⟩ := x; exact ⟨_, e⟩
 | .dT _, x => by obtain ⟨_, _, _, _, o, _, _, e, _⟩ := x; exact ⟨_, e⟩
 | .set _ _, x => by obtain ⟨o, _, _, _, e, _⟩ := x; exact ⟨_, e⟩
 | .ins _ _ _, x => by obtain ⟨_, _, _, e, _⟩ := x; exact ⟨_, e⟩
 | .own _, x => by obtain ⟨_, e⟩ := x; exact ⟨_, e⟩
 | .xd _, x => by obtain ⟨_, ⟨_, _, _, e, _⟩, _⟩ := x; exact ⟨_, e⟩
 | .rng _ _, x => by obtain ⟨_, _, _, e⟩ := x; exact ⟨_, e⟩
 | .frz _ _, x => by obtain ⟨e, _⟩ := x; exact ⟨_, e⟩
 | .tbl _, x => ⟨_, (show h.get? a = some _ from x)⟩
 | .met _ _, x => ⟨_, (show h.get? a = some _ from x)⟩
 | .ext _, x => by obtain ⟨_, ⟨_, e⟩, _⟩ := x; exact ⟨_, e⟩
section
variable {X : Cx} {pins : List (Addr × Obj)} {σ : St} {H : Hp} {s : Shared}
theorem Inv.untr (I : Inv X pins σ H s) {b : Addr} (hb : s.heap.get? b = none) : H b = none := by
 cases q : H b with
 | none => rfl
 | some o =>
  obtain ⟨ob, e⟩ := (I.hok b o q).there
  rw [hb] at e; cases e
theorem Inv.fxOk (I : Inv X pins σ H s) (hex : X.ex = []) {b : Addr} (hb : s.heap.get? b = none) : FxOk X pins H b := by
 refine ⟨I.untr hb, fun z => ?_, fun z => ?_, ?_, fun x c e z => ?_, fun p hp z => ?_⟩
 ·obtain ⟨m, ⟨o, _, _, ho, _⟩, _⟩ := I.loc
  rw [z, ho] at hb; cases hb
 ·obtain ⟨_, o, ho, _⟩ := I.funs.mem z
  rw [ho] at hb; cases hb
 ·cases q : X.s₀.heap.get? b with
  | none => rfl
  | some o =>
   obtain ⟨o', e'⟩ := I.base.there b o q (by rw [hex]; simp)
   rw [hb] at e'; cases e'
 ·obtain ⟨v, o, ho, _⟩ := I.cell x c e
  rw [z, hb] at ho; cases ho
 ·have := (I.pin p hp).1
  rw [z, hb] at this; cases this
end
structure ExcK (K : PySem.W.Frag) (C : Addr) (bmB : List Value) (newId : String) : Prop where
 q : PySem.W.excIn K C bmB newId = true
theorem exc_obj {K : PySem.W.Frag} {h : Heap} {C : Addr} {bmB : List Value} {newId : String} (X : K.In h) (q : PySem.W.excIn K C bmB newId = true) :
  ∃ bm N nm q bs hdct sn sub ab col dd k0 k1 k2 k3 k5 mN, h.get? C = some (excClassObj nm q C N bs bm hdct sn sub ab col dd k0 k1 k2 k3 k5 newId) ∧ h.Ns N mN ∧ mN "__init__" = none ∧ OwnTail h bmB bm := by
 unfold PySem.W.excIn at q
 split at q
 ·rename_i dd cd sl ho
  split at q
  ·rename_i C' bm k0 k1 k2 k3 n k5 hm hs
   simp only [Bool.and_eq_true, beq_iff_eq, Bool.not_eq_true'] at q
   obtain ⟨⟨⟨⟨⟨rfl, rfl⟩, hdel⟩, ht⟩, hok⟩, hni⟩ := q
   obtain ⟨nm, bs, mro, ns, qn, hd, sn, sub, ab, col, del⟩ := cd
   dsimp only at hm hdel hok hni
   subst hm hdel
   have hsl : sl = #[k0, k1, k2, k3, some (.builtin n), k5] := by
    obtain ⟨l⟩ := sl
    simp only at hs
    rw [hs]
   subst hsl
   exact ⟨bm, ns, nm, qn, bs, hd, sn, sub, ab, col, dd, k0, k1, k2, k3, k5, _, X _ _ ho, .of_isNs (PySem.W.isNs_of_in X hok), PySem.W.nsMap_none_of_in X hok hni, PySem.W.tail_of_in X ht⟩
  ·cases q
 ·cases q
section
variable {X : Cx}
noncomputable def tRaise (C : Addr) (t : TA) : TSX := fun _ R σ H => t σ H fun vs H1 => vs.length ≤ 1000 ∧ R (.ref C) σ H1
theorem psx_raise {C : Addr} {bmB : List Value} {B newId initId : String} {x : Str} {np cpos pos : Pos} {e : Expr} {es : List Expr} {t : TA} (K : ExcK X.K C bmB newId) (FB : ExcBaseFacts B newId initId bmB) (hg : Gl X x) (hm : X.mg x = some (.ref C)) (hc : X.calm = true) (ha : PA X (e :: es) t)
  (hex : X.ex = [] := by rfl) (hx : X.xe = (fun _ _ => False) := by rfl) (hdb : (x == ("__debug__" : Str)) = false := by decide) (he : starEach (e :: es) X.env = (false, eval e X.env) :: starEach es X.env := by rfl) (hpl : (backTo cpos (starEach es X.env)).any (·.1) = false := by rfl) :
  PSX true X (.Raise (some (.Call (.Name x np) (e :: es) [] cpos)) none pos) (tRaise C t) := by
 intro pins s σ H D R I h
 obtain ⟨tl, N, nm, q, bs, hdct, sn, sub, ab, col, dd, k0, k1, k2, k3, k5, mN, hC, hN, hni, T⟩ := exc_obj I.ok.mod.kin K.q
 refine wpAny_Raise_call_subT (C := C) (nm := nm) (q := q) (N := N) (bs := bs) (bm := tl) (hdct := hdct) (sn := sn) (sub := sub) (ab := ab) (col := col) (dd := dd) (k0 := k0) (k1 := k1) (k2 := k2) (k3 := k3) (k5 := k5)
  FB (mN := mN) (T.hasType FB.hasBase) (I.ok.hd hc) (by rw [he]; show (false || (backTo cpos (starEach es X.env)).any (·.1)) = false; rw [hpl]; rfl) hni (ld_glob I hg hm ⟨rfl, ?_⟩ hdb)
 have h0 := ha cpos pins s σ H _ I h
 rw [hx] at h0
 rw [he] at h0 ⊢
 refine Calls.evalArgs_plain (wpAny_mono h0 (fun us s₂ zz30 => ?_) fun _ _ z => z.elim)
 obtain ⟨vs, H1, I1, r1, hl, q1⟩ := zz30
 have kb := I1.bk
 refine ⟨rfl, ?_, kb _ _ hC, hN.keeps kb, T.keeps kb, fun h' ea hm' => ?_⟩
 ·rw [← r1.length]
  exact Nat.le_of_lt (small1000 hl)
 obtain ⟨tt, h1, h2, h3⟩ := hm'.there
 have I2 : Inv X pins σ H1 { s₂ with heap := h' } := I1.kept (t' := s₂.toks) hm'.keeps
 have fx := I1.fxOk hex hm'.new
 exact ⟨ea, none, .ref C, .ref tt, σ, H1, rfl, I2, ⟨_, _, h1, ⟨rfl, rfl⟩, rfl, rfl⟩, ⟨fx.nt, fx.nl, fx.nf, fx.n0, fx.nc, fx.np⟩, (fun t z => nomatch z), (fun _ => rfl), q1⟩
theorem Un.leave {fs : List Addr} {H₀ H : Hp} {h₀ h h' : Heap} (u : Un fs [] H₀ H h₀ h) (hk : ∀ b o, h₀.get? b = some o → b ∉ fs → h.get? b = some o → h'.get? b = some o)
  (hs : ∀ b o, b ∈ fs → h.get? b = some o → ∃ sl, h'.get? b = some { o with slots := sl }) (ht : ∀ b o, h₀.get? b = some o → ∀ o', h.get? b = some o' → ∃ o'', h'.get? b = some o'') : Un fs [] H₀ H h₀ h' where
 keep := fun b o e n hb hx => hk b o e hb (u.keep b o e n hb hx)
 slot := fun b o e n hb hx => by
  obtain ⟨sl, e1⟩ := u.slot b o e n hb hx
  obtain ⟨sl', e2⟩ := hs b _ hb e1
  exact ⟨sl', e2⟩
 free := u.free
 there := fun b o e hx => by
  obtain ⟨o', e1⟩ := u.there b o e hx
  exact ht b o e o' e1
 tups := u.tups
 frzs := u.frzs
 tbls := u.tbls
theorem funFrames_hide {X : Cx} {pins : List (Addr × Obj)} {σ : St} {H : Hp} {s : Shared} (I : Inv X pins σ H s) (as : List Addr) (hs : ∀ b ∈ frs X.stack, b ∈ as) : s.heap.FunFrames (PySem.W.hideAll s.heap as) X.stack := by
 have all : ∀ (l : List Env), (∀ b ∈ frs l, b ∈ as) → s.heap.FunFrames X.base l → s.heap.FunFrames (PySem.W.hideAll s.heap as) l := by
  intro l
  induction l with
  | nil => intro _ _; trivial
  | cons env r ih =>
   intro hs hl
   obtain ⟨hk, ⟨L, o, hf, hn, ho, hd⟩, hr⟩ := hl
   have hL : L ∈ as := hs L (by unfold frs; rw [List.filterMap_cons, hf]; exact List.mem_cons_self)
   exact ⟨hk, ⟨L, o, hf, PySem.W.hideAll_none as hL, ho, hd⟩, ih (fun b hb => hs b (by unfold frs; rw [List.filterMap_cons, hf]; exact List.mem_cons_of_mem _ hb)) hr⟩
 exact all X.stack hs I.stack
theorem Inv.fnd {X : Cx} {pins : List (Addr × Obj)} {σ : St} {H : Hp} {s : Shared} (I : Inv X pins σ H s) {b : Addr} (hb : b ∈ frs X.stack) {o : Obj} (e : s.heap.get? b = some o) : ∀ vs, o.data ≠ .fields vs := by
 obtain ⟨_, o', e', d⟩ := I.stack.mem hb
 rw [e] at e'; cases e'
 exact d
end
end L2
set_option maxHeartbeats 4000000
namespace L2
open PySem PySem.Spec PyProof.Rows
theorem FxOk.none {X : Cx} {pins : List (Addr × Obj)} {H : Hp} {b : Addr} (h : FxOk X pins H b) : FxOk X [] H b := ⟨h.nt, h.nl, h.nf, h.n0, h.nc, fun p hp => h.np p (by rw [List.append_nil] at hp; exact List.mem_append_left _ hp)⟩
section
variable {P : Program} {w : World} {K : PySem.W.Frag} {mg : Str → Option Value} {base : Heap}
theorem leave_ok {N : List Str} {qual : Str} {scope : Scope} {f : Addr} {cd : Value} {A : Around} {outer : List Env} {s s' : Shared} {H : Hp} {E : XK} {ev : Value}
  {fr : Bool} (h : XS fr (cxOf (CXr P w) P w K mg base N qual scope f cd A outer s H E).nox [] (fun cls _ H' => E cls none H') ev s') : (cxOf (CXr P w) P w K mg base N qual scope f cd A outer s H E).xe ev s' := by
 obtain ⟨e, T, cls, a0, σ', H', rfl, I, hx, fe, fT, _, q⟩ := h
 show wpAny (model P w) (A.deeper (envOfC qual scope s.heap.objs.size f cd)) (leaving (envOfC qual scope s.heap.objs.size f cd) (.ref e)) (fun _ s'' => CXr P w outer H s E (.ref e) s'') (fun e' s'' => CXr P w outer H s E e' s'') s'
 have hst : (cxOf (CXr P w) P w K mg base N qual scope f cd A outer s H E).nox.stack = envOfC qual scope s.heap.objs.size f cd :: outer := rfl
 have hfr : (A.deeper (envOfC qual scope s.heap.objs.size f cd)).frames = some (envOfC qual scope s.heap.objs.size f cd :: outer) := I.ok.frames
 have n0 : ∀ b, b ∈ e :: T.toList → s.heap.get? b = none := fun b hb => by
  rcases List.mem_cons.mp hb with z | z
  ·rw [z]; exact fe.n0
  ·cases T with
   | none => simp at z
   | some t =>
    have : b = t := by simpa using z
    rw [this]; exact (fT t rfl).n0
 have nt : ∀ b, b ∈ e :: T.toList → H' b = none := fun b hb => by
  rcases List.mem_cons.mp hb with z | z
  ·rw [z]; exact fe.nt
  ·cases T with
   | none => simp at z
   | some t =>
    have : b = t := by simpa using z
    rw [this]; exact (fT t rfl).nt
 have hB : ∀ b o, b ∉ e :: T.toList → b ∉ frs (envOfC qual scope s.heap.objs.size f cd :: outer) → s'.heap.get? b = some o → (PySem.W.hideAll s'.heap ((e :: T.toList) ++ frs (envOfC qual scope s.heap.objs.size f cd :: outer))).get? b = some o := fun b o h1 h2 e1 =>
  PySem.W.hideAll_get _ e1 fun z => (List.mem_append.mp z).elim h1 h2
 have hl : s'.heap.FunFrames (PySem.W.hideAll s'.heap ((e :: T.toList) ++ frs (envOfC qual scope s.heap.objs.size f cd :: outer))) (envOfC qual scope s.heap.objs.size f cd :: outer) := funFrames_hide I _ fun b hb => List.mem_append_right _ hb
 have hkb : (PySem.W.hideAll s'.heap ((e :: T.toList) ++ frs (envOfC qual scope s.heap.objs.size f cd :: outer))).StaysIn s'.heap := fun b o e1 => PySem.W.of_hideAll _ e1
 have hen : (PySem.W.hideAll s'.heap ((e :: T.toList) ++ frs (envOfC qual scope s.heap.objs.size f cd :: outer))).get? e = none := PySem.W.hideAll_none _ (List.mem_append_left _ List.mem_cons_self)
 have fin : ∀ h', Heap.LeftW (PySem.W.hideAll s'.heap ((e :: T.toList) ++ frs (envOfC qual scope s.heap.objs.size f cd :: outer))) (envOfC qual scope s.heap.objs.size f cd :: outer) e cls a0 s'.heap h' → CXr P w outer H s E (.ref e) { s' with heap := h' } := fun h' ⟨k1, k2, k3, k4⟩ => by
  obtain ⟨oe, vs, T', oT, ts, x1, x2, x3, x4, x5, x6, x7, x8, x9⟩ := k3
  have notfr : ∀ b o, b ∈ frs (envOfC qual scope s.heap.objs.size f cd :: outer) → s'.heap.get? b = some o → ∃ sl, h'.get? b = some { o with slots := sl } := fun b o hb e1 => k4 b o e1 (I.fnd hb e1)
  have kept : ∀ b o, b ∉ e :: T.toList → b ∉ frs (envOfC qual scope s.heap.objs.size f cd :: outer) → s'.heap.get? b = some o → h'.get? b = some o := fun b o h1 h2 e1 => k1 b o (hB b o h1 h2 e1)
  have nL : ∀ b o, s.heap.get? b = some o → b ∉ frs outer → b ∉ frs (envOfC qual scope s.heap.objs.size f cd :: outer) := fun b o e1 h2 z => by
   have z' : b ∈ s.heap.objs.size :: frs outer := z
   rcases List.mem_cons.mp z' with z1 | z1
   ·rw [z1] at e1; exact absurd (Heap.lt_size e1) (Nat.lt_irrefl _)
   ·exact h2 z1
  have nE : ∀ b o, s.heap.get? b = some o → b ∉ e :: T.toList := fun b o e1 z => by rw [n0 b z] at e1; cases e1
  have trk : ∀ b u, H' b = some u → ∀ o, s'.heap.get? b = some o → h'.get? b = some o := fun b u hu o e1 => by
   refine kept b o (fun z => by rw [nt b z] at hu; cases hu) (fun z => ?_) e1
   rw [I.stkFree b z] at hu; cases hu
  have hT' : s.heap.get? T' = none ∧ H' T' = none := by
   by_cases hz : s'.heap.get? T' = none
   ·refine ⟨?_, I.untr hz⟩
    cases q' : s.heap.get? T' with
    | none => rfl
    | some o =>
     obtain ⟨o', e'⟩ := I.base.there T' o q' (by simp [cxOf])
     rw [hz] at e'; cases e'
   ·obtain ⟨o, ho⟩ := Option.ne_none_iff_exists'.mp hz
    by_cases h1 : T' ∈ e :: T.toList
    ·exact ⟨n0 T' h1, nt T' h1⟩
    ·by_cases h2 : T' ∈ frs (envOfC qual scope s.heap.objs.size f cd :: outer)
     ·exfalso
      obtain ⟨sl, e'⟩ := notfr T' o h2 ho
      rw [x7] at e'
      cases e'
      exact I.fnd h2 ho ts x8
     ·rw [hB T' o h1 h2 ho] at x5; cases x5
  refine ⟨e, T', cls, a0, H', rfl, I.os, I.bare, ?_, fun b u hu => ?_, fe.n0, hT'.1, fe.nt, hT'.2, ⟨oe, vs, oT, ts, x1, x2, x3, x4, x6, x7, x8, x9⟩, q⟩
  ·refine Un.leave I.base (fun b o e1 h1 e2 => kept b o (nE b o e1) (nL b o e1 h1) e2) (fun b o hb e1 => notfr b o (List.mem_cons_of_mem _ hb) e1) fun b o e1 o' e2 => ?_
   by_cases h2 : b ∈ frs outer
   ·obtain ⟨sl, e'⟩ := notfr b o' (List.mem_cons_of_mem _ h2) e2
    exact ⟨_, e'⟩
   ·exact ⟨o', kept b o' (nE b o e1) (nL b o e1 h2) e2⟩
  ·refine (I.hok b u hu).stay (fun c v hc e1 => ?_) (fun _ z => z) fun _ _ z => z
   rcases hc with z | z
   ·exact trk c u (by rw [z]; exact hu) v e1
   ·exact trk c _ z v e1
 cases T with
 | none =>
  obtain ⟨oe, vs, x1, x2, x3, x4⟩ := hx
  obtain ⟨x21, x22⟩ := x2
  subst x21
  exact wpAny_leaving_firstW hfr hl rfl x1 hkb hen x3 x4 x22 fin
 | some t =>
  obtain ⟨oe, vs, oT, ts, x1, x2, x3, x4, x5, x6, x7, x8⟩ := hx
  exact wpAny_leaving_nextW hfr hl rfl ⟨oe, vs, t, oT, ts, x1, x2, x3, x4, PySem.W.hideAll_none _ (List.mem_append_left _ (by simp)), x5, x6, x7, x8⟩ hkb hen fin
theorem Fun.okX {x qual : Str} {st : Stmt} {f : Addr} {fd : FuncData} {N ps : List Str} {k : Nat} {sp : Sp} (F : Fun K x qual st f fd) (S : FnScope N ps (defScope st)) (len : ∀ vs H Q E, sp vs H Q E → vs.length = ps.length)
  (hbody : ∀ (cdv : Value) (A : Around) (outer : List Env) (s : Shared) (H : Hp) (vs : List V) (Q : VK) (E : XK), Room k (A.deeper (envOfC qual (defScope st) s.heap.objs.size f cdv)) → sp vs H Q E →
   ∃ t, PSsX true (cxOf (CXr P w) P w K mg base N qual (defScope st) f cdv A outer s H E).nox (defBody st) t ∧ t { nx := fun _ H' => Q .non H', rt := Q } (fun cls _ H' => E cls none H') (start N vs) H) : FnOk P w K mg base (CXr P w) (k + 1) f fd ps sp := by
 obtain ⟨oc, od, kV, doc, pm, an, cdv, ct, osl, rfl, lk, hcd⟩ := F.ex
 refine fn_of lk hcd S len fun A outer s H vs Q E hr hsp => ?_
 obtain ⟨t, h, q⟩ := hbody cdv A outer s H vs Q E hr hsp
 refine ⟨fun D σ H' => t D (fun cls _ H'' => E cls none H'') σ H', fun pins s' σ' H' D I hD => ?_, q⟩
 refine wpAny_mono (h pins s' σ' H' D _ (I.wish _) hD) (fun _ _ z => z.unwish) fun ev s'' z => leave_ok (fr := true) ?_
 obtain ⟨e, T, cls, a0, σ2, H2, h1, h2, h3, h4, h5, h7, h6⟩ := z
 exact ⟨e, T, cls, a0, σ2, H2, h1, h2.pins_of (fun p hp => absurd hp (by simp)), h3, h4.none, fun t ht => (h5 t ht).none, h7, h6⟩
end
end L2
set_option maxHeartbeats 4000000
namespace L2
open PySem PySem.Spec PyProof.Rows
section
variable {X : Cx}
theorem Inv.exc {pins : List (Addr × Obj)} {σ : St} {H : Hp} {s : Shared} {e T : Addr} {h' : Heap} (I : Inv X pins σ H s) (hex : X.ex = []) (fe : FxOk X pins H e) (fT : FxOk X pins H T)
  (keep : ∀ b o, b ≠ e → b ≠ T → b ∉ frs X.stack → s.heap.get? b = some o → h'.get? b = some o) (slot : ∀ b o, b ∈ frs X.stack → s.heap.get? b = some o → ∃ sl, h'.get? b = some { o with slots := sl }) : Inv X pins σ H { s with heap := h' } := by
 have fss : ∀ b ∈ X.fs, b ∈ frs X.stack := fun b hb => by
  rcases I.ok.stk with z | ⟨z, hf⟩
  ·rw [z]; exact hb
  ·rw [z]; unfold frs; rw [List.filterMap_cons, hf]; exact List.mem_cons_of_mem _ hb
 have data : ∀ b o, b ≠ e → b ≠ T → s.heap.get? b = some o → ∃ sl, h'.get? b = some { o with slots := sl } := fun b o h1 h2 e1 => by
  by_cases hb : b ∈ frs X.stack
  ·exact slot b o hb e1
  ·exact ⟨o.slots, keep b o h1 h2 hb e1⟩
 have ne0 : ∀ b o, X.s₀.heap.get? b = some o → b ≠ e ∧ b ≠ T := fun b o e1 => ⟨fun z => (by rw [z, fe.n0] at e1; cases e1), fun z => (by rw [z, fT.n0] at e1; cases e1)⟩
 have cellK : ∀ x c, X.env.cells.lookup x = some c → ∀ v, s.heap.IsCell c v → h'.IsCell c v := fun x c ec v ⟨o, ho, hd⟩ => by
  obtain ⟨sl, e1⟩ := data c o (fe.nc x c ec) (fT.nc x c ec) ho
  exact ⟨_, e1, hd⟩
 refine ⟨I.ok, I.os, I.bare, ⟨fun b o e0 n hb hx => ?_, fun b o e0 n hb hx => ?_, I.base.free, fun b o e0 hx => ?_, I.base.tups, I.base.frzs, I.base.tbls⟩, ?_, fun x c ec => ?_, I.free, I.freeC, fun p hp => ?_, fun b u hu => ?_, I.len⟩
 ·obtain ⟨n1, n2⟩ := ne0 b o e0
  refine keep b o n1 n2 (fun z => ?_) (I.base.keep b o e0 n hb hx)
  rcases List.mem_cons.mp (I.stkSub b z) with z1 | z1
  ·rw [z1] at e0; exact absurd (Nat.lt_of_lt_of_le (Heap.lt_size e0) I.ok.above) (Nat.lt_irrefl _)
  ·exact hb z1
 ·obtain ⟨sl, e1⟩ := I.base.slot b o e0 n hb hx
  obtain ⟨sl', e2⟩ := slot b _ (fss b hb) e1
  exact ⟨sl', e2⟩
 ·obtain ⟨n1, n2⟩ := ne0 b o e0
  obtain ⟨o', e1⟩ := I.base.there b o e0 hx
  obtain ⟨sl, e2⟩ := data b o' n1 n2 e1
  exact ⟨_, e2⟩
 ·obtain ⟨m, hn, hl⟩ := I.loc
  refine ⟨m, ?_, fun i x v e1 e2 e3 => ?_⟩
  ·obtain ⟨o, es, ep, ho, hd, r⟩ := hn
   obtain ⟨sl, e1⟩ := data _ o (Ne.symm fe.nl) (Ne.symm fT.nl) ho
   exact ⟨_, es, ep, e1, hd, r⟩
  ·obtain ⟨u, r, l⟩ := hl i x v e1 e2 e3
   refine ⟨u, r, ?_⟩
   rcases l with l | ⟨k, c, ec, z⟩
   ·exact .inl l
   ·exact .inr ⟨k, c, ec, cellK x c ec _ z⟩
 ·obtain ⟨v, z⟩ := I.cell x c ec
  exact ⟨v, cellK x c ec v z⟩
 ·obtain ⟨e1, n, ne, nf, d⟩ := I.pin p hp
  refine ⟨keep p.1 p.2 (fe.np p hp) (fT.np p hp) (fun z => ?_) e1, n, ne, nf, d⟩
  rcases List.mem_cons.mp (I.stkSub p.1 z) with z1 | z1
  ·exact ne z1
  ·exact nf z1
 ·have trk : ∀ b u, H b = some u → ∀ o, s.heap.get? b = some o → h'.get? b = some o := fun b u hu o e1 => by
   refine keep b o (fun z => by rw [z, fe.nt] at hu; cases hu) (fun z => by rw [z, fT.nt] at hu; cases hu) (fun z => ?_) e1
   rw [I.stkFree b z] at hu; cases hu
  refine (I.hok b u hu).stay (fun c v hc e1 => ?_) (fun _ z => z) fun _ _ z => z
  rcases hc with z | z
  ·exact trk c u (by rw [z]; exact hu) v e1
  ·exact trk c _ z v e1
noncomputable def hndCx (X : Cx) (e : Addr) : Cx := { X with A := X.A.mark (some (.ref e)), calm := false }
theorem Inv.hnd {pins : List (Addr × Obj)} {σ : St} {H : Hp} {s : Shared} (I : Inv X pins σ H s) (e : Addr) : Inv (hndCx X e) pins σ H s :=
 ⟨⟨I.ok.mod, I.ok.kind, I.ok.glob, I.ok.blt, I.ok.above, I.ok.inj, I.ok.has, I.ok.cab, fun h => absurd (show false = true from h) Bool.false_ne_true, I.ok.frames, I.ok.stk, I.ok.exf, I.ok.bs, I.ok.bsz, I.ok.noex, I.ok.exfs, I.ok.funs, I.ok.frf⟩,
  I.os, I.bare, I.base, I.loc, I.cell, I.free, I.freeC, I.pin, I.hok, I.len⟩
theorem Inv.unhnd {pins : List (Addr × Obj)} {σ : St} {H : Hp} {s : Shared} {e : Addr} (I : Inv (hndCx X e) pins σ H s) (ok : X.Ok) : Inv X pins σ H s :=
 ⟨ok, I.os, I.bare, I.base, I.loc, I.cell, I.free, I.freeC, I.pin, I.hok, I.len⟩
theorem SP.unhnd {pins : List (Addr × Obj)} {D : Ends} {f : Flow} {s' : Shared} {e : Addr} (h : SP (hndCx X e) pins D f s') (ok : X.Ok) : SP X pins D f s' := by
 cases f with
 | next => obtain ⟨σ', H', I, q⟩ := h; exact ⟨σ', H', I.unhnd ok, q⟩
 | brk => obtain ⟨σ', H', I, q⟩ := h; exact ⟨σ', H', I.unhnd ok, q⟩
 | cont => obtain ⟨σ', H', I, q⟩ := h; exact ⟨σ', H', I.unhnd ok, q⟩
 | ret u => obtain ⟨v, σ', H', I, r, q⟩ := h; exact ⟨v, σ', H', I.unhnd ok, r, q⟩
theorem fly_of {pins : List (Addr × Obj)} {σ : St} {H : Hp} {s : Shared} {e T : Addr} {cls a0 : Value} (I : Inv X pins σ H s) (hx : FlyT e T cls a0 s.heap) :
  Heap.FlyingW (PySem.W.hideAll s.heap (e :: T :: frs X.stack)) X.stack e cls a0 s.heap := by
 obtain ⟨oe, vs, oT, ts, x1, x2, x3, x4, x5, x6, x7, x8⟩ := hx
 exact ⟨fun b o e1 => PySem.W.of_hideAll _ e1, PySem.W.hideAll_none _ (by simp), funFrames_hide I _ fun b hb => by simp [hb], oe, vs, T, oT, ts, x1, x2, x3, x4, PySem.W.hideAll_none _ (by simp), x5, x6, x7, x8⟩
theorem Inv.flown {pins : List (Addr × Obj)} {σ : St} {H : Hp} {s : Shared} {e T : Addr} {h' : Heap} (I : Inv X pins σ H s) (hex : X.ex = []) (fe : FxOk X pins H e) (fT : FxOk X pins H T)
  (hst : (PySem.W.hideAll s.heap (e :: T :: frs X.stack)).StaysIn h') (hup : s.heap.UpToSlots h') : Inv X pins σ H { s with heap := h' } := by
 refine I.exc hex fe fT (fun b o h1 h2 h3 e1 => hst b o (PySem.W.hideAll_get _ e1 fun z => ?_)) fun b o hb e1 => hup b o e1 (I.fnd hb e1)
 rcases List.mem_cons.mp z with z | z
 ·exact h1 z
 ·rcases List.mem_cons.mp z with z | z
  ·exact h2 z
  ·exact h3 z
end
end L2
set_option maxHeartbeats 4000000
namespace L2
open PySem PySem.Spec PyProof.Rows
section
variable {X : Cx} {pins : List (Addr × Obj)} {σ : St} {H : Hp} {s : Shared} {A : Around} {E : Value → Shared → Prop} {a : Addr}
theorem d_setd {kvs : List (Key × V)} {k : Key} {d : V} {u r : Value} {Q : Value → Shared → Prop} (I : Inv X pins σ H s) (e : H a = some (.dK kvs)) (hl : kvs.length < sizeLine) (ry : RelV (kV k) u) (rd : RelV d r)
  (h1 : ∀ v w' s', valV kvs k = some v → Inv X pins σ H s' → RelV v w' → Q w' s') (h2 : valV kvs k = none → ∀ s', Inv X pins σ (upd H a (.dK (putK kvs k d))) s' → Q r s') :
  wpAny (model X.prog X.w) A (call (.builtin "dict.setdefault") [.ref a, u, r]) Q E s := by
 obtain ⟨z, hd, vs, rel, dd⟩ := dk_of I.hok e
 have hz : vs.length ≤ sizeLine := by rw [← rel.length]; exact z
 refine call_meetsIn PySem.F.slot_dict_setdefault dd.typeIs PySem.F.entry_dict_setdefault (PySem.F.args_dict_setdefault_3 _ _ _) (kt_meets_setdefault (mixKind X.prog X.w) a (kV_is ry) hd r) ⟨vs, dd, hz, fun v hv => ?_, fun hv h' dd' hs => ?_⟩
 ·have rel' := rel.val k
  rw [hv] at rel'
  cases q : valV kvs k with
  | none => rw [q] at rel'; exact rel'.elim
  | some y => rw [q] at rel'; exact h1 y v _ q (I.tok _) rel'
 ·have rel' := rel.val k
  rw [hv] at rel'
  cases q : valV kvs k with
  | some y => rw [q] at rel'; exact rel'.elim
  | none =>
   have he : ∃ q, h'.get? a = some q := let ⟨q, _, _, hq, _⟩ := dd'; ⟨q, hq⟩
   have hl2 : (putK kvs k d).length ≤ sizeLine := by have := length_putK kvs k d; omega
   exact h2 q _ (d_write I (by rw [e]; exact True.intro) hs he (dk_new hl2 hd (rel.put k rd) dd'))
end
noncomputable def tDSetd (td ty tx : TE) : TE := fun σ H Q => td σ H fun x H1 => ∃ a, x = .ref a ∧ IsD H1 a ∧ ty σ H1 fun y H2 => tx σ H2 fun z H3 => ∃ kvs k, H3 a = some (.dK kvs) ∧ kvs.length < sizeLine ∧ y = kV k ∧
 (∀ v, valV kvs k = some v → Q v H3) ∧ (valV kvs k = none → Q z (upd H3 a (.dK (putK kvs k z))))
section
variable {X : Cx} {o e f : Expr} {apos cpos : Pos} {td ty tx : TE}
theorem pe_dsetd (ho : PE X o td) (he : PE X e ty) (hf : PE X f tx) (m : M2 X o "setdefault" apos e f cpos) : PE X (.Call (.Attribute o "setdefault" apos) [e, f] [] cpos) (tDSetd td ty tx) := by
 intro pins s σ H Q I h
 refine wpAny_Call_method m.base m.few m.line PySem.F.plainAttrs_dict PySem.F.slot_dict_setdefault PySem.F.type_dict_setdefault (thn (ho pins s σ H _ I h) fun u s1 zz9 => ?_)
 obtain ⟨x, H1, I1, rx, a, ex, d, q1⟩ := zz9
 subst ex
 obtain rfl : u = Value.ref a := rx
 obtain ⟨t1, t2, _⟩ := isD_at I1 d
 refine ⟨t1, t2, ?_⟩
 rw [m.trees]
 refine Calls.callWith_builtin rfl (Calls.evalArgs_plain (Calls.spliced_cons (thn (he pins s1 σ H1 _ I1 q1) fun iv s2 ⟨y, H2, I2, ry, q2⟩ =>
  Calls.spliced_cons (thn (hf pins s2 σ H2 _ I2 q2) fun fv s3 ⟨z, H3, I3, rz, kvs, k, hk, hl, ey, q3, q4⟩ => Calls.spliced_nil ?_))))
 subst ey
 exact d_setd I3 hk hl ry rz (fun v w' s' hv I' rw' => ⟨v, H3, I', rw', q3 v hv⟩) fun hv s' I' => ⟨z, _, I', rz, q4 hv⟩
theorem ints_of_keys {P : Program} {w : World} {kvs : List (Key × V)} {vs : List (Key × Value)} {ks : List Int} (rel : KV kvs vs) (hk : kvs.map (·.1) = ks.map Sum.inl) {us : List Value} (hl : us.length = vs.length)
  (hu : ∀ (j : Nat) (v : Value), us[j]? = some v → ∃ k x, vs[j]? = some (k, x) ∧ (mixKind P w).is k v = true) : IntsAre us ks := by
 have hkl : kvs.length = ks.length := by have := congrArg List.length hk; simpa using this
 have hvl : kvs.length = vs.length := rel.length
 have key : ∀ (j : Nat) (v : Value), us[j]? = some v → ∃ i t, ks[j]? = some i ∧ v = Value.int i t := fun j v hv => by
  obtain ⟨k, x, hx, hi⟩ := hu j v hv
  have e1 : (vs.map (·.1))[j]? = some k := by rw [List.getElem?_map, hx]; rfl
  have e2 : vs.map (·.1) = kvs.map (·.1) := by
   clear hk hl hu hkl hvl hx hi e1
   induction rel with
   | nil => rfl
   | cons r t ih => rw [List.map_cons, List.map_cons, ih, r.1]
  rw [e2, hk, List.getElem?_map] at e1
  cases q : ks[j]? with
  | none => rw [q] at e1; cases e1
  | some i =>
   rw [q] at e1
   have e3 : Sum.inl i = k := Option.some.inj e1
   subst e3
   obtain ⟨t, ht⟩ := Value.isInt_shape (k := i) (v := v) hi
   exact ⟨i, t, rfl, ht⟩
 have gen : ∀ (us : List Value) (ks : List Int), us.length = ks.length → (∀ (j : Nat) (v : Value), us[j]? = some v → ∃ i t, ks[j]? = some i ∧ v = Value.int i t) → IntsAre us ks := by
  intro us
  induction us with
  | nil =>
   intro ks hl _
   cases ks with
   | nil => exact .nil
   | cons _ _ => simp at hl
  | cons u r ih =>
   intro ks hl h
   cases ks with
   | nil => simp at hl
   | cons i ks =>
    obtain ⟨i', t, e1, e2⟩ := h 0 u rfl
    have e1' : i = i' := by simpa using e1
    subst e1' e2
    exact .cons i t (ih ks (by simpa using hl) fun j v hv => h (j + 1) v (by simpa using hv))
 exact gen us ks (by omega) key
theorem call_sortedD (hc : X.calm = true) : CallR X (.builtin "sorted") (fun xs H Q => ∃ (d : Addr) (kvs : List (Key × V)) (ks : List Int), xs = [.ref d] ∧ Rd H d (.dK kvs) ∧ kvs.map (·.1) = ks.map Sum.inl ∧ ks.length < 64 ∧
  ∀ (p : Addr) (out : List Int), H p = none → out.Perm ks → out.Pairwise (· ≤ ·) → Q (.ref p) (upd H p (.lst (out.map V.int)))) := by
 intro pins s σ H xs us Q I r h
 obtain ⟨d, kvs, ks, rfl, hd, hk, h64, q⟩ := h
 obtain ⟨u, rfl, ru⟩ := vals1 r
 obtain rfl : u = Value.ref d := ru
 obtain ⟨z, hsys, vs, rel, dd⟩ := dk_rd I.hok hd
 obtain ⟨ep, hat⟩ := dd.dictAt
 have hlen : vs.length = ks.length := by have := congrArg List.length hk; rw [List.length_map, List.length_map] at this; have := rel.length; omega
 have hn : vs.length ≤ sizeLine := by rw [sizeLine_eq]; omega
 refine Calls.call_function_entry kind_sorted plain_sorted entry_sorted (args_sorted1 _) ?_
 unfold Builtin.«sorted»
 refine wpAny_bind (m := checkCount "sorted" 1 1 _) (wpAny_pure ?_)
 refine wpAny_bind (PySem.W.kdu_collect (A := X.A.in1) (PySem.W.kdl_dict (knd := mixKind X.prog X.w) (kvs := vs) (ep := ep) hsys) (I.ok.hd hc) hat hn fun h' tk acc hk' hacc => ?_)
 have hl : acc.toList.length = vs.length := by rw [Array.length_toList]; exact hacc.1
 have hI : IntsAre acc.toList ks := ints_of_keys (P := X.prog) (w := X.w) rel hk hl fun j v hv => hacc.2 j v (by rw [← Array.getElem?_toList]; exact hv)
 refine wpAny_bind (wpAny_newList ?_ (by rw [hl]; exact hn))
 have I1 : Inv X pins σ H { s with heap := h', toks := tk } := I.kept hk'
 have hoL : (h'.push { cls := .type "list", data := .seq acc.toList.toArray }).get? h'.objs.size = some (seqObj "list" acc.toList.toArray 0) := Heap.get?_push_size _ rfl
 refine wpAny_bind (wpAny_holding (wpAny_call_entry slot_list_sort ⟨_, hoL, rfl⟩ entry_list_sort (list_sort_tree hoL hI (by omega) fun out ns' a1 a2 a3 => ⟨_, rfl, ?_⟩) (args_list_sort _)))
 refine wpAny_pure ⟨_, rfl, ?_⟩
 obtain ⟨e, he⟩ := sortedHeap_at (out := out) hoL
 have kp : ∀ b u, h'.get? b = some u → (sortedHeap (h'.push { cls := .type "list", data := .seq acc.toList.toArray }) h'.objs.size acc.toList out).get? b = some u := fun b u hb => by
  have hlt : b < h'.objs.size := Heap.lt_size hb
  rw [sortedHeap_old (Nat.ne_of_lt hlt) (by rw [Heap.size_push]; exact Nat.lt_succ_of_lt hlt)]
  exact Heap.get?_push_of_some _ hb
 have hv : Vals (ns'.map V.int) out.toList := by
  clear he kp
  generalize out.toList = l at a1
  clear a2 a3
  induction a1 with
  | nil => exact .nil
  | cons i t _ ih => exact .cons ⟨_, rfl⟩ ih
 refine ⟨.ref h'.objs.size, upd H h'.objs.size (.lst (ns'.map V.int)), I1.laid kp (Nat.le_refl _) ?_, rfl, q _ ns' I1.fresh a2 a3⟩
 refine ⟨?_, out.toList, e, hv, ?_⟩
 ·rw [List.length_map, a2.length_eq, sizeLine_eq]; omega
 ·rw [he]
end
end L2
set_option maxHeartbeats 4000000
namespace L2
open PySem PySem.Spec PyProof.Rows
section
variable {X : Cx} {pins : List (Addr × Obj)} {σ : St} {H : Hp} {s : Shared} {a : Addr}
theorem Inv.freeze {u : HO} {ob : Obj} (I : Inv X pins σ H s) (e : H a = some u) (mu : Mut (some u)) (ho : s.heap.get? a = some ob) : Inv X pins σ (upd H a (.frz ob u)) s := by
 have nown : ∀ c y, H c = some (.own y) → c ≠ a := fun c y r z => by subst z; rw [r] at e; cases e; exact mu
 have ntup : ∀ c xs, H c = some (.tup xs) → c ≠ a := fun c xs r z => by subst z; rw [r] at e; cases e; exact mu
 have nfrz : ∀ c o xs, H c = some (.frz o xs) → c ≠ a := fun c o xs r z => by subst z; rw [r] at e; cases e; exact mu
 have ntbl : ∀ c ps, H c = some (.tbl ps) → c ≠ a := fun c ps r z => by subst z; rw [r] at e; cases e; exact mu
 have un : Un X.fs [] H (upd H a (.frz ob u)) s.heap s.heap := ⟨fun _ _ q _ _ _ => q, fun _ o q _ _ _ => ⟨o.slots, q⟩, fun b o q n _ => by rw [upd_ne (fun z => by rw [z, e] at n; cases n)]; exact n, fun b o q _ => ⟨o, q⟩,
  fun b xs q => by rw [upd_ne (ntup b xs q)]; exact q, fun b o xs q => by rw [upd_ne (nfrz b o xs q)]; exact q, fun b ps q => ⟨#[], by rw [upd_ne (ntbl b ps q), q]; simp⟩⟩
 have hok : HOk X.prog X.w (upd H a (.frz ob u)) s.heap := fun b v q => by
  have st : ∀ c w', ObjOk X.prog X.w H s.heap c w' → ObjOk X.prog X.w (upd H a (.frz ob u)) s.heap c w' := fun c w' x => x.stay (fun _ _ _ q => q) (fun d r => by rw [upd_ne (nown d c r)]; exact r) fun d xs r => by rw [upd_ne (ntup d xs r)]; exact r
  by_cases hb : b = a
  ·subst hb
   rw [upd_same] at q
   cases q
   exact ⟨ho, st _ _ (I.hok _ _ e)⟩
  ·rw [upd_ne hb] at q
   exact st _ _ (I.hok b v q)
 exact I.un (h' := s.heap) (t' := s.toks) un hok
end
section
theorem KV.at {kvs : List (Key × V)} {vs : List (Key × Value)} (r : KV kvs vs) : ∀ {i : Nat} {k : Key} {v : V}, kvs[i]? = some (k, v) → ∃ u, vs[i]? = some (k, u) ∧ RelV v u := by
 induction r with
 | nil => intro i k v h; simp at h
 | cons r t ih =>
  intro i k v h
  cases i with
  | zero =>
   simp at h
   subst h
   exact ⟨_, by rw [List.getElem?_cons_zero]; exact congrArg some (Prod.ext r.1.symm rfl), r.2⟩
  | succ i =>
   obtain ⟨u, h1, h2⟩ := ih (by simpa using h)
   exact ⟨u, by simpa using h1, h2⟩
theorem kV_of {P : Program} {w : World} {k : Key} {u : Value} (h : (mixKind P w).is k u = true) : RelV (kV k) u := by
 cases k with
 | inl i => obtain ⟨t, e⟩ := Value.isInt_shape (k := i) (v := u) h; exact ⟨t, e⟩
 | inr x => obtain ⟨t, e⟩ := Value.isStrOf_shape (x := x) (v := u) h; exact ⟨t, e⟩
theorem frz_dict {X : Cx} {pins : List (Addr × Obj)} {σ : St} {H : Hp} {s : Shared} {d : Addr} {o : Obj} {kvs : List (Key × V)} (I : Inv X pins σ H s) (e : H d = some (.frz o (.dK kvs))) :
  ∃ vs ep, KV kvs vs ∧ s.heap.DictAt (mixKind X.prog X.w) d vs ep ∧ s.heap.get? d = some o := by
 obtain ⟨ho, _, _, vs, rel, dd⟩ := I.hok d _ e
 obtain ⟨ep, da⟩ := dd.dictAt
 exact ⟨vs, ep, rel, da, ho⟩
noncomputable def epOf (o : Obj) : Nat := match o.data with
 | .dict _ ep => ep
 | _ => 0
theorem ep_of {P : Program} {w : World} {h : Heap} {d : Addr} {o : Obj} {vs : List (Key × Value)} {ep : Nat} (da : h.DictAt (mixKind P w) d vs ep) (ho : h.get? d = some o) : ep = epOf o := by
 obtain ⟨o', es, h1, _, h2, _⟩ := da
 rw [ho] at h1
 cases h1
 unfold epOf
 rw [h2]
theorem turn_vals {P : Program} {w : World} {K : PySem.W.Frag} {tg : Expr} (d it : Addr) (kvs : List (Key × V)) (o : Obj) :
  Turn P w K tg ⟨fun i H => i < kvs.length ∧ H d = some (.frz o (.dK kvs)), fun i H x H' => H' = H ∧ ∃ k, kvs[i]? = some (k, x), fun i H => kvs.length ≤ i ∧ H d = some (.frz o (.dK kvs))⟩ [it] it (fun i h => h.IsValIter it d i kvs.length (epOf o)) where
 mem := by simp
 obj := fun i h st b hb => by
  have e : b = it := by simpa using hb
  subst e
  obtain ⟨o, e, c, d⟩ := st
  exact ⟨o, e, fun v z => by rw [d] at z; cases z⟩
 keep := fun i h h' st k => st.at fun o e => k it (by simp) o e
 item := by
  intro X hP hw hK hc i pins s σ H E I hf st hg
  subst hP hw hK
  obtain ⟨hi, hq⟩ := hg
  obtain ⟨vs, ep, rel, da, ho⟩ := frz_dict I hq
  have hep := ep_of da ho
  subst hep
  obtain ⟨f0, f1, f2, f3, f4, f5⟩ := hf it (by simp)
  obtain ⟨⟨k, v⟩, hx⟩ : ∃ p, kvs[i]? = some p := ⟨_, List.getElem?_eq_getElem hi⟩
  obtain ⟨u, hu, ru⟩ := rel.at hx
  have hlen : vs.length = kvs.length := rel.length.symm
  rw [← hlen] at st
  refine wpAny_pyNext_values_item st da hu fun h' st' sb => ?_
  have I1 : Inv X pins σ H { s with heap := h' } := I.turned (t' := s.toks) (fun b o hb e => (sb.2 b hb).trans e) f0 f1 f3 f4 f5
  rw [hlen] at st'
  obtain ⟨oi, e, c, dd⟩ := id st'
  exact ⟨u, rfl, go_of (s := { s with heap := h' }) e c dd (by decide) ⟨v, H, I1, ru, ⟨rfl, k, hx⟩, st', fun b hb => (hf b hb).1⟩⟩
 done := by
  intro X hP hw hK hc i pins s σ H E I hf st hg
  subst hP hw hK
  obtain ⟨hi, hq⟩ := hg
  obtain ⟨vs, ep, rel, da, ho⟩ := frz_dict I hq
  have hep := ep_of da ho
  subst hep
  obtain ⟨f0, f1, f2, f3, f4, f5⟩ := hf it (by simp)
  have hlen : vs.length = kvs.length := rel.length.symm
  rw [← hlen] at st
  exact wpAny_pyNext_values_end (I.ok.hd hc) st da (by rw [List.getElem?_eq_none]; omega) fun h' eb => ⟨rfl, I.turned (t' := s.toks) (fun b o hb e => eb b o hb e) f0 f1 f3 f4 f5⟩
 self := fun _ _ _ _ _ st h => wpAny_pyIter_valiter st h
end
end L2
set_option maxHeartbeats 4000000
namespace L2
open PySem PySem.Spec PyProof.Rows
section
variable {X : Cx} {tg : Expr} {l : Expr} {tl : TE}
noncomputable def Itv2 (d : Addr) (kvs : List (Key × V)) (o : Obj) : It := ⟨fun i H => i < kvs.length ∧ H d = some (.frz o (.dK kvs)), fun i H x H' => H' = H ∧ ∃ k, kvs[i]? = some (k, x), fun i H => kvs.length ≤ i ∧ H d = some (.frz o (.dK kvs))⟩
noncomputable def iDict (J : Addr → List (Key × V) → Obj → It) (tl : TE) : TI := fun σ H R => tl σ H fun x H1 => ∃ a kvs, x = .ref a ∧ ((H1 a = some (.dK kvs) ∧ ∀ o, R (J a kvs o) (upd H1 a (.frz o (.dK kvs)))) ∨ ∃ o, H1 a = some (.frz o (.dK kvs)) ∧ R (J a kvs o) H1)
theorem dict_frz {pins : List (Addr × Obj)} {σ : St} {H : Hp} {s : Shared} {a : Addr} {kvs : List (Key × V)} {R : Obj → Hp → Prop} (I : Inv X pins σ H s)
  (h : (H a = some (.dK kvs) ∧ ∀ o, R o (upd H a (.frz o (.dK kvs)))) ∨ ∃ o, H a = some (.frz o (.dK kvs)) ∧ R o H) : ∃ o H', H' a = some (.frz o (.dK kvs)) ∧ Inv X pins σ H' s ∧ R o H' := by
 rcases h with ⟨e, r⟩ | ⟨o, e, r⟩
 ·obtain ⟨ob, ho⟩ := (I.hok a _ e).there
  exact ⟨ob, _, upd_same, I.freeze e True.intro ho, r ob⟩
 ·exact ⟨o, H, e, I, r⟩
structure M0 (X : Cx) (o : Expr) (m : Str) (apos cpos : Pos) : Prop where
 base : attributeBase o m X.env (eval o X.env) = eval o X.env
 few : ((backTo cpos (starEach [] X.env)).all (fun x => !x.1) && (backToKw cpos (keywordEach [] X.env)).all (fun x => x.1.isSome)
  && decide (([] : List Expr).length + ([] : List Keyword).length + (if ([] : List Keyword).isEmpty then 0 else 1) < 30)) = true
 line : (apos.endLine == cpos.line) = true
theorem pi_vals {apos cpos : Pos} (hl : PE X l tl) (m : M0 X l "values" apos cpos) : PI X tg (.Call (.Attribute l "values" apos) [] [] cpos) (iDict Itv2 tl) := by
 intro pins s σ H R I h
 refine wpAny_Call_method m.base m.few m.line PySem.F.plainAttrs_dict PySem.F.slot_dict_values PySem.F.type_dict_values (thn (hl pins s σ H _ I h) fun v s1 zz9 => ?_)
 obtain ⟨x, H1, I1, r1, q1⟩ := zz9
 obtain ⟨a, kvs, e, q⟩ := q1
 subst e
 cases r1
 obtain ⟨o, H2, e2, I2, q2⟩ := dict_frz (R := fun o H => R (Itv2 a kvs o) H) I1 q
 obtain ⟨vs, ep, rel, da, ho⟩ := frz_dict I2 e2
 have hep := ep_of da ho
 subst hep
 obtain ⟨_, _, hsys, _⟩ := I2.hok a _ e2
 have isd : IsD H2 a := .inl ⟨kvs, .inr ⟨o, e2⟩⟩
 obtain ⟨t1, t2, _⟩ := isD_at I2 isd
 refine ⟨t1, t2, ?_⟩
 refine Calls.callWith_builtin rfl (PyProof.Rows.evalArgs_empty ?_)
 refine call_meetsIn PySem.F.slot_dict_values da.dictOf.typeIs PySem.F.entry_dict_values (PySem.F.args_dict_values_1 _) (meets_dict_values (mixKind X.prog X.w) a hsys) ⟨⟨vs, da.dictOf⟩, ?_⟩
 have I3 : Inv X pins σ H2 { s1 with heap := s1.heap.push { cls := .type "dict_values", data := .fields #[.ref a] } } := I2.kept (t' := s1.toks) fun b o e => Heap.get?_push_of_some _ e
 refine wpAny_pyIter_values ⟨_, Heap.get?_push_size _ rfl, rfl, rfl⟩ (da.push _) ?_
 have hlen : vs.length = kvs.length := rel.length.symm
 rw [hlen]
 refine ⟨(s1.heap.push { cls := .type "dict_values", data := .fields #[.ref a] }).objs.size, [(s1.heap.push { cls := .type "dict_values", data := .fields #[.ref a] }).objs.size], _, _, H2, rfl, I3.kept (t' := s1.toks) fun b o e => Heap.get?_push_of_some _ e, turn_vals a _ kvs o, ⟨_, Heap.get?_push_size _ rfl, rfl, rfl⟩, fun b hb => ?_, q2⟩
 have e : b = (s1.heap.push { cls := .type "dict_values", data := .fields #[.ref a] }).objs.size := by simpa using hb
 subst e
 exact I3.fpOk (Nat.le_refl _) (I3.hok.fresh (Nat.le_refl _))
end
section
noncomputable def Ite (K : PySem.W.Frag) (a : Addr) : It :=
 ⟨fun i H => ∃ xs x, SqL K H a xs ∧ xs[i]? = some x, fun i H x H' => ∃ q y, H q = none ∧ x = .ref q ∧ (∀ xs, SqL K H a xs → xs[i]? = some y) ∧ H' = upd H q (.tup [.int i, y]), fun i H => ∃ xs, SqL K H a xs ∧ xs.length ≤ i⟩
theorem turn_enum {P : Program} {w : World} {K : PySem.W.Frag} {elts : List Expr} {x1 : Nat} {pos : Pos} (a e it : Addr) (hne : e ≠ it) : Turn P w K (.Tuple elts x1 pos) (Ite K a) [e, it] e (fun i h => (∃ old, IsEnum h e it i old) ∧ h.IsListIter it a i) where
 mem := by simp
 obj := fun i h st b hb => by
  obtain ⟨⟨old, h1⟩, o, h2, c, d⟩ := st
  rcases List.mem_cons.mp hb with z | z
  ·subst z
   exact ⟨_, h1, fun v z => by
    have z' : Data.fields _ = Data.cell v := z
    cases z'⟩
  ·have z : b = it := by simpa using z
   subst z
   exact ⟨o, h2, fun v z => by rw [d] at z; cases z⟩
 keep := fun i h h' st k => ⟨let ⟨old, h1⟩ := st.1; ⟨old, k e (by simp) _ h1⟩, st.2.at fun o q => k it (by simp) o q⟩
 item := by
  intro X hP hw hK hc i pins s σ H E I hf st hg
  subst hP hw hK
  obtain ⟨xs, x, hq, hx⟩ := hg
  obtain ⟨its, rv, p, hz⟩ := I.list hq
  obtain ⟨u, hu, ru⟩ := rv.get hx
  obtain ⟨f0, f1, f2, f3, f4, f5⟩ := hf e (by simp)
  obtain ⟨g0, g1, g2, g3, g4, g5⟩ := hf it (by simp)
  obtain ⟨⟨old, he⟩, hit⟩ := st
  refine wpAny_pyNext_enum_item he hit p.isList (x := u) (by simpa using hu) hne fun h' ho' hit' ht' hsz' kk => ?_
  have eo := Heap.lt_size he
  have io : it < s.heap.objs.size := let ⟨o, q, _⟩ := hit; Heap.lt_size q
  refine ⟨.ref s.heap.objs.size, rfl, wpAny_letOwnedTupleGo_enum ho' fun h'' he'' sb => ?_⟩
  have keepb : ∀ b o, b ≠ e → b ≠ it → s.heap.get? b = some o → h''.get? b = some o := fun b o h1 h2 q => (sb.2 b h1).trans (kk b o h1 h2 q)
  have ht'' : h''.get? s.heap.objs.size = some { cls := .type "tuple", data := .seq #[.int i s.toks, u] } := (sb.2 _ (Nat.ne_of_gt eo)).trans ht'
  have hn : H s.heap.objs.size = none := I.hok.fresh (Nat.le_refl _)
  have I2 : Inv X pins σ (upd H s.heap.objs.size (.tup [.int i, x])) { s with heap := h'', toks := s.toks + 1 } := by
   refine I.step (g' := s.gens) (d' := s.drawn) (ch := [e, it]) (fun b hb => ?_) (fun b o _ _ hc q _ => keepb b o (fun z => hc (by simp [z])) (fun z => hc (by simp [z])) q) (fun b o _ _ hc q _ => ⟨o.slots, keepb b o (fun z => hc (by simp [z])) (fun z => hc (by simp [z])) q⟩) (fun b o _ q n => by rw [upd_ne (Nat.ne_of_lt (Heap.lt_size q))]; exact n)
    (fun b o hc q => ⟨o, keepb b o (fun z => hc (by simp [z])) (fun z => hc (by simp [z])) q⟩) (fun b ys q => by rw [upd_ne (ne_of_none q hn)]; exact q) (fun b o ys q => by rw [upd_ne (ne_of_none q hn)]; exact q) (fun b ps q => ⟨#[], by rw [upd_ne (ne_of_none q hn), q]; simp⟩) (fun m hm => ?_) (fun b v q => ?_) I.bare
   ·rcases List.mem_cons.mp hb with z | z
    ·subst z; exact ⟨f3, f1, f4, f5⟩
    ·have z : b = it := by simpa using z
     subst z; exact ⟨g3, g1, g4, g5⟩
   ·obtain ⟨o, es, ep, ho, r⟩ := hm
    exact ⟨o, es, ep, keepb _ o (Ne.symm f1) (Ne.symm g1) ho, r⟩
   ·by_cases hb : b = s.heap.objs.size
    ·subst hb
     rw [upd_same] at q
     cases q
     exact ⟨by show 2 ≤ sizeLine; decide, [.int i s.toks, u], .cons ⟨_, rfl⟩ (.cons ru .nil), ⟨_, ht'', rfl, _, rfl⟩⟩
    ·rw [upd_ne hb] at q
     refine (I.hok b v q).stay (fun c w' hc z => keepb c w' ?_ ?_ z) (fun d z => by rw [upd_ne (ne_of_none z hn)]; exact z) fun d ys z => by rw [upd_ne (ne_of_none z hn)]; exact z
     ·rintro rfl
      rcases hc with z | z
      ·rw [z, q] at f0; cases f0
      ·rw [f0] at z; cases z
     ·rintro rfl
      rcases hc with z | z
      ·rw [z, q] at g0; cases g0
      ·rw [g0] at z; cases z
  refine ⟨.ref s.heap.objs.size, _, I2, rfl, ⟨_, x, hn, rfl, fun ys hy => by rw [I.list_inj hy hq]; exact hx, rfl⟩, ⟨⟨u, he''⟩, hit'.at fun o q => (sb.2 it (Ne.symm hne)).trans q⟩, fun b hb => ?_⟩
  rcases List.mem_cons.mp hb with z | z
  ·subst z; rw [upd_ne (Nat.ne_of_lt eo)]; exact f0
  ·have z : b = it := by simpa using z
   subst z; rw [upd_ne (Nat.ne_of_lt io)]; exact g0
 done := by
  intro X hP hw hK hc i pins s σ H E I hf st hg
  subst hP hw hK
  obtain ⟨xs, hq, hx⟩ := hg
  obtain ⟨its, rv, p, hz⟩ := I.list hq
  obtain ⟨g0, g1, g2, g3, g4, g5⟩ := hf it (by simp)
  obtain ⟨⟨old, he⟩, hit⟩ := st
  have hl := rv.length
  exact wpAny_pyNext_enum_end (I.ok.hd hc) he hit p.isList (by simp; omega) fun h' eb => ⟨rfl, I.turned (t' := s.toks) (fun b o hb e => eb b o hb e) g0 g1 g3 g4 g5⟩
 self := fun _ _ _ _ _ st h => by
  obtain ⟨⟨old, he⟩, _⟩ := st
  exact wpAny_pyIter_enum he h
variable {X : Cx}
noncomputable def iEnum (K : PySem.W.Frag) (ta : TA) : TI := fun σ H R => ta σ H fun vs H1 => ∃ a, vs = [.ref a] ∧ (∃ xs, SqL K H1 a xs) ∧ R (Ite K a) H1
theorem pi_enum {elts : List Expr} {x1 : Nat} {tpos p pos : Pos} {l : Expr} {ta : TA} (hg : Gl X "enumerate") (hm : X.mg "enumerate" = none) (ha : PA X [l] ta) (hs : starEach [l] X.env = [(false, eval l X.env)] := by rfl) : PI X (.Tuple elts x1 tpos) (.Call (.Name "enumerate" p) [l] [] pos) (iEnum X.K ta) := by
 intro pins s σ H R I h
 refine Call_ (ld_blt I hg hm boot_enumerate (PyProof.Rows.callWith_type1 (thn (ha pos pins s σ H _ I h) fun us s1 zz31 => ?_) hs rfl))
 obtain ⟨vs, H1, I1, r1, q1⟩ := zz31
 obtain ⟨a, e, ⟨xs, hq⟩, q⟩ := q1
 subst e
 obtain ⟨u, rfl, ru⟩ := vals1 r1
 cases ru
 obtain ⟨its, rv, pl, hz⟩ := I1.list hq
 refine call_enumerate_list pl.isList fun h' he hit hsz hk => wpAny_pyIter_enum he ?_
 have I2 : Inv X pins σ H1 { s1 with heap := h' } := I1.kept (t' := s1.toks) hk
 refine ⟨s1.heap.objs.size + 1, [s1.heap.objs.size + 1, s1.heap.objs.size], _, _, H1, rfl, I2, turn_enum a _ _ (Nat.succ_ne_self _), ⟨⟨.none, he⟩, hit⟩, fun b hb => ?_, q⟩
 rcases List.mem_cons.mp hb with z | z
 ·subst z; exact I1.fpOk (Nat.le_succ _) (I1.hok.fresh (Nat.le_succ _))
 ·have z : b = s1.heap.objs.size := by simpa using z
  subst z; exact I1.fpOk (Nat.le_refl _) (I1.hok.fresh (Nat.le_refl _))
theorem for_enum {K : PySem.W.Frag} {a : Addr} {xs : List V} {g : TG} {tb : TS} {D : Ends} {σ : St} {H : Hp} (Pv : Nat → St → Hp → Prop) (h0 : Pv 0 σ H) (hl : ∀ i σ H, i ≤ xs.length → Pv i σ H → SqL K H a xs)
  (hs : ∀ i x σ H q, xs[i]? = some x → H q = none → Pv i σ H → g (.ref q) σ (upd H q (.tup [.int i, x])) fun σ2 H2 => tb { D with nx := Pv (i + 1), ct := Pv (i + 1), bk := D.nx } σ2 H2) (hd : ∀ σ H, Pv xs.length σ H → D.nx σ H) :
  ∃ W : Nat → Nat → St → Hp → Prop, (∃ m, W 0 m σ H) ∧ ∀ i m σ H, W i m σ H →
   ((Ite K a).stop i H ∧ D.nx σ H) ∨ ((Ite K a).go i H ∧ ∃ N : St → Hp → Prop, (∀ σ' H', N σ' H' → ∃ m', m' < m ∧ W (i + 1) m' σ' H') ∧ ∀ x H', (Ite K a).yld i H x H' → g x σ H' fun σ2 H2 => tb { D with nx := N, ct := N, bk := D.nx } σ2 H2) := by
 refine ⟨fun i m σ H => m = xs.length - i ∧ i ≤ xs.length ∧ Pv i σ H, ⟨xs.length, by simp, Nat.zero_le _, h0⟩, ?_⟩
 rintro i m σ H ⟨rfl, hi, p⟩
 have q := hl i σ H hi p
 by_cases hlt : i < xs.length
 ·refine .inr ⟨⟨xs, xs[i], q, by simp [hlt]⟩, Pv (i + 1), fun σ' H' p' => ⟨xs.length - (i + 1), by omega, rfl, hlt, p'⟩, fun x H' y => ?_⟩
  obtain ⟨c, z, hn, e1, e2, e3⟩ := y
  subst e1 e3
  exact hs i z σ H c (e2 xs q) hn p
 ·have e : i = xs.length := by omega
  subst e
  exact .inl ⟨⟨xs, q, Nat.le_refl _⟩, hd σ H p⟩
theorem for_vals {d : Addr} {kvs : List (Key × V)} {o : Obj} {g : TG} {tb : TS} {D : Ends} {σ : St} {H : Hp} (Pv : Nat → St → Hp → Prop) (h0 : Pv 0 σ H) (hl : ∀ i σ H, i ≤ kvs.length → Pv i σ H → H d = some (.frz o (.dK kvs)))
  (hs : ∀ i k x σ H, kvs[i]? = some (k, x) → Pv i σ H → g x σ H fun σ2 H2 => tb { D with nx := Pv (i + 1), ct := Pv (i + 1), bk := D.nx } σ2 H2) (hd : ∀ σ H, Pv kvs.length σ H → D.nx σ H) :
  ∃ W : Nat → Nat → St → Hp → Prop, (∃ m, W 0 m σ H) ∧ ∀ i m σ H, W i m σ H →
   ((Itv2 d kvs o).stop i H ∧ D.nx σ H) ∨ ((Itv2 d kvs o).go i H ∧ ∃ N : St → Hp → Prop, (∀ σ' H', N σ' H' → ∃ m', m' < m ∧ W (i + 1) m' σ' H') ∧ ∀ x H', (Itv2 d kvs o).yld i H x H' → g x σ H' fun σ2 H2 => tb { D with nx := N, ct := N, bk := D.nx } σ2 H2) := by
 refine ⟨fun i m σ H => m = kvs.length - i ∧ i ≤ kvs.length ∧ Pv i σ H, ⟨kvs.length, by simp, Nat.zero_le _, h0⟩, ?_⟩
 rintro i m σ H ⟨rfl, hi, p⟩
 have q := hl i σ H hi p
 by_cases hlt : i < kvs.length
 ·refine .inr ⟨⟨hlt, q⟩, Pv (i + 1), fun σ' H' p' => ⟨kvs.length - (i + 1), by omega, rfl, hlt, p'⟩, fun x H' y => ?_⟩
  obtain ⟨e, k, y⟩ := y
  subst e
  exact hs i k x σ _ y p
 ·have e : i = kvs.length := by omega
  subst e
  exact .inl ⟨⟨Nat.le_refl _, q⟩, hd σ H p⟩
noncomputable def tLRange (ta : TA) : TE := fun σ H Q => ta σ H fun vs H1 => ∃ n : Nat, vs = [.int n] ∧ n ≤ 1000 ∧ ∀ p, H1 p = none → Q (.ref p) (upd H1 p (.lst ((List.range n).map fun (i : Nat) => V.int i)))
theorem pe_listRange {a : Expr} {ta : TA} {p1 p2 pos pos2 : Pos} (hgl : Gl X "list") (hml : X.mg "list" = none) (hg : Gl X "range") (hm : X.mg "range" = none) (hc : X.calm = true) (ha : PA X [a] ta) (hs : starEach [a] X.env = [(false, eval a X.env)] := by rfl)
  (hs2 : starEach [.Call (.Name "range" p2) [a] [] pos2] X.env = [(false, eval (.Call (.Name "range" p2) [a] [] pos2) X.env)] := by rfl) : PE X (.Call (.Name "list" p1) [.Call (.Name "range" p2) [a] [] pos2] [] pos) (tLRange ta) := by
 intro pins s σ H Q I h
 refine Call_ (ld_blt I hgl hml PySem.Pv.boot_list (PyProof.Rows.callWith_type1 ?_ hs2 rfl))
 rw [hs2]
 refine Calls.spliced_cons ?_
 refine Call_ (ld_blt I hg hm boot_range (PyProof.Rows.callWith_type1 (thn (ha pos2 pins s σ H _ I h) fun us s1 zz32 => ?_) hs rfl))
 obtain ⟨vs, H1, I1, r1, q1⟩ := zz32
 obtain ⟨n, e, hn, q⟩ := q1
 subst e
 obtain ⟨u, rfl, ru⟩ := vals1 r1
 obtain ⟨t, rfl⟩ := ru
 refine call_range_1 (Calls.spliced_nil ?_)
 have hr : Builtin.Range.rangeSize 0 (n : Int) 1 = n := by rw [rangeSize_one]; split <;> omega
 refine call_list_range (I.ok.hd hc) (IsRange.new ..) (small_one (by omega) (by omega) (by omega) (by omega)) hr (by omega) fun h' tk acc c' hk hS hacc => ?_
 have hk1 : ∀ b o, s1.heap.get? b = some o → h'.get? b = some o := fun b o e => hk b o (Heap.get?_push_of_some _ e)
 have hv : Vals ((List.range n).map fun (i : Nat) => V.int i) acc.toList := by
  have gen : ∀ (l : List Value) (k : Nat), (∀ (j : Nat) (v : Value), l[j]? = some v → ∃ t, v = .int ((k + j : Nat) : Int) t) → Vals ((List.range' k l.length).map fun (i : Nat) => V.int i) l := by
   intro l
   induction l with
   | nil => intro k _; exact .nil
   | cons v r ih =>
    intro k h
    obtain ⟨t, e⟩ := h 0 v rfl
    rw [List.length_cons, List.range'_succ, List.map_cons]
    refine .cons ⟨t, by rw [e]; rfl⟩ (ih (k + 1) fun j w hw => ?_)
    obtain ⟨t', e'⟩ := h (j + 1) w (by simpa using hw)
    exact ⟨t', by rw [e']; congr 1; omega⟩
  have hl : acc.toList.length = n := by rw [Array.length_toList]; exact hacc.1
  have := gen acc.toList 0 fun j v hj => by
   obtain ⟨t, e⟩ := hacc.2 j v (by rw [← Array.getElem?_toList]; exact hj)
   exact ⟨t, by rw [e]; congr 1; omega⟩
  rw [hl, ← List.range_eq_range'] at this
  exact this
 have hle : s1.heap.objs.size ≤ (s1.heap.push { cls := .type "range", data := .fields #[.int 0 s1.toks, .int (n : Int) t, .int 1 (s1.toks + 1)] }).objs.size := by rw [Heap.size_push]; exact Nat.le_succ _
 refine ⟨.ref _, upd H1 _ (.lst ((List.range n).map fun (i : Nat) => V.int i)), I1.laid hk1 (Nat.le_of_lt (by first | exact Nat.lt_of_le_of_lt hle (Heap.lt_size hS) | (rw [Heap.size_push]; exact Nat.lt_succ_self _))) ⟨?_, acc.toList, c', hv, ?_⟩, rfl, q _ (I1.hok.fresh ?_)⟩
 ·rw [List.length_map, List.length_range, sizeLine_eq]; omega
 ·simpa using hS
 ·rw [Heap.size_push]; exact Nat.le_succ _
end
end L2
set_option maxHeartbeats 4000000
namespace L2
open PySem PySem.Spec PyProof.Rows
noncomputable abbrev TJ := Str → TE
end L2
set_option maxHeartbeats 4000000
namespace L2
open PySem PySem.Spec PyProof.Rows
section
variable {X : Cx}
theorem ix_listK (K : PySem.W.Frag) (h : X.K = K := by rfl) : IxR X (rIxL K) := h ▸ ix_list
theorem ix_tupK (K : PySem.W.Frag) (h : X.K = K := by rfl) : IxR X (rIxT K) := h ▸ ix_tup
theorem call_tuple_ofK (K : PySem.W.Frag) (h : X.K = K := by rfl) : CallR X (.type "tuple") (fun xs H Q => ∃ p ys, xs = [.ref p] ∧ ((SqL K H p ys ∧ ∀ l, H l = none → Q (.ref l) (upd H l (.tup ys))) ∨ (SqT K H p ys ∧ Q (.ref p) H))) := h ▸ call_tuple_of
variable {tg l e : Expr} {tl ta : TE} {f : Str} {pos : Pos}
theorem pi_tupK (K : PySem.W.Frag) (hl : PE X l tl) (h : X.K = K := by rfl) : PI X tg l (iTup K tl) := h ▸ pi_tup hl
end
end L2
set_option maxHeartbeats 4000000
namespace L2
open PySem PySem.Spec PyProof.Rows
section
variable {prog : Program} {w : World} {A : Around} {E : Value → Shared → Prop}
theorem drawL {it l : Addr} {xs : Array Value} (ne : l ≠ it) (k : Nat) : ∀ (i : Nat) (s : Shared) (Q : List Value → Shared → Prop), s.heap.IsListIter it l i → s.heap.IsList l xs → i + k ≤ xs.size →
  (∀ h', h'.IsListIter it l (i + k) → Heap.SameBut it s.heap h' → Q ((xs.toList.drop i).take k) { s with heap := h' }) → wpAny (model prog w) A (draw (.ref it) k) Q E s := by
 induction k with
 | zero =>
  intro i s Q a b c q
  have z := q s.heap a (Heap.SameBut.refl ..)
  rw [List.take_zero] at z
  exact wpAny_pure z
 | succ k ih =>
  intro i s Q a b c q
  have lt : i < xs.size := by omega
  refine wpAny_bind (m := pyNext (.ref it)) (wpAny_pyNext_list_item a b (x := xs[i]) (by simp [lt]) fun g st sb => ?_)
  refine wpAny_bind (wpAny_holding (ih (i + 1) _ _ st (b.extBut sb.extBut ne) (by omega) fun g2 st2 sb2 => wpAny_pure ?_))
  have z := q g2 (by rw [Nat.add_right_comm] at st2; exact st2) (sb.trans sb2)
  rwa [List.drop_eq_getElem_cons (by simpa using lt), List.take_succ_cons, Array.getElem_toList] at z
theorem unpackL {l : Addr} {xs : Array Value} {s : Shared} {Q : List Value → Shared → Prop} (hc : A.handled = none) (b : s.heap.IsList l xs)
  (q : ∀ h', Heap.ExtBut s.heap.objs.size s.heap h' → Q xs.toList { s with heap := h' }) : wpAny (model prog w) A (unpackItems (.ref l) xs.size none) Q E s := by
 have ne : l ≠ s.heap.objs.size := by obtain ⟨o, ho, _⟩ := b; exact Nat.ne_of_lt (Heap.lt_size ho)
 unfold unpackItems notIterableAtAll
 refine wpAny_bind (wpAny_bind (wpAny_specialOf b.typeIs PySem.F.slot_list_iter.lookup (wpAny_pure ?_)))
 rw [if_neg (by decide)]
 refine wpAny_bind (wpAny_holding (wpAny_pyIter_list b ?_))
 refine wpAny_bind (wpAny_holding (drawL ne xs.size 0 _ _ ⟨_, Heap.get?_push_size _ rfl, rfl, rfl⟩ (b.push _) (by omega) fun g st sb => ?_))
 have e : (xs.toList.drop 0).take xs.size = xs.toList := by rw [List.drop_zero, List.take_of_length_le]; simp
 rw [e, if_neg (by simp)]
 refine wpAny_bind (wpAny_holding (wpAny_pyNext_list_end hc st ((b.push _).extBut sb.extBut ne) (by simp) fun g2 eb => ?_))
 rw [if_neg (by decide)]
 exact wpAny_pure (q g2 fun c o hb z => eb c o hb (sb.extBut c o hb (Heap.get?_push_of_some _ z)))
end
section
variable {X : Cx} {pos : Pos}
noncomputable def gLst (K : PySem.W.Frag) (n : Nat) (t : TGs) : TG := fun v σ H Q => ∃ a xs, v = .ref a ∧ SqL K H a xs ∧ xs.length = n ∧ t xs σ H Q
theorem pg_lst {es : List Expr} {k : Nat} {t : TGs} {n : Nat} (hc : X.calm = true) (h : PGs X es t)
  (hn : (assignEach es X.env).length = n := by rfl) (hst : (assignEach es X.env).findIdx? (·.1) = none := by rfl) : PG X (.Tuple es k pos) (gLst X.K n t) := by
 intro pins s σ H v u Q I r hw
 obtain ⟨a, xs, e1, hq, hl, hw⟩ := hw
 subst e1
 cases r
 obtain ⟨its, rv, p, hz⟩ := I.list hq
 rw [assign_Tuple]
 refine wpAny_bind (wpAny_standAt ?_)
 unfold unpack
 have hn2 : (assignEach es X.env).length = its.toArray.size := by rw [hn, ← hl, rv.length]; simp
 rw [hn2, hst]
 refine wpAny_bind (wpAny_holding (unpackL (I.ok.hd hc) p.isList fun h' hx => ?_))
 have I1 : Inv X pins σ H { s with heap := h' } := I.kept (t' := s.toks) fun b o e => hx b o (Nat.ne_of_lt (Heap.lt_size e)) e
 exact h pins _ σ H xs _ Q I1 (by simpa using rv) hw
end
end L2
set_option maxHeartbeats 4000000
namespace L2
open PySem PySem.Spec PyProof.Rows
noncomputable def KDict (w : World) (K : PySem.W.Frag) (a : Addr) (kvs : List (Key × V)) : Prop :=
 ∃ o es ep vs, K.lookup a = some o ∧ o.ExactDict ∧ o.data = .dict es ep ∧ (∀ e ∈ es, ∃ k, keyIs k e.key = true ∧ e.hash = keyH w k) ∧ (∀ P : Program, Pairs (mixKind P w) es.toList vs) ∧ (vs.map (·.1)).Nodup ∧ KV kvs vs ∧ (a == sysModules) = false
section
variable {X : Cx} {i o : Expr} {ty td : TE} {pos : Pos}
theorem KDict.here {pins : List (Addr × Obj)} {σ : St} {H : Hp} {s : Shared} {a : Addr} {kvs : List (Key × V)} (h : KDict X.w X.K a kvs) (I : Inv X pins σ H s) : (a == sysModules) = false ∧ ∃ vs, KV kvs vs ∧ s.heap.DictOf (mixKind X.prog X.w) a vs := by
 obtain ⟨o, es, ep, vs, h1, h2, h3, h4, h5, h6, h7, h8⟩ := h
 exact ⟨h8, vs, h7, o, es, ep, I.kIn a o h1, h2, h3, h4, h5 X.prog, h6⟩
noncomputable def tKNotIn (w : World) (K : PySem.W.Frag) (ty td : TE) : TE := fun σ H Q => ty σ H fun y H1 => td σ H1 fun x H2 => ∃ a kvs k, x = .ref a ∧ KDict w K a kvs ∧ y = kV k ∧ Q (.bl (!(valV kvs k).isSome)) H2
theorem pc_knotin (hi : PE X i ty) (ho : PE X o td) : PC X .NotIn i o (tKNotIn X.w X.K ty td) := by
 intro pins s σ H Q I h
 refine thn (hi pins s σ H _ I h) fun iv s1 zz33 => ?_
 obtain ⟨y, H1, I1, ry, q1⟩ := zz33
 refine thn (ho pins s1 σ H1 _ I1 q1) fun u s2 zz9 => ?_
 obtain ⟨x, H2, I2, rx, a, kvs, k, ex, g, ey, q2⟩ := zz9
 subst ex ey
 obtain rfl : u = Value.ref a := rx
 obtain ⟨hd, vs, rel, dd⟩ := g.here I2
 refine wpAny_notIn_of (kV_is ry) hd dd.mapOf ?_
 rw [← (rel.val k).isSome_eq]
 exact ⟨.bl _, H2, I2.tok _, rfl, q2⟩
end
section
noncomputable def Itm2 (d : Addr) (kvs : List (Key × V)) (o : Obj) : It :=
 ⟨fun i H => i < kvs.length ∧ H d = some (.frz o (.dK kvs)), fun i H x H' => ∃ q k v, H q = none ∧ x = .ref q ∧ kvs[i]? = some (k, v) ∧ H' = upd H q (.tup [kV k, v]), fun i H => kvs.length ≤ i ∧ H d = some (.frz o (.dK kvs))⟩
theorem turn_items {P : Program} {w : World} {K : PySem.W.Frag} {elts : List Expr} {x1 : Nat} {pos : Pos} (d it : Addr) (kvs : List (Key × V)) (o : Obj) :
  Turn P w K (.Tuple elts x1 pos) (Itm2 d kvs o) [it] it (fun i h => ∃ a b, IsItemIter h it d i kvs.length (epOf o) a b) where
 mem := by simp
 obj := fun i h st b hb => by
  have e : b = it := by simpa using hb
  subst e
  obtain ⟨a, c, z⟩ := st
  exact ⟨_, z, fun v y => by
   have y' : Data.fields _ = Data.cell v := y
   cases y'⟩
 keep := fun i h h' st k => by
  obtain ⟨a, c, z⟩ := st
  exact ⟨a, c, k it (by simp) _ z⟩
 item := by
  intro X hP hw hK hc i pins s σ H E I hf st hg
  subst hP hw hK
  obtain ⟨hi, hq⟩ := hg
  obtain ⟨vs, ep, rel, da, ho⟩ := frz_dict I hq
  have hep := ep_of da ho
  subst hep
  obtain ⟨f0, f1, f2, f3, f4, f5⟩ := hf it (by simp)
  obtain ⟨⟨k, v⟩, hx⟩ : ∃ p, kvs[i]? = some p := ⟨_, List.getElem?_eq_getElem hi⟩
  obtain ⟨u, hu, ru⟩ := rel.at hx
  have hlen : vs.length = kvs.length := rel.length.symm
  obtain ⟨a0, b0, st⟩ := st
  rw [← hlen] at st
  have itlt := Heap.lt_size st
  refine wpAny_pyNext_items_item st da hu fun key h' hk st' ht hsz kk => ?_
  rw [hlen] at st'
  refine ⟨.ref s.heap.objs.size, rfl, wpAny_letOwnedTupleGo_items st' fun h'' st'' sb => ?_⟩
  have keepb : ∀ b z, b ≠ it → s.heap.get? b = some z → h''.get? b = some z := fun b z hb e => (sb.2 b hb).trans (kk b z hb e)
  have ht'' : h''.get? s.heap.objs.size = some { cls := .type "tuple", data := .seq #[key, u] } := (sb.2 _ (Nat.ne_of_gt itlt)).trans ht
  have hn : H s.heap.objs.size = none := I.hok.fresh (Nat.le_refl _)
  have I2 : Inv X pins σ (upd H s.heap.objs.size (.tup [kV k, v])) { s with heap := h'' } := by
   refine I.step (g' := s.gens) (d' := s.drawn) (ch := [it]) (fun b hb => ?_) (fun b o _ _ hc q _ => keepb b o (fun z => hc (by simp [z])) q) (fun b o _ _ hc q _ => ⟨o.slots, keepb b o (fun z => hc (by simp [z])) q⟩) (fun b o _ q n => by rw [upd_ne (Nat.ne_of_lt (Heap.lt_size q))]; exact n)
    (fun b o hc q => ⟨o, keepb b o (fun z => hc (by simp [z])) q⟩) (fun b ys q => by rw [upd_ne (ne_of_none q hn)]; exact q) (fun b o ys q => by rw [upd_ne (ne_of_none q hn)]; exact q) (fun b ps q => ⟨#[], by rw [upd_ne (ne_of_none q hn), q]; simp⟩) (fun m hm => ?_) (fun b v' q => ?_) I.bare
   ·have z : b = it := by simpa using hb
    subst z; exact ⟨f3, f1, f4, f5⟩
   ·obtain ⟨o, es, ep, ho, r⟩ := hm
    exact ⟨o, es, ep, keepb _ o (Ne.symm f1) ho, r⟩
   ·by_cases hb : b = s.heap.objs.size
    ·subst hb
     rw [upd_same] at q
     cases q
     exact ⟨by show 2 ≤ sizeLine; decide, [key, u], .cons (kV_of hk) (.cons ru .nil), ⟨_, ht'', rfl, _, rfl⟩⟩
    ·rw [upd_ne hb] at q
     refine (I.hok b v' q).stay (fun c w' hc z => keepb c w' ?_ z) (fun d z => by rw [upd_ne (ne_of_none z hn)]; exact z) fun d ys z => by rw [upd_ne (ne_of_none z hn)]; exact z
     rintro rfl
     rcases hc with z | z
     ·rw [z, q] at f0; cases f0
     ·rw [f0] at z; cases z
  refine ⟨.ref s.heap.objs.size, _, I2, rfl, ⟨_, k, v, hn, rfl, hx, rfl⟩, ⟨_, _, st''⟩, fun b hb => ?_⟩
  have z : b = it := by simpa using hb
  subst z; rw [upd_ne (Nat.ne_of_lt itlt)]; exact f0
 done := by
  intro X hP hw hK hc i pins s σ H E I hf st hg
  subst hP hw hK
  obtain ⟨hi, hq⟩ := hg
  obtain ⟨vs, ep, rel, da, ho⟩ := frz_dict I hq
  have hep := ep_of da ho
  subst hep
  obtain ⟨f0, f1, f2, f3, f4, f5⟩ := hf it (by simp)
  have hlen : vs.length = kvs.length := rel.length.symm
  obtain ⟨a0, b0, st⟩ := st
  rw [← hlen] at st
  exact wpAny_pyNext_items_end (I.ok.hd hc) st da (by rw [List.getElem?_eq_none]; omega) fun h' eb => ⟨rfl, I.turned (t' := s.toks) (fun b o hb e => eb b o hb e) f0 f1 f3 f4 f5⟩
 self := fun _ _ _ _ _ st h => by
  obtain ⟨a, b, st⟩ := st
  exact PySem.W.kcp_self st h
variable {X : Cx} {l : Expr} {tl : TE}
theorem pi_items {elts : List Expr} {x1 : Nat} {tpos apos cpos : Pos} (hl : PE X l tl) (m : M0 X l "items" apos cpos) : PI X (.Tuple elts x1 tpos) (.Call (.Attribute l "items" apos) [] [] cpos) (iDict Itm2 tl) := by
 intro pins s σ H R I h
 refine wpAny_Call_method m.base m.few m.line PySem.F.plainAttrs_dict PySem.F.slot_dict_items PySem.F.type_dict_items (thn (hl pins s σ H _ I h) fun v s1 zz9 => ?_)
 obtain ⟨x, H1, I1, r1, q1⟩ := zz9
 obtain ⟨a, kvs, e, q⟩ := q1
 subst e
 cases r1
 obtain ⟨o, H2, e2, I2, q2⟩ := dict_frz (R := fun o H => R (Itm2 a kvs o) H) I1 q
 obtain ⟨vs, ep, rel, da, ho⟩ := frz_dict I2 e2
 have hep := ep_of da ho
 subst hep
 obtain ⟨_, _, hsys, _⟩ := I2.hok a _ e2
 have isd : IsD H2 a := .inl ⟨kvs, .inr ⟨o, e2⟩⟩
 obtain ⟨t1, t2, _⟩ := isD_at I2 isd
 refine ⟨t1, t2, ?_⟩
 refine Calls.callWith_builtin rfl (PyProof.Rows.evalArgs_empty ?_)
 refine call_meetsIn PySem.F.slot_dict_items da.dictOf.typeIs PySem.F.entry_dict_items (PySem.F.args_dict_items_1 _) (meets_dict_items (mixKind X.prog X.w) a hsys) ⟨⟨vs, da.dictOf⟩, ?_⟩
 have I3 : Inv X pins σ H2 { s1 with heap := s1.heap.push { cls := .type "dict_items", data := .fields #[.ref a] } } := I2.kept (t' := s1.toks) fun b o e => Heap.get?_push_of_some _ e
 refine wpAny_pyIter_items ⟨_, Heap.get?_push_size _ rfl, rfl, rfl⟩ (da.push _) ?_
 have hlen : vs.length = kvs.length := rel.length.symm
 rw [hlen]
 refine ⟨(s1.heap.push { cls := .type "dict_items", data := .fields #[.ref a] }).objs.size, [(s1.heap.push { cls := .type "dict_items", data := .fields #[.ref a] }).objs.size], _, _, H2, rfl, I3.kept (t' := s1.toks) fun b o e => Heap.get?_push_of_some _ e, turn_items a _ kvs o, ⟨_, _, Heap.get?_push_size _ rfl⟩, fun b hb => ?_, q2⟩
 have e : b = (s1.heap.push { cls := .type "dict_items", data := .fields #[.ref a] }).objs.size := by simpa using hb
 subst e
 exact I3.fpOk (Nat.le_refl _) (I3.hok.fresh (Nat.le_refl _))
theorem for_items {d : Addr} {kvs : List (Key × V)} {o : Obj} {g : TG} {tb : TS} {D : Ends} {σ : St} {H : Hp} (Pv : Nat → St → Hp → Prop) (h0 : Pv 0 σ H) (hl : ∀ i σ H, i ≤ kvs.length → Pv i σ H → H d = some (.frz o (.dK kvs)))
  (hs : ∀ i k x σ H q, kvs[i]? = some (k, x) → H q = none → Pv i σ H → g (.ref q) σ (upd H q (.tup [kV k, x])) fun σ2 H2 => tb { D with nx := Pv (i + 1), ct := Pv (i + 1), bk := D.nx } σ2 H2) (hd : ∀ σ H, Pv kvs.length σ H → D.nx σ H) :
  ∃ W : Nat → Nat → St → Hp → Prop, (∃ m, W 0 m σ H) ∧ ∀ i m σ H, W i m σ H →
   ((Itm2 d kvs o).stop i H ∧ D.nx σ H) ∨ ((Itm2 d kvs o).go i H ∧ ∃ N : St → Hp → Prop, (∀ σ' H', N σ' H' → ∃ m', m' < m ∧ W (i + 1) m' σ' H') ∧ ∀ x H', (Itm2 d kvs o).yld i H x H' → g x σ H' fun σ2 H2 => tb { D with nx := N, ct := N, bk := D.nx } σ2 H2) := by
 refine ⟨fun i m σ H => m = kvs.length - i ∧ i ≤ kvs.length ∧ Pv i σ H, ⟨kvs.length, by simp, Nat.zero_le _, h0⟩, ?_⟩
 rintro i m σ H ⟨rfl, hi, p⟩
 have q := hl i σ H hi p
 by_cases hlt : i < kvs.length
 ·refine .inr ⟨⟨hlt, q⟩, Pv (i + 1), fun σ' H' p' => ⟨kvs.length - (i + 1), by omega, rfl, hlt, p'⟩, fun x H' y => ?_⟩
  obtain ⟨c, k, v, hn, e1, y, e2⟩ := y
  subst e1 e2
  exact hs i k v σ H c y hn p
 ·have e : i = kvs.length := by omega
  subst e
  exact .inl ⟨⟨Nat.le_refl _, q⟩, hd σ H p⟩
end
section
variable {X : Cx} {fr : Bool} {pos : Pos}
noncomputable def tAsgX (te : TEX) (g : TG) : TSX := fun D R σ H => te σ H (fun x H1 => g x σ H1 D.nx) fun cls _ H1 => R cls σ H1
theorem psx_asg {tg e : Expr} {te : TEX} {g : TG} (he : PEX fr X e te) (hg : PG X tg g) (hs : swapsWithSole [tg] e pos.line X.env = pure false := by rfl) (hw : swappedStores [tg] e X.env = pure none := by rfl)
  (h1 : (assignEach [tg] X.env).map (·.2) = [assign tg X.env] := by rfl) (hx : X.xe = (fun _ _ => False) := by rfl) : PSX fr X (.Assign [tg] e pos) (tAsgX te g) := by
 intro pins s σ H D R I h
 refine wpAny_Assign_stores (wpAny_mono (he pins s σ H _ _ I h) (fun v s1 ⟨x, H1, I1, r1, q1⟩ => ?_) ?_) hs hw
 ·rw [h1]
  have z := hg pins s1 σ H1 x v _ I1 r1 q1
  rw [hx] at z
  exact wpAny_mono z (fun _ _ y => y) fun _ _ y => y.elim
 ·rintro ev s1 ⟨e, T, cls, a0, σ', H', g1, g2, g3, g4, g5, g7, rfl, g6⟩
  exact ⟨e, T, cls, a0, σ', H', g1, g2, g3, g4, g5, g7, g6⟩
end
theorem kdict_mk2 {w : World} {K : PySem.W.Frag} {a : Addr} {h1 h2 : Int} {t1 t2 t3 t4 : Tok} {ep : Nat} {x1 y1 x2 y2 : Str}
  (l : K.lookup a = some ⟨.type "dict", none, .dict #[⟨h1, .str x1 t1, .str y1 t2⟩, ⟨h2, .str x2 t3, .str y2 t4⟩] ep, #[]⟩) (e1 : h1 = hashStr w x1) (e2 : h2 = hashStr w x2) (ne : x1 ≠ x2) (sy : (a == sysModules) = false) :
  KDict w K a [(Sum.inr x1, .str y1), (Sum.inr x2, .str y2)] := by
 refine ⟨_, _, _, [(Sum.inr x1, .str y1 t2), (Sum.inr x2, .str y2 t4)], l, ⟨rfl, rfl, rfl⟩, rfl, fun e he => ?_, fun P => ?_, ?_, ?_, sy⟩
 ·have he : e = ⟨h1, .str x1 t1, .str y1 t2⟩ ∨ e = ⟨h2, .str x2 t3, .str y2 t4⟩ := by simpa using he
  rcases he with rfl | rfl
  ·exact ⟨Sum.inr x1, keyIs_str x1 t1, e1⟩
  ·exact ⟨Sum.inr x2, keyIs_str x2 t3, e2⟩
 ·exact .cons (keyIs_str x1 t1) rfl (.cons (keyIs_str x2 t3) rfl .nil)
 ·refine List.nodup_cons.mpr ⟨?_, by simp⟩
  simp [ne]
 ·exact .cons ⟨rfl, ⟨_, rfl⟩⟩ (.cons ⟨rfl, ⟨_, rfl⟩⟩ .nil)
end L2
set_option maxHeartbeats 4000000
namespace L2
open PySem PySem.Spec PyProof.Rows
section
variable {X : Cx}
noncomputable def rNeL (K : PySem.W.Frag) : R2 := fun x y H Q => ∃ a b ns ms, x = .ref a ∧ y = .ref b ∧ SqL K H a (List.map V.int ns) ∧ SqL K H b (List.map V.int ms) ∧ Q (.bl (!decide (ns = ms))) H
theorem op_neL (hu : X.A.units + 64 < cLine) : OpR X (compareOp .NotEq) (rNeL X.K) := by
 intro pins s σ H x y v u Q I rx ry h
 obtain ⟨a, b, ns, ms, rfl, rfl, ha, hb, q⟩ := h
 cases rx
 cases ry
 obtain ⟨ia, ra, pa, _⟩ := I.list ha
 obtain ⟨ib, rb, pb, _⟩ := I.list hb
 exact PySem.W.ne_intsK pa.isList (intsAre_of ra) pb.isList (intsAre_of rb) hu ⟨.bl _, H, I, rfl, q⟩
theorem all_range (bs : List Bool) : ((List.range bs.length).all fun i => bs.getD i true) = bs.all id := by
 rw [Bool.eq_iff_iff, List.all_eq_true, List.all_eq_true]
 constructor
 ·intro h b hb
  obtain ⟨i, hi, rfl⟩ := List.mem_iff_getElem.mp hb
  have := h i (List.mem_range.mpr hi)
  rw [List.getD_eq_getElem?_getD, List.getElem?_eq_getElem hi] at this
  exact this
 ·intro h i hi
  have hi := List.mem_range.mp hi
  rw [List.getD_eq_getElem?_getD, List.getElem?_eq_getElem hi]
  exact h _ (List.getElem_mem hi)
theorem call_all (hc : X.calm = true) : CallR X (.builtin "all") (fun xs H Q => ∃ p bs, xs = [.ref p] ∧ SqL X.K H p (List.map V.bl bs) ∧ Q (.bl (bs.all id)) H) := by
 intro pins s σ H xs us Q I r h
 obtain ⟨p, bs, rfl, hq, q⟩ := h
 obtain ⟨u, rfl, ru⟩ := vals1 r
 cases ru
 obtain ⟨its, rv, pl, hz⟩ := I.list hq
 have ne : p ≠ s.heap.objs.size := by obtain ⟨o, ho, _⟩ := pl.isList; exact Nat.ne_of_lt (Heap.lt_size ho)
 refine call_all_walk (wpAny_pyIter_list pl.isList ⟨s.heap.objs.size, _, _, _, _, _, fun i => bs.getD i true, rfl, Walks.list (A := X.A.in1) (show X.A.in1.handled = none from I.ok.hd hc) s.heap.objs.size p ne its.toArray, ⟨⟨_, Heap.get?_push_size _ rfl, rfl, rfl⟩, pl.isList.push _⟩, ?_, ?_⟩)
 ·intro i v s' Q' E' hv hq'
  have hv : its[i]? = some v := by simpa using hv
  have hlen := rv.length
  rw [List.length_map] at hlen
  have hi : i < bs.length := by have := (List.getElem?_eq_some_iff.mp hv).1; omega
  obtain ⟨u, hu, ru⟩ := rv.get (show (bs.map V.bl)[i]? = some (V.bl bs[i]) by rw [List.getElem?_map, List.getElem?_eq_getElem hi]; rfl)
  rw [hv] at hu
  cases hu
  cases ru
  have e : bs.getD i true = bs[i] := by rw [List.getD_eq_getElem?_getD, List.getElem?_eq_getElem hi]; rfl
  refine wpAny_truthy_bool ?_
  have hq' : Q' (bs.getD i true) s' := hq'
  rw [e] at hq'
  exact hq'
 ·intro h' tk hk
  have I1 : Inv X pins σ H { s with heap := h', toks := tk } := I.kept fun b o e => hk b o (fun z => absurd (Heap.lt_size e) (by rw [List.mem_singleton.mp z]; exact Nat.lt_irrefl _)) (Heap.get?_push_of_some _ e)
  have hlen : its.toArray.size = bs.length := by have := rv.length; rw [List.length_map] at this; simp; omega
  refine ⟨.bl (bs.all id), H, I1, ?_, q⟩
  show Value.bool _ = _
  rw [hlen, all_range]
end
section
noncomputable def Itz (K : PySem.W.Frag) (a b : Addr) : It :=
  ⟨fun i H => ∃ xs ys x y, SqL K H a xs ∧ SqL K H b ys ∧ xs[i]? = some x ∧ ys[i]? = some y,
   fun i H v H' => ∃ q x y, H q = none ∧ v = .ref q ∧ (∀ xs, SqL K H a xs → xs[i]? = some x) ∧ (∀ ys, SqL K H b ys → ys[i]? = some y) ∧ H' = upd H q (.tup [x, y]),
   fun i H => ∃ xs ys, SqL K H a xs ∧ SqL K H b ys ∧ (xs.length ≤ i ∨ ys.length ≤ i)⟩
theorem turn_zip {P : Program} {w : World} {K : PySem.W.Frag} {elts : List Expr} {x1 : Nat} {pos : Pos} (a b z TI TO i1 i2 : Addr) (D : ZipApart z TI TO i1 i2 a b) :
  Turn P w K (.Tuple elts x1 pos) (Itz K a b) [z, TI, TO, i1, i2] z (fun i h => IsZip h z TI TO .none ∧ IsPair h TI (.ref i1) (.ref i2) ∧ (∃ u v, IsPair h TO u v) ∧ h.IsListIter i1 a i ∧ h.IsListIter i2 b i) where
 mem := by simp
 obj := fun i h st c hc => by
  obtain ⟨s1, s2, ⟨u, v, s3⟩, ⟨o4, e4, c4, d4⟩, o5, e5, c5, d5⟩ := st
  have hc : c = z ∨ c = TI ∨ c = TO ∨ c = i1 ∨ c = i2 := by simpa using hc
  rcases hc with rfl | rfl | rfl | rfl | rfl
  ·exact ⟨_, s1, fun v y => by have y' : Data.fields _ = Data.cell v := y; cases y'⟩
  ·exact ⟨_, s2, fun v y => by have y' : Data.seq _ _ = Data.cell v := y; cases y'⟩
  ·exact ⟨_, s3, fun v y => by have y' : Data.seq _ _ = Data.cell v := y; cases y'⟩
  ·exact ⟨o4, e4, fun v y => by rw [d4] at y; cases y⟩
  ·exact ⟨o5, e5, fun v y => by rw [d5] at y; cases y⟩
 keep := fun i h h' st k => by
  obtain ⟨s1, s2, ⟨u, v, s3⟩, s4, s5⟩ := st
  exact ⟨k z (by simp) _ s1, k TI (by simp) _ s2, ⟨u, v, k TO (by simp) _ s3⟩, s4.at fun o e => k i1 (by simp) o e, s5.at fun o e => k i2 (by simp) o e⟩
 item := by
  intro X hP hw hK hc i pins s σ H E I hf st hg
  subst hP hw hK
  obtain ⟨xs, ys, x, y, hqx, hqy, hx, hy⟩ := hg
  obtain ⟨itx, rvx, px, _⟩ := I.list hqx
  obtain ⟨ity, rvy, py, _⟩ := I.list hqy
  obtain ⟨u, hu, ru⟩ := rvx.get hx
  obtain ⟨v, hv, rv⟩ := rvy.get hy
  obtain ⟨s1, s2, ⟨u0, v0, s3⟩, s4, s5⟩ := st
  refine wpAny_pyNext_zip_item D s1 s2 s3 s4 s5 px.isList py.isList (x := u) (y := v) (by simpa using hu) (by simpa using hv) fun h' a1 a2 a3 a4 a5 a6 a7 => ?_
  refine ⟨.ref s.heap.objs.size, rfl, wpAny_letOwnedTupleGo_zip a1 fun h'' b1 sb => ?_⟩
  have lt : ∀ c ∈ [z, TI, TO, i1, i2], c < s.heap.objs.size := fun c hc => by
   obtain ⟨o, e, _⟩ : ∃ o, s.heap.get? c = some o ∧ True := by
    have hc : c = z ∨ c = TI ∨ c = TO ∨ c = i1 ∨ c = i2 := by simpa using hc
    rcases hc with rfl | rfl | rfl | rfl | rfl
    ·exact ⟨_, s1, trivial⟩
    ·exact ⟨_, s2, trivial⟩
    ·exact ⟨_, s3, trivial⟩
    ·obtain ⟨o, e, _⟩ := s4; exact ⟨o, e, trivial⟩
    ·obtain ⟨o, e, _⟩ := s5; exact ⟨o, e, trivial⟩
   exact Heap.lt_size e
  have keepb : ∀ c o, c ≠ z → c ≠ TO → c ≠ i1 → c ≠ i2 → s.heap.get? c = some o → h''.get? c = some o := fun c o n1 n2 n3 n4 e => (sb.2 c n1).trans (a7 c o n1 n2 n3 n4 e)
  have zl := lt z (by simp)
  have ht'' : h''.get? s.heap.objs.size = some { cls := .type "tuple", data := .seq #[u, v] } := (sb.2 _ (Nat.ne_of_gt zl)).trans a5
  have hn : H s.heap.objs.size = none := I.hok.fresh (Nat.le_refl _)
  have I2 : Inv X pins σ (upd H s.heap.objs.size (.tup [x, y])) { s with heap := h'' } := by
   have out : ∀ c, c ∉ [z, TO, i1, i2] → c ≠ z ∧ c ≠ TO ∧ c ≠ i1 ∧ c ≠ i2 := fun c hc => by simpa using hc
   refine I.step (g' := s.gens) (d' := s.drawn) (ch := [z, TO, i1, i2]) (fun c hc => ?_) (fun c o _ _ hc q _ => ?_) (fun c o _ _ hc q _ => ⟨o.slots, ?_⟩) (fun c o _ q n => by rw [upd_ne (Nat.ne_of_lt (Heap.lt_size q))]; exact n)
    (fun c o hc q => ⟨o, ?_⟩) (fun c zs q => by rw [upd_ne (ne_of_none q hn)]; exact q) (fun c o zs q => by rw [upd_ne (ne_of_none q hn)]; exact q) (fun c ps q => ⟨#[], by rw [upd_ne (ne_of_none q hn), q]; simp⟩) (fun m hm => ?_) (fun c v' q => ?_) I.bare
   ·have hc : c = z ∨ c = TO ∨ c = i1 ∨ c = i2 := by simpa using hc
    have hm : c ∈ [z, TI, TO, i1, i2] := by rcases hc with rfl | rfl | rfl | rfl <;> simp
    obtain ⟨f0, f1, f2, f3, f4, f5⟩ := hf c hm
    exact ⟨f3, f1, f4, f5⟩
   ·obtain ⟨n1, n2, n3, n4⟩ := out c hc; exact keepb c o n1 n2 n3 n4 q
   ·obtain ⟨n1, n2, n3, n4⟩ := out c hc; exact keepb c o n1 n2 n3 n4 q
   ·obtain ⟨n1, n2, n3, n4⟩ := out c hc; exact keepb c o n1 n2 n3 n4 q
   ·obtain ⟨o, es, ep, ho, r⟩ := hm
    exact ⟨o, es, ep, keepb _ o (Ne.symm (hf z (by simp)).2.1) (Ne.symm (hf TO (by simp)).2.1) (Ne.symm (hf i1 (by simp)).2.1) (Ne.symm (hf i2 (by simp)).2.1) ho, r⟩
   ·by_cases hb : c = s.heap.objs.size
    ·subst hb
     rw [upd_same] at q
     cases q
     exact ⟨by show 2 ≤ sizeLine; decide, [u, v], .cons ru (.cons rv .nil), ⟨_, ht'', rfl, _, rfl⟩⟩
    ·rw [upd_ne hb] at q
     refine (I.hok c v' q).stay (fun e w' he y' => keepb e w' ?_ ?_ ?_ ?_ y') (fun d y' => by rw [upd_ne (ne_of_none y' hn)]; exact y') fun d zs y' => by rw [upd_ne (ne_of_none y' hn)]; exact y'
     all_goals
      rintro rfl
      have hz0 : H e = none := (hf e (by simp)).1
      rcases he with y' | y'
      ·rw [y', q] at hz0; cases hz0
      ·rw [hz0] at y'; cases y'
  refine ⟨.ref s.heap.objs.size, _, I2, rfl, ⟨_, x, y, hn, rfl, fun xs' hy' => by rw [I.list_inj hy' hqx]; exact hx, fun ys' hy' => by rw [I.list_inj hy' hqy]; exact hy, rfl⟩,
   ⟨b1, (sb.2 TI D.TIz).trans (a7 TI _ D.TIz D.TITO D.TIi1 D.TIi2 s2), ⟨u, v, (sb.2 TO D.TOz).trans a2⟩, a3.at fun o e => (sb.2 i1 D.i1z).trans e, a4.at fun o e => (sb.2 i2 D.i2z).trans e⟩, fun c hc => ?_⟩
  rw [upd_ne (Nat.ne_of_lt (lt c hc))]
  exact (hf c hc).1
 done := by
  intro X hP hw hK hc i pins s σ H E I hf st hg
  subst hP hw hK
  obtain ⟨xs, ys, hqx, hqy, hlen⟩ := hg
  obtain ⟨itx, rvx, px, _⟩ := I.list hqx
  obtain ⟨ity, rvy, py, _⟩ := I.list hqy
  obtain ⟨s1, s2, ⟨u0, v0, s3⟩, s4, s5⟩ := st
  have l1 := rvx.length
  have l2 := rvy.length
  refine wpAny_pyNext_zip_end (I.ok.hd hc) D s1 s2 s3 s4 s5 px.isList py.isList ?_ fun h' eb => ⟨rfl, ?_⟩
  ·rcases hlen with z | z
   ·exact .inl (by simp; omega)
   ·exact .inr (by simp; omega)
  ·have out : ∀ c, c ∉ [z, TO, i1, i2] → c ≠ z ∧ c ≠ TO ∧ c ≠ i1 ∧ c ≠ i2 := fun c hc => by simpa using hc
   refine I.step (g' := s.gens) (d' := s.drawn) (t' := s.toks) (ch := [z, TO, i1, i2]) (fun c hc => ?_) (fun c o _ _ hc q _ => ?_) (fun c o _ _ hc q _ => ⟨o.slots, ?_⟩) (fun c o _ q n => n)
    (fun c o hc q => ⟨o, ?_⟩) (fun c zs q => q) (fun c o zs q => q) (fun c ps q => ⟨#[], by rw [q]; simp⟩) (fun m hm => ?_) (fun c v' q => ?_) I.bare
   ·have hc : c = z ∨ c = TO ∨ c = i1 ∨ c = i2 := by simpa using hc
    have hm : c ∈ [z, TI, TO, i1, i2] := by rcases hc with rfl | rfl | rfl | rfl <;> simp
    obtain ⟨f0, f1, f2, f3, f4, f5⟩ := hf c hm
    exact ⟨f3, f1, f4, f5⟩
   ·obtain ⟨n1, n2, n3, n4⟩ := out c hc; exact eb c o n1 n2 n3 n4 q
   ·obtain ⟨n1, n2, n3, n4⟩ := out c hc; exact eb c o n1 n2 n3 n4 q
   ·obtain ⟨n1, n2, n3, n4⟩ := out c hc; exact eb c o n1 n2 n3 n4 q
   ·obtain ⟨o, es, ep, ho, r⟩ := hm
    exact ⟨o, es, ep, eb _ o (Ne.symm (hf z (by simp)).2.1) (Ne.symm (hf TO (by simp)).2.1) (Ne.symm (hf i1 (by simp)).2.1) (Ne.symm (hf i2 (by simp)).2.1) ho, r⟩
   ·refine (I.hok c v' q).stay (fun e w' he y' => eb e w' ?_ ?_ ?_ ?_ y') (fun d y' => y') fun d zs y' => y'
    all_goals
     rintro rfl
     have hz0 : H e = none := (hf e (by simp)).1
     rcases he with y' | y'
     ·rw [y', q] at hz0; cases hz0
     ·rw [hz0] at y'; cases y'
 self := fun _ _ _ _ _ st h => wpAny_pyIter_zip st.1 h
theorem zip_apart {N a b : Nat} (la : a < N) (lb : b < N) : ZipApart (N + 4) (N + 2) (N + 3) N (N + 1) a b := by
 constructor <;> (intro z; first | exact absurd (show (_ : Nat) = _ from z) (by omega) | omega)
variable {X : Cx}
noncomputable def iZip (K : PySem.W.Frag) (ta : TA) : TI := fun σ H R => ta σ H fun vs H1 => ∃ a b xs ys, vs = [.ref a, .ref b] ∧ SqL K H1 a xs ∧ SqL K H1 b ys ∧ R (Itz K a b) H1
theorem pi_zip {elts : List Expr} {x1 : Nat} {tpos p pos : Pos} {l m : Expr} {ta : TA} (hg : Gl X "zip") (hm : X.mg "zip" = none) (ha : PA X [l, m] ta) (hs : starEach [l, m] X.env = [(false, eval l X.env), (false, eval m X.env)] := by rfl) (hs2 : starEach [m] X.env = [(false, eval m X.env)] := by rfl) :
  PI X (.Tuple elts x1 tpos) (.Call (.Name "zip" p) [l, m] [] pos) (iZip X.K ta) := by
 intro pins s σ H R I h
 refine Call_ (ld_blt I hg hm boot_zip (PyProof.Rows.callWith_type1 (thn (ha pos pins s σ H _ I h) fun us s1 ⟨vs, H1, I1, r1, q1⟩ => ?_) (by rw [hs, hs2]) (by rw [hs2]; rfl)))
 obtain ⟨a, b, xs, ys, e, hqx, hqy, q⟩ := q1
 subst e
 obtain ⟨u, v, rfl, ru, rv⟩ := r1.two
 cases ru
 cases rv
 obtain ⟨itx, rvx, px, _⟩ := I1.list hqx
 obtain ⟨ity, rvy, py, _⟩ := I1.list hqy
 have la : a < s1.heap.objs.size := by obtain ⟨o, ho, _⟩ := px.isList; exact Heap.lt_size ho
 have lb : b < s1.heap.objs.size := by obtain ⟨o, ho, _⟩ := py.isList; exact Heap.lt_size ho
 refine call_zip_2 px.isList py.isList fun h' z1 z2 z3 z4 z5 z6 z7 => wpAny_pyIter_zip z1 ?_
 have I2 : Inv X pins σ H1 { s1 with heap := h' } := I1.kept (t' := s1.toks) z7
 generalize hN : s1.heap.objs.size = N at *
 refine ⟨N + 4, [N + 4, N + 2, N + 3, N, N + 1], _, _, H1, rfl, I2, turn_zip a b (N + 4) (N + 2) (N + 3) N (N + 1) (zip_apart la lb), ⟨z1, z2, ⟨_, _, z3⟩, z4, z5⟩, fun c hc => ?_, q⟩
 have hc : s1.heap.objs.size ≤ c := by
  have hc : c = N + 4 ∨ c = N + 2 ∨ c = N + 3 ∨ c = N ∨ c = N + 1 := by simpa using hc
  rw [hN]
  rcases hc with rfl | rfl | rfl | rfl | rfl
  ·exact Nat.le_add_right _ _
  ·exact Nat.le_add_right _ _
  ·exact Nat.le_add_right _ _
  ·exact Nat.le_refl _
  ·exact Nat.le_add_right _ _
 exact I1.fpOk hc (I1.hok.fresh hc)
theorem loop_zip {K : PySem.W.Frag} {a b : Addr} {xs ys : List V} {g : TG} {tt : TT} {tb : TB} {R : St → Hp → Prop} {σ : St} {H : Hp} (hlen : xs.length = ys.length) (Pv : Nat → St → Hp → Prop) (h0 : Pv 0 σ H) (hl : ∀ i σ H, i ≤ xs.length → Pv i σ H → SqL K H a xs ∧ SqL K H b ys)
  (hs : ∀ (i : Nat) x y σ H q, xs[i]? = some x → ys[i]? = some y → H q = none → Pv i σ H → g (.ref q) σ (upd H q (.tup [x, y])) fun σ2 H2 => tt σ2 H2 fun b H3 => if b = true then tb σ2 H3 (Pv (i + 1)) else Pv (i + 1) σ2 H3) (hd : ∀ σ H, Pv xs.length σ H → R σ H) : LoopR (Itz K a b) g tt tb R σ H := by
 refine ⟨fun i m σ H => m = xs.length - i ∧ i ≤ xs.length ∧ Pv i σ H, ⟨xs.length, by simp, Nat.zero_le _, h0⟩, ?_⟩
 rintro i m σ H ⟨rfl, hi, p⟩
 obtain ⟨q1, q2⟩ := hl i σ H hi p
 by_cases hlt : i < xs.length
 ·have hlt2 : i < ys.length := by omega
  refine .inr ⟨⟨xs, ys, xs[i], ys[i], q1, q2, by simp [hlt], by simp [hlt2]⟩, Pv (i + 1), fun σ' H' p' => ⟨xs.length - (i + 1), by omega, rfl, hlt, p'⟩, fun x H' y => ?_⟩
  obtain ⟨c, u, v, hn, e1, y1, y2, e2⟩ := y
  subst e1 e2
  exact hs i u v σ H c (y1 xs q1) (y2 ys q2) hn p
 ·have e : i = xs.length := by omega
  subst e
  exact .inl ⟨⟨xs, ys, q1, q2, .inl (Nat.le_refl _)⟩, hd σ H p⟩
end
end L2
set_option maxHeartbeats 4000000
namespace L2
open PySem PySem.Spec PyProof.Rows
section
variable {X : Cx} {tg : Expr}
theorem pg_tupK {pos : Pos} (K : PySem.W.Frag) {es : List Expr} {k : Nat} {t : TGs} {n : Nat} (hc : X.calm = true) (h : PGs X es t)
  (hn : (assignEach es X.env).length = n := by rfl) (hst : (assignEach es X.env).findIdx? (·.1) = none := by rfl) (hk : X.K = K := by rfl) : PG X (.Tuple es k pos) (gTup K n t) := hk ▸ pg_tup hc h hn hst
end
end L2
set_option maxHeartbeats 4000000
namespace KT
open PySem L2
noncomputable def mV : Option Nat → V
 | none => .non
 | some j => .int j
structure TD (M : List (Option Nat)) (ns : List Int) : Prop where
 n : ∃ n, 1 ≤ n ∧ n ≤ 40 ∧ M.length = 3 * n
 len : ns.length = M.length
 inv : ∀ (i j : Nat), M[i]? = some (some j) → M[j]? = some (some i) ∧ i ≠ j
 rng : ∀ (i : Nat) x, ns[i]? = some x → 0 ≤ x ∧ x ≤ 9999
 eqv : ∀ (i j : Nat) x, ns[i]? = some x → ns[j]? = some x → i = j ∨ M[i]? = some (some j)
 eqm : ∀ (i j : Nat), M[i]? = some (some j) → ns[j]? = ns[i]?
structure SewOk (N : Nat) (F : List Nat) (M : List (Option Nat)) : Prop where
 len : M.length = N
 nd : F.Nodup
 free : ∀ f ∈ F, f < N ∧ M[f]? = some none
 inv : ∀ (i j : Nat), M[i]? = some (some j) → M[j]? = some (some i) ∧ i ≠ j
theorem SewOk.start (N : Nat) : SewOk N (List.range N) (List.replicate N none) := by
 refine ⟨by simp, List.nodup_range, fun f hf => ?_, fun i j h => ?_⟩
 ·have h := List.mem_range.mp hf
  exact ⟨h, by rw [List.getElem?_replicate, if_pos h]⟩
 ·rw [List.getElem?_replicate] at h
  split at h <;> cases h
theorem SewOk.skip {N : Nat} {one : Nat} {F : List Nat} {M : List (Option Nat)} (h : SewOk N (one :: F) M) : SewOk N F M :=
 ⟨h.len, (List.nodup_cons.mp h.nd).2, fun f hf => h.free f (List.mem_cons_of_mem _ hf), h.inv⟩
theorem SewOk.pair {N : Nat} {one other k : Nat} {F : List Nat} {M : List (Option Nat)} (h : SewOk N (one :: F) M) (hk : F[k]? = some other) : SewOk N (F.eraseIdx k) ((M.set one (some other)).set other (some one)) := by
 obtain ⟨n1, n2⟩ := List.nodup_cons.mp h.nd
 have hm : other ∈ F := List.mem_of_getElem? hk
 have hne : one ≠ other := fun z => n1 (z ▸ hm)
 obtain ⟨h1, f1⟩ := h.free one List.mem_cons_self
 obtain ⟨h2, f2⟩ := h.free other (List.mem_cons_of_mem _ hm)
 have l1 : one < M.length := by rw [h.len]; exact h1
 have l2 : other < M.length := by rw [h.len]; exact h2
 have g1 : ((M.set one (some other)).set other (some one))[one]? = some (some other) := by
  rw [List.getElem?_set_ne (Ne.symm hne), List.getElem?_set_self l1]
 have g2 : ((M.set one (some other)).set other (some one))[other]? = some (some one) := by
  rw [List.getElem?_set_self (by rw [List.length_set]; exact l2)]
 have g3 : ∀ i, i ≠ one → i ≠ other → ((M.set one (some other)).set other (some one))[i]? = M[i]? := fun i a b => by
  rw [List.getElem?_set_ne (Ne.symm b), List.getElem?_set_ne (Ne.symm a)]
 refine ⟨by rw [List.length_set, List.length_set]; exact h.len, n2.sublist (List.eraseIdx_sublist F k), fun f hf => ?_, fun i j e => ?_⟩
 ·obtain ⟨i, hi, hik, e⟩ := List.mem_eraseIdx_iff_getElem.mp hf
  have fm : f ∈ F := e ▸ List.getElem_mem hi
  obtain ⟨a, b⟩ := h.free f (List.mem_cons_of_mem _ fm)
  have c1 : f ≠ one := fun z => n1 (z ▸ fm)
  have c2 : f ≠ other := fun z => by
   obtain ⟨hk', ek⟩ := List.getElem?_eq_some_iff.mp hk
   exact hik ((List.getElem_inj n2).mp (e.trans (z.trans ek.symm)))
  exact ⟨a, by rw [g3 f c1 c2]; exact b⟩
 ·by_cases c1 : i = one
  ·subst c1
   rw [g1] at e
   cases e
   exact ⟨g2, hne⟩
  ·by_cases c2 : i = other
   ·subst c2
    rw [g2] at e
    cases e
    exact ⟨g1, Ne.symm hne⟩
   ·rw [g3 i c1 c2] at e
    obtain ⟨a, b⟩ := h.inv i j e
    have d1 : j ≠ one := fun z => by rw [z, f1] at a; cases a
    have d2 : j ≠ other := fun z => by rw [z, f2] at a; cases a
    exact ⟨by rw [g3 j d1 d2]; exact a, b⟩
noncomputable def nm (s t : Int) (i : Nat) : Int := (s + t * i) % 10000
noncomputable def rep (M : List (Option Nat)) (i : Nat) : Nat := match M[i]? with
 | some (some j) => if j < i then j else i
 | _ => i
noncomputable def flat (M : List (Option Nat)) (s t : Int) : List Int := (List.range M.length).map fun i => nm s t (rep M i)
noncomputable def steps : List Int := [1, 3, 7, 9, 37, 1009, 3333, 9999]
theorem nm_d : ∀ t ∈ steps, ∀ d : Fin 42, t * ((d.val : Nat) : Int) % 10000 = 0 → d.val = 0 := by decide +kernel
theorem nm_inj {s t : Int} (ht : t ∈ steps) {i j : Nat} (hi : i < 42) (hj : j < 42) (h : nm s t i = nm s t j) : i = j := by
  have key : ∀ a b : Nat, b ≤ a → a < 42 → nm s t a = nm s t b → a = b := fun a b hab ha e => by
    have e2 := Int.emod_eq_emod_iff_emod_sub_eq_zero.mp e
    rw [Int.add_sub_add_left, ← Int.mul_sub, ← Int.natCast_sub hab] at e2
    have := nm_d t ht ⟨a - b, Nat.lt_of_le_of_lt (Nat.sub_le _ _) ha⟩ e2
    exact Nat.le_antisymm (Nat.sub_eq_zero_iff_le.mp this) hab
  rcases Nat.le_total i j with h' | h'
  · exact (key j i h' hj h.symm).symm
  · exact key i j h' hi h
theorem rep_lt {M : List (Option Nat)} {i N : Nat} (h : i < N) : rep M i < N := by
 unfold rep
 split
 ·split <;> omega
 ·exact h
theorem rep_cases (M : List (Option Nat)) (i : Nat) : rep M i = i ∨ (∃ j, M[i]? = some (some j) ∧ j < i ∧ rep M i = j) := by
 cases e : M[i]? with
 | none => exact .inl (by unfold rep; rw [e])
 | some o =>
  cases o with
  | none => exact .inl (by unfold rep; rw [e])
  | some j =>
   by_cases h : j < i
   ·exact .inr ⟨j, rfl, h, by unfold rep; rw [e]; exact if_pos h⟩
   ·exact .inl (by unfold rep; rw [e]; exact if_neg h)
theorem flat_get {M : List (Option Nat)} {s t : Int} {i : Nat} {x : Int} (h : (flat M s t)[i]? = some x) : i < M.length ∧ x = nm s t (rep M i) := by
 unfold flat at h
 rw [List.getElem?_map] at h
 by_cases hi : i < M.length
 ·rw [List.getElem?_range hi] at h
  exact ⟨hi, (Option.some.inj h).symm⟩
 ·rw [List.getElem?_eq_none (by simpa using hi)] at h
  cases h
theorem flat_at {M : List (Option Nat)} {s t : Int} {i : Nat} (hi : i < M.length) : (flat M s t)[i]? = some (nm s t (rep M i)) := by
 unfold flat
 rw [List.getElem?_map, List.getElem?_range hi]
 rfl
theorem td_flat {M : List (Option Nat)} {s t : Int} {n : Nat} (h1 : 1 ≤ n) (h2 : n ≤ 14) (hM : M.length = 3 * n) (hinv : ∀ (i j : Nat), M[i]? = some (some j) → M[j]? = some (some i) ∧ i ≠ j) (ht : t ∈ steps) : TD M (flat M s t) where
 n := ⟨n, h1, by omega, hM⟩
 len := by unfold flat; simp
 inv := hinv
 rng := fun i x h => by
  obtain ⟨_, rfl⟩ := flat_get h
  unfold nm
  omega
 eqv := fun i j x hi hj => by
  obtain ⟨li, ei⟩ := flat_get hi
  obtain ⟨lj, ej⟩ := flat_get hj
  have e : rep M i = rep M j := nm_inj ht (by have := rep_lt (M := M) li; omega) (by have := rep_lt (M := M) lj; omega) (ei.symm.trans ej)
  rcases rep_cases M i with a | ⟨a, ha, la, ra⟩
  ·rcases rep_cases M j with b | ⟨b, hb, lb, rb⟩
   ·exact .inl (a.symm.trans (e.trans b))
   ·have : b = i := by rw [← rb, ← e, a]
    subst this
    exact .inr (hinv j b hb).1
  ·rcases rep_cases M j with b | ⟨b, hb, lb, rb⟩
   ·have : a = j := by rw [← ra, e, b]
    subst this
    exact .inr ha
   ·have : a = b := by rw [← ra, e, rb]
    subst this
    have c1 := (hinv i a ha).1
    have c2 := (hinv j a hb).1
    rw [c1] at c2
    exact .inl (by cases c2; rfl)
 eqm := fun i j h => by
  obtain ⟨h', hne⟩ := hinv i j h
  have li : i < M.length := (List.getElem?_eq_some_iff.mp h).1
  have lj : j < M.length := (List.getElem?_eq_some_iff.mp h').1
  rw [flat_at li, flat_at lj]
  have e : rep M j = rep M i := by
   by_cases c : j < i
   ·have a : rep M i = j := by unfold rep; rw [h]; exact if_pos c
    have b : rep M j = j := by unfold rep; rw [h']; exact if_neg (by omega)
    rw [a, b]
   ·have a : rep M i = i := by unfold rep; rw [h]; exact if_neg c
    have b : rep M j = i := by unfold rep; rw [h']; exact if_pos (by omega)
    rw [a, b]
  rw [e]
end KT
set_option maxHeartbeats 4000000
namespace KT
open PySem L2
noncomputable def pl (ns : List Int) (n : Nat) (x : Int) : List Nat := (List.range n).filter fun i => decide (ns[i]? = some x)
noncomputable def keys (ns : List Int) : Nat → List Int
 | 0 => []
 | n + 1 => match ns[n]? with
  | some x => if x ∈ keys ns n then keys ns n else keys ns n ++ [x]
  | none => keys ns n
theorem pl_mem {ns : List Int} {n : Nat} {x : Int} {i : Nat} : i ∈ pl ns n x ↔ i < n ∧ ns[i]? = some x := by
 unfold pl
 rw [List.mem_filter, List.mem_range]
 simp
theorem pl_nodup (ns : List Int) (n : Nat) (x : Int) : (pl ns n x).Nodup := (List.nodup_range).sublist List.filter_sublist
theorem pl_sorted (ns : List Int) (n : Nat) (x : Int) : (pl ns n x).Pairwise (· < ·) := (List.pairwise_lt_range).sublist List.filter_sublist
theorem pl_same {ns : List Int} {n : Nat} {x : Int} (h : ns[n]? = some x) : pl ns (n + 1) x = pl ns n x ++ [n] := by
 unfold pl
 rw [List.range_succ, List.filter_append]
 congr 1
 simp [h]
theorem pl_other {ns : List Int} {n : Nat} {x : Int} (h : ns[n]? ≠ some x) : pl ns (n + 1) x = pl ns n x := by
 unfold pl
 rw [List.range_succ, List.filter_append]
 simp [h]
theorem keys_step {ns : List Int} {n : Nat} {x : Int} (h : ns[n]? = some x) : keys ns (n + 1) = if x ∈ keys ns n then keys ns n else keys ns n ++ [x] := by
 show (match ns[n]? with | some x => if x ∈ keys ns n then keys ns n else keys ns n ++ [x] | none => keys ns n) = _
 rw [h]
theorem keys_mem {ns : List Int} : ∀ {n : Nat} {x : Int}, x ∈ keys ns n ↔ ∃ i, i < n ∧ ns[i]? = some x
 | 0, x => by simp [keys]
 | n + 1, x => by
  have ih := keys_mem (ns := ns) (n := n) (x := x)
  have e : x ∈ keys ns (n + 1) ↔ x ∈ keys ns n ∨ ns[n]? = some x := by
   cases h : ns[n]? with
   | none =>
    have : keys ns (n + 1) = keys ns n := by
     show (match ns[n]? with | some x => if x ∈ keys ns n then keys ns n else keys ns n ++ [x] | none => keys ns n) = _
     rw [h]
    rw [this]; simp
   | some y =>
    rw [keys_step h]
    split
    ·constructor
     ·exact .inl
     ·rintro (z | z)
      ·exact z
      ·cases z; assumption
    ·rw [List.mem_append, List.mem_singleton]
     constructor
     ·rintro (z | z)
      ·exact .inl z
      ·exact .inr (by rw [z])
     ·rintro (z | z)
      ·exact .inl z
      ·exact .inr (by cases z; rfl)
  rw [e, ih]
  constructor
  ·rintro (⟨i, h1, h2⟩ | h)
   ·exact ⟨i, by omega, h2⟩
   ·exact ⟨n, by omega, h⟩
  ·rintro ⟨i, h1, h2⟩
   by_cases c : i = n
   ·subst c; exact .inr h2
   ·exact .inl ⟨i, by omega, h2⟩
theorem keys_nodup (ns : List Int) : ∀ n, (keys ns n).Nodup
 | 0 => List.nodup_nil
 | n + 1 => by
  have ih := keys_nodup ns n
  cases h : ns[n]? with
  | none =>
   have : keys ns (n + 1) = keys ns n := by
    show (match ns[n]? with | some x => if x ∈ keys ns n then keys ns n else keys ns n ++ [x] | none => keys ns n) = _
    rw [h]
   rw [this]; exact ih
  | some y =>
   rw [keys_step h]
   split
   ·exact ih
   ·rename_i c
    refine List.nodup_append.mpr ⟨ih, by simp, fun a ha b hb => ?_⟩
    rw [List.mem_singleton] at hb
    subst hb
    rintro rfl
    exact c ha
theorem keys_len (ns : List Int) : ∀ n, (keys ns n).length ≤ n
 | 0 => Nat.le_refl _
 | n + 1 => by
  have ih := keys_len ns n
  cases h : ns[n]? with
  | none =>
   have : keys ns (n + 1) = keys ns n := by
    show (match ns[n]? with | some x => if x ∈ keys ns n then keys ns n else keys ns n ++ [x] | none => keys ns n) = _
    rw [h]
   rw [this]; omega
  | some y =>
   rw [keys_step h]
   split
   ·omega
   ·rw [List.length_append, List.length_singleton]; omega
theorem pl_nil {ns : List Int} {n : Nat} {x : Int} (h : x ∉ keys ns n) : pl ns n x = [] := by
 cases e : pl ns n x with
 | nil => rfl
 | cons a r =>
  have : a ∈ pl ns n x := by rw [e]; exact List.mem_cons_self
  obtain ⟨h1, h2⟩ := pl_mem.mp this
  exact absurd (keys_mem.mpr ⟨a, h1, h2⟩) h
theorem pl_le2 {M : List (Option Nat)} {ns : List Int} (td : TD M ns) (n : Nat) (x : Int) : (pl ns n x).length ≤ 2 := by
 match e : pl ns n x with
 | [] => simp
 | [_] => simp
 | [_, _] => simp
 | a :: b :: c :: r =>
  exfalso
  have nd := pl_nodup ns n x
  rw [e] at nd
  have ha := (pl_mem.mp (show a ∈ pl ns n x by rw [e]; simp)).2
  have hb := (pl_mem.mp (show b ∈ pl ns n x by rw [e]; simp)).2
  have hc := (pl_mem.mp (show c ∈ pl ns n x by rw [e]; simp)).2
  simp only [List.nodup_cons, List.mem_cons, not_or] at nd
  obtain ⟨⟨n1, n2, _⟩, ⟨n3, _⟩, _⟩ := nd
  rcases td.eqv a b x ha hb with z | z
  ·exact n1 z
  ·rcases td.eqv a c x ha hc with y | y
   ·exact n2 y
   ·rw [z] at y
    cases y
    exact n3 rfl
theorem pl_cases {M : List (Option Nat)} {ns : List Int} (td : TD M ns) {x : Int} (hx : x ∈ keys ns ns.length) :
  (∃ a, pl ns ns.length x = [a] ∧ ns[a]? = some x ∧ M[a]? = some none) ∨ (∃ a b, a < b ∧ pl ns ns.length x = [a, b] ∧ ns[a]? = some x ∧ ns[b]? = some x ∧ M[a]? = some (some b) ∧ M[b]? = some (some a)) := by
 obtain ⟨i, h1, h2⟩ := keys_mem.mp hx
 have mi : i ∈ pl ns ns.length x := pl_mem.mpr ⟨h1, h2⟩
 have l2 := pl_le2 td ns.length x
 have st := pl_sorted ns ns.length x
 match e : pl ns ns.length x with
 | [] => rw [e] at mi; simp at mi
 | [a] =>
  obtain ⟨ga, ha⟩ := pl_mem.mp (show a ∈ pl ns ns.length x by rw [e]; simp)
  refine .inl ⟨a, rfl, ha, ?_⟩
  have la : a < M.length := by rw [← td.len]; exact ga
  cases q : M[a]? with
  | none => rw [List.getElem?_eq_none_iff] at q; omega
  | some o =>
   cases o with
   | none => rfl
   | some b =>
    exfalso
    have hb : ns[b]? = some x := by rw [td.eqm a b q]; exact ha
    have mb : b ∈ pl ns ns.length x := pl_mem.mpr ⟨(List.getElem?_eq_some_iff.mp hb).1, hb⟩
    rw [e, List.mem_singleton] at mb
    exact (td.inv a b q).2 mb.symm
 | [a, b] =>
  obtain ⟨ga, ha⟩ := pl_mem.mp (show a ∈ pl ns ns.length x by rw [e]; simp)
  obtain ⟨gb, hb⟩ := pl_mem.mp (show b ∈ pl ns ns.length x by rw [e]; simp)
  rw [e] at st
  have hab : a < b := by simpa using st
  rcases td.eqv a b x ha hb with z | z
  ·omega
  ·exact .inr ⟨a, b, hab, rfl, ha, hb, z, (td.inv a b z).1⟩
 | a :: b :: c :: r => rw [e] at l2; simp at l2
noncomputable def part (M : List (Option Nat)) (ns : List Int) (ks : List Int) : List (Option Nat) := (List.range M.length).map fun i => match ns[i]? with
 | some x => if x ∈ ks then M.getD i none else none
 | none => none
theorem part_len (M : List (Option Nat)) (ns ks : List Int) : (part M ns ks).length = M.length := by unfold part; simp
theorem part_get {M : List (Option Nat)} {ns ks : List Int} (td : TD M ns) {i : Nat} {x : Int} (h : ns[i]? = some x) : (part M ns ks)[i]? = some (if x ∈ ks then M.getD i none else none) := by
 have li : i < M.length := by rw [← td.len]; exact (List.getElem?_eq_some_iff.mp h).1
 unfold part
 rw [List.getElem?_map, List.getElem?_range li]
 simp [h]
theorem part_nil {M : List (Option Nat)} {ns : List Int} (td : TD M ns) : part M ns [] = List.replicate M.length none := by
 apply List.ext_getElem?
 intro i
 by_cases li : i < M.length
 ·obtain ⟨x, hx⟩ : ∃ x, ns[i]? = some x := ⟨_, List.getElem?_eq_getElem (by rw [td.len]; exact li)⟩
  rw [part_get td hx, List.getElem?_replicate, if_pos li]
  simp
 ·rw [List.getElem?_eq_none (by rw [part_len]; omega), List.getElem?_eq_none (by simp; omega)]
theorem part_all {M : List (Option Nat)} {ns : List Int} (td : TD M ns) : part M ns (keys ns ns.length) = M := by
 apply List.ext_getElem?
 intro i
 by_cases li : i < M.length
 ·have ln : i < ns.length := by rw [td.len]; exact li
  obtain ⟨x, hx⟩ : ∃ x, ns[i]? = some x := ⟨_, List.getElem?_eq_getElem ln⟩
  rw [part_get td hx, if_pos (keys_mem.mpr ⟨i, ln, hx⟩), List.getD_eq_getElem?_getD, List.getElem?_eq_getElem li]
  rfl
 ·rw [List.getElem?_eq_none (by rw [part_len]; omega), List.getElem?_eq_none (by omega)]
theorem part_rim {M : List (Option Nat)} {ns ks : List Int} (td : TD M ns) {x : Int} {a : Nat} (hp : pl ns ns.length x = [a]) (hm : M[a]? = some none) : part M ns (ks ++ [x]) = part M ns ks := by
 apply List.ext_getElem?
 intro i
 by_cases li : i < M.length
 ·have ln : i < ns.length := by rw [td.len]; exact li
  obtain ⟨y, hy⟩ : ∃ x, ns[i]? = some x := ⟨_, List.getElem?_eq_getElem ln⟩
  rw [part_get td hy, part_get td hy]
  by_cases c : y = x
  ·subst c
   have : i ∈ pl ns ns.length y := pl_mem.mpr ⟨ln, hy⟩
   rw [hp, List.mem_singleton] at this
   subst this
   have : M.getD i none = none := by rw [List.getD_eq_getElem?_getD, hm]; rfl
   rw [this]
   simp
  ·simp [c]
 ·rw [List.getElem?_eq_none (by rw [part_len]; omega), List.getElem?_eq_none (by rw [part_len]; omega)]
theorem part_sewn {M : List (Option Nat)} {ns ks : List Int} (td : TD M ns) {x : Int} {a b : Nat} (hp : pl ns ns.length x = [a, b]) (hab : a < b) (ha : M[a]? = some (some b)) (hb : M[b]? = some (some a)) :
  part M ns (ks ++ [x]) = ((part M ns ks).set a (some b)).set b (some a) := by
 have la : a < M.length := (List.getElem?_eq_some_iff.mp ha).1
 have lb : b < M.length := (List.getElem?_eq_some_iff.mp hb).1
 have na := (pl_mem.mp (show a ∈ pl ns ns.length x by rw [hp]; simp)).2
 have nb := (pl_mem.mp (show b ∈ pl ns ns.length x by rw [hp]; simp)).2
 apply List.ext_getElem?
 intro i
 by_cases li : i < M.length
 ·have ln : i < ns.length := by rw [td.len]; exact li
  obtain ⟨y, hy⟩ : ∃ x, ns[i]? = some x := ⟨_, List.getElem?_eq_getElem ln⟩
  rw [part_get td hy]
  by_cases cb : i = b
  ·subst cb
   rw [nb] at hy; cases hy
   rw [List.getElem?_set_self (by rw [List.length_set, part_len]; exact lb), if_pos (by simp), List.getD_eq_getElem?_getD, hb]
   rfl
  ·rw [List.getElem?_set_ne (Ne.symm cb)]
   by_cases ca : i = a
   ·subst ca
    rw [na] at hy; cases hy
    rw [List.getElem?_set_self (by rw [part_len]; exact la), if_pos (by simp), List.getD_eq_getElem?_getD, ha]
    rfl
   ·rw [List.getElem?_set_ne (Ne.symm ca), part_get td hy]
    have : y ≠ x := by
     rintro rfl
     have : i ∈ pl ns ns.length y := pl_mem.mpr ⟨ln, hy⟩
     rw [hp] at this
     simp at this
     omega
    simp [this]
 ·rw [List.getElem?_eq_none (by rw [part_len]; omega), List.getElem?_eq_none (by rw [List.length_set, List.length_set, part_len]; omega)]
end KT
set_option maxHeartbeats 4000000
namespace KT
open PySem L2
noncomputable def nV (i : Nat) : V := .int (i : Int)
theorem val_map {g : Int → V} {y : Int} : ∀ {ks : List Int}, valV (ks.map fun x => ((Sum.inl x : Key), g x)) (Sum.inl y) = if y ∈ ks then some (g y) else none
 | [] => by simp [valV]
 | k :: r => by
  have ih := val_map (g := g) (y := y) (ks := r)
  unfold valV at ih ⊢
  rw [List.map_cons, List.find?_cons]
  by_cases c : k = y
  ·subst c
   simp
  ·have : (decide ((Sum.inl k : Key) = Sum.inl y)) = false := by
    rw [decide_eq_false_iff_not]
    intro z
    cases z
    exact c rfl
   simp only [this]
   rw [ih]
   have : (y ∈ k :: r) ↔ y ∈ r := by
    rw [List.mem_cons]
    exact ⟨fun z => z.elim (fun w => absurd w.symm c) id, .inr⟩
   simp only [this]
theorem put_new {g : Int → V} {y : Int} {v : V} {ks : List Int} (h : y ∉ ks) : putK (ks.map fun x => ((Sum.inl x : Key), g x)) (Sum.inl y) v = (ks.map fun x => ((Sum.inl x : Key), g x)) ++ [(Sum.inl y, v)] := by
 unfold putK
 rw [if_neg]
 intro z
 rw [List.any_eq_true] at z
 obtain ⟨kv, h1, h2⟩ := z
 obtain ⟨x, hx, rfl⟩ := List.mem_map.mp h1
 have : (Sum.inl x : Key) = Sum.inl y := of_decide_eq_true h2
 cases this
 exact h hx
theorem put_old {g : Int → V} {y : Int} {v : V} {ks : List Int} (h : y ∈ ks) : putK (ks.map fun x => ((Sum.inl x : Key), g x)) (Sum.inl y) v = ks.map fun x => ((Sum.inl x : Key), if x = y then v else g x) := by
 unfold putK
 rw [if_pos]
 ·rw [List.map_map]
  apply List.map_congr_left
  intro x hx
  show (if (Sum.inl x : Key) = Sum.inl y then ((Sum.inl x : Key), v) else (Sum.inl x, g x)) = _
  by_cases c : x = y
  ·subst c; simp
  ·rw [if_neg (fun z => by cases z; exact c rfl), if_neg c]
 ·rw [List.any_eq_true]
  exact ⟨_, List.mem_map.mpr ⟨y, h, rfl⟩, by simp⟩
theorem map_at {α : Type} {f : α → V} {l : List α} {i : Nat} {x : α} (h : l[i]? = some x) : atI (l.map f) (i : Int) = some (f x) := atI_nat (by rw [List.getElem?_map, h]; rfl)
theorem upd_none {H : Hp} {p q : Addr} {o : HO} (h : upd H p o q = none) : q ≠ p ∧ H q = none := by
 by_cases c : q = p
 ·subst c; rw [upd_same] at h; cases h
 ·rw [upd_ne c] at h; exact ⟨c, h⟩
end KT
set_option maxHeartbeats 4000000
namespace KT
open PySem L2
noncomputable def after (p : Int) : Int := if p % 3 = 2 then p - 2 else p + 1
noncomputable def before (p : Int) : Int := if p % 3 = 0 then p + 2 else p - 1
noncomputable def fourL (left : Bool) (a b : Nat) : List Int := if left then [after a, before b, after b, before a] else [after a, before a, after b, before b]
noncomputable def mvI (left : Bool) (a b : Nat) (z : Int) : Int :=
 if z = after a then (if left then before b else before a) else if z = before b then (if left then after b else after a) else if z = after b then (if left then before a else before b) else if z = before a then (if left then after a else after b) else z
noncomputable def glV (left : Bool) (a b : Nat) : List (Key × V) := (fourL left a b).map fun x => ((Sum.inl x : Key), V.int (mvI left a b x))
theorem after_div (p : Nat) : after p / 3 = (p : Int) / 3 ∧ after p ≠ p ∧ 0 ≤ after p := by unfold after; split <;> omega
theorem before_div (p : Nat) : before p / 3 = (p : Int) / 3 ∧ before p ≠ p ∧ 0 ≤ before p := by unfold before; split <;> omega
theorem after_before (p : Nat) : after p ≠ before p := by unfold after before; split <;> split <;> omega
theorem four_apart {a b : Nat} (h : a / 3 ≠ b / 3) : after a ≠ before a ∧ after a ≠ after b ∧ after a ≠ before b ∧ before a ≠ after b ∧ before a ≠ before b ∧ after b ≠ before b := by
 obtain ⟨h1, _, _⟩ := after_div a
 obtain ⟨h2, _, _⟩ := before_div a
 obtain ⟨h3, _, _⟩ := after_div b
 obtain ⟨h4, _, _⟩ := before_div b
 have e : ¬ (a : Int) / 3 = (b : Int) / 3 := by omega
 refine ⟨after_before a, fun z => e ?_, fun z => e ?_, fun z => e ?_, fun z => e ?_, after_before b⟩
 ·rw [← h1, ← h3, z]
 ·rw [← h1, ← h4, z]
 ·rw [← h2, ← h3, z]
 ·rw [← h2, ← h4, z]
theorem mergeK_app : ∀ (kvs acc : List (Key × V)), ((acc ++ kvs).map (·.1)).Nodup → mergeK acc kvs = acc ++ kvs
 | [], acc, _ => by simp [mergeK]
 | kv :: r, acc, h => by
  have h1 : (acc.any fun x => decide (x.1 = kv.1)) = false := by
   rw [List.any_eq_false]
   intro x hx z
   have z : x.1 = kv.1 := of_decide_eq_true z
   rw [List.map_append, List.map_cons] at h
   have := (List.nodup_append.mp h).2.2 x.1 (List.mem_map.mpr ⟨x, hx, rfl⟩) kv.1 List.mem_cons_self
   exact this z
  have h2 : putK acc kv.1 kv.2 = acc ++ [kv] := by
   unfold putK
   rw [if_neg (by rw [h1]; decide)]
  show mergeK (putK acc kv.1 kv.2) r = _
  rw [h2, mergeK_app r (acc ++ [kv]) (by simpa using h)]
  simp
theorem merge_gl {left : Bool} {a b : Nat} (h : a / 3 ≠ b / 3) : mergeK [] (glV left a b) = glV left a b := by
 obtain ⟨h1, h2, h3, h4, h5, h6⟩ := four_apart h
 refine mergeK_app (glV left a b) [] ?_
 unfold glV fourL
 rw [List.nil_append, List.map_map]
 cases left <;> simp [h1, h2, h3, h4, h5, h6, Ne.symm h1, Ne.symm h2, Ne.symm h3, Ne.symm h4, Ne.symm h5, Ne.symm h6]
theorem glV_left {a b : Nat} (h : a / 3 ≠ b / 3) : glV true a b = [(Sum.inl (after a), .int (before b)), (Sum.inl (before b), .int (after b)), (Sum.inl (after b), .int (before a)), (Sum.inl (before a), .int (after a))] := by
 obtain ⟨h1, h2, h3, h4, h5, h6⟩ := four_apart h
 unfold glV fourL mvI
 simp [h1, h2, h3, h4, h5, h6, Ne.symm h1, Ne.symm h2, Ne.symm h3, Ne.symm h4, Ne.symm h5, Ne.symm h6]
theorem glV_right {a b : Nat} (h : a / 3 ≠ b / 3) : glV false a b = [(Sum.inl (after a), .int (before a)), (Sum.inl (before a), .int (after b)), (Sum.inl (after b), .int (before b)), (Sum.inl (before b), .int (after a))] := by
 obtain ⟨h1, h2, h3, h4, h5, h6⟩ := four_apart h
 unfold glV fourL mvI
 simp [h1, h2, h3, h4, h5, h6, Ne.symm h1, Ne.symm h2, Ne.symm h3, Ne.symm h4, Ne.symm h5, Ne.symm h6]
theorem val_gl {left : Bool} {a b : Nat} {z : Int} : (valV (glV left a b) (Sum.inl z)).getD (V.int z) = V.int (mvI left a b z) := by
 unfold glV
 rw [val_map]
 by_cases c : z ∈ fourL left a b
 ·rw [if_pos c]; rfl
 ·rw [if_neg c]
  have : mvI left a b z = z := by
   unfold mvI
   have n1 : ¬ z = after a := fun e => c (by unfold fourL; split <;> simp [e])
   have n2 : ¬ z = before b := fun e => c (by unfold fourL; split <;> simp [e])
   have n3 : ¬ z = after b := fun e => c (by unfold fourL; split <;> simp [e])
   have n4 : ¬ z = before a := fun e => c (by unfold fourL; split <;> simp [e])
   rw [if_neg n1, if_neg n2, if_neg n3, if_neg n4]
  rw [this]
  rfl
end KT
set_option maxHeartbeats 4000000
namespace KT
open PySem L2
noncomputable def mvN (left : Bool) (i j z : Nat) : Nat := (mvI left i j z).toNat
end KT
set_option maxHeartbeats 4000000
namespace KT
open PySem L2
end KT
set_option maxHeartbeats 4000000
namespace KT
open PySem L2
noncomputable def crossB (M : List (Option Nat)) (p : Int) : Bool := decide (0 ≤ p ∧ p < M.length) && (M.getD p.toNat none).isSome
noncomputable def followB (M : List (Option Nat)) (a p : Int) : Bool := match M.getD a.toNat none with
 | some m => decide (p / 3 = (m : Int) / 3) && !decide (p = (m : Int))
 | none => false
noncomputable def rot {α : Type} (ws : List α) (s : Nat) : List α := ws.drop s ++ ws.take s
noncomputable def pairB (M : List (Option Nat)) (ws vs : List Int) : List Bool := (ws.zip vs).map fun p => followB M p.1 p.2
noncomputable def plainB (M : List (Option Nat)) (ws : List Int) : Bool := !ws.isEmpty && ((ws.map (crossB M)).all id && (pairB M ws (rot ws (1 % ws.length))).all id)
theorem rot_len {α : Type} (ws : List α) {s : Nat} (h : s ≤ ws.length) : (rot ws s).length = ws.length := by
 unfold rot
 rw [List.length_append, List.length_drop, List.length_take]
 omega
end KT
set_option maxHeartbeats 4000000
namespace KT
open PySem L2
end KT
set_option maxHeartbeats 4000000
namespace L2
open PySem PySem.Spec PyProof.Rows
end L2
set_option maxHeartbeats 4000000
namespace L2
open PySem PySem.Spec PyProof.Rows
section
variable {X : Cx}
noncomputable def CDivB (i j : Int) : Prop := 0 < j ∧ j.natAbs.log2 < 9000
theorem op_fdivB : OpR X (binaryOp .FloorDiv) (rI CDivB fun i j => .int (i / j)) := opI fun i j _ _ _ _ _ hc q => by
 have h1 : (0 : Int) < j := hc.1
 exact floordiv_int (by omega) (by rw [Int.fdiv_eq_ediv_of_nonneg i (by omega)]; exact q) (.inl (PyProof.noPylong_of_log2 hc.2))
theorem log2_lt {j : Int} {k : Nat} (h : j.natAbs < 2 ^ k) (hk : 0 < k) : j.natAbs.log2 < k := by
 by_cases e : j.natAbs = 0
 ·rw [e]; simpa using hk
 ·exact (Nat.log2_lt e).mpr h
end
end L2
set_option maxHeartbeats 4000000
namespace HL
open PySem PyProof.Rows HT
end HL
set_option maxHeartbeats 4000000
namespace L2
open PySem PySem.Spec PyProof.Rows
end L2
namespace HT
end HT
set_option maxHeartbeats 4000000
namespace L2
open PySem PySem.Spec PyProof.Rows
end L2
set_option maxHeartbeats 4000000
namespace L2
open PySem PySem.Spec PyProof.Rows
section
variable {X : Cx} {pins : List (Addr × Obj)} {σ : St} {H : Hp} {s : Shared} {a : Addr} {y v : V} {u r : Value} {A : Around} {E : Value → Shared → Prop}
theorem d_set {kvs : List (Key × V)} {k : Key} {Q : Unit → Shared → Prop} (I : Inv X pins σ H s) (e : H a = some (.dK kvs)) (l : kvs.length < sizeLine) (ry : RelV (kV k) u) (rv : RelV v r) (h : ∀ s', Inv X pins σ (upd H a (.dK (putK kvs k v))) s' → Q () s') :
  wpAny (model X.prog X.w) A (dictSet a u r) Q E s := by
 obtain ⟨z, hd, vs, rel, dd⟩ := dk_of I.hok e
 have hz : vs.length ≤ sizeLine := by rw [← rel.length]; exact z
 have hl : (putK kvs k v).length ≤ sizeLine := by have := length_putK kvs k v; omega
 refine wpAny_dictSet_pairs (hsz := hz) (kV_is ry) dd fun h' dd' hs => h _ ?_
 have he : ∃ q, h'.get? a = some q := let ⟨q, _, _, hq, _⟩ := dd'; ⟨q, hq⟩
 exact d_write I (by rw [e]; exact True.intro) hs he (dk_new hl hd (rel.put k rv) dd')
end
noncomputable def tDEmit (tk tv : TE) (D : Addr) : TB := fun σ H N => tk σ H fun x H1 => tv σ H1 fun v H2 => ∃ kvs k, x = kV k ∧ H2 D = some (.dK kvs) ∧ kvs.length < sizeLine ∧ N σ (upd H2 D (.dK (putK kvs k v)))
section
variable {X : Cx}
theorem pb_demit {kx vx : Expr} {tk tv : TE} {D : Addr} {c : Code} {p : Pos} (hk : PE X kx tk) (hv : PE X vx tv) :
  PB X ((eval kx X.env >>= fun kv => holding [kv] (eval vx X.env) >>= fun vv => standAt p >>= fun _ => holding [kv, vv] (dictSet D kv vv)) >>= fun _ => again c) c (tDEmit tk tv D) := by
 intro pins s σ H N I h
 refine wpAny_bind (wpAny_bind (thn (hk pins s σ H _ I h) fun u s1 zz34 => ?_))
 obtain ⟨x, H1, I1, r1, q1⟩ := zz34
 refine wpAny_bind (wpAny_holding (thn (hv pins s1 σ H1 _ I1 q1) fun w s2 zz35 => ?_))
 obtain ⟨v, H2, I2, r2, q2⟩ := zz35
 refine wpAny_bind (wpAny_standAt (wpAny_holding ?_))
 obtain ⟨kvs, k, rfl, hD, hl, q⟩ := q2
 exact d_set I2 hD hl r1 r2 fun s3 I3 => wpAny_pure ⟨rfl, σ, _, I3, q⟩
end
noncomputable def tDComp (ts : List Str) (fv : List (Str × Nat)) (wi : TI) (g : TG) (tt : TT) (tb : Addr → TB) : TE := fun σ H Q => wi σ H fun J H1 => ∀ D, H1 D = none →
 LoopR J g tt (tb D) (fun _ H' => Q (.ref D) H') (blkS ts fv σ) (upd H1 D (.dK []))
section
variable {X : Cx} {ts : List Str} {fv : List (Str × Nat)} {scope : Scope} {kx vx t0 i0 : Expr} {f0 : List Expr} {rest : List Comprehension} {pos : Pos} {wi : TI} {g : TG} {tt : TT} {tb : Addr → TB} {kont : Env → Addr → Addr → Sem Fin}
theorem dcomp_core (B : BlkOk X scope fv) (hc : X.calm = true) (hi : PI X t0 i0 wi)
  (hg : ∀ C s₀ H₀ ex, PG (blkCx X (blkN ts fv) scope C s₀ H₀ ex) t0 g) (ht : ∀ C s₀ H₀ ex, PTs (blkCx X (blkN ts fv) scope C s₀ H₀ ex) f0 tt)
  (heq : ∀ (env : Env) (it D : Addr), compTurn (.DictComp kx vx (⟨t0, i0, f0, 0⟩ :: rest) scope pos) 0 (.ref it) (.ref D) env = (standAt i0.pos >>= fun _ => pyNext (.ref it) >>= fun r => match r with
   | none => pure (.done .next)
   | some v => letOwnedTupleGo t0 (.ref it) v >>= fun _ => assign t0 env v >>= fun _ =>
    (forIn f0 true fun c r => if r = true then do let ok ← isTrue c env (eval c env); pure (ForInStep.yield ok) else pure (ForInStep.yield r)) >>= fun ok =>
     if ok = true then kont env it D else again (.compLoop (.DictComp kx vx (⟨t0, i0, f0, 0⟩ :: rest) scope pos) 0 (.ref it) (.ref D) env)))
  (hb : ∀ C s₀ H₀ ex it D, PB (blkCx X (blkN ts fv) scope C s₀ H₀ ex) (kont (blkCx X (blkN ts fv) scope C s₀ H₀ ex).env it D) (.compLoop (.DictComp kx vx (⟨t0, i0, f0, 0⟩ :: rest) scope pos) 0 (.ref it) (.ref D) (blkCx X (blkN ts fv) scope C s₀ H₀ ex).env) (tb D))
  {pins : List (Addr × Obj)} {s : Shared} {σ : St} {H : Hp} {Q : VK} {RR : Value → Addr → Result → Shared → Prop} (I : Inv X pins σ H s) (h : tDComp ts fv wi g tt tb σ H Q)
  (hRR : ∀ D C s' H', Inv X pins σ H' s' → H' C = none → X.s₀.heap.objs.size ≤ C → C ≠ X.env.locals → (∀ x c, X.env.cells.lookup x = some c → c ≠ C) → (∀ p ∈ X.pn ++ pins, p.1 ≠ C) → (∃ m, s'.heap.Ns C m) → Q (.ref D) H' → RR (.ref D) C (.ok .next) s') :
  wpAny (model X.prog X.w) X.A (eval i0 X.env) (fun x s₁ => wpAny (model X.prog X.w) X.A (pyIter x) (fun it s₂ => wpAny (model X.prog X.w) X.A newDict (fun acc s₃ =>
   wpAny (model X.prog X.w) X.A (newFunctionEnv scope X.env.globals (cloList X.env scope.names []) [] X.env.qual none .none (some X.env)) (fun cenv s₄ =>
    codeAny (model X.prog X.w) X.A (.compStart (.DictComp kx vx (⟨t0, i0, f0, 0⟩ :: rest) scope pos) 0 it acc { cenv with scope := relabel scope X.env }) (RR acc cenv.locals) s₄) X.xe s₃) X.xe s₂) X.xe s₁) X.xe s := by
 refine thn (hi pins s σ H _ I h) fun v s1 h1 => thn h1 fun itv s2 h2 => ?_
 obtain ⟨it, fp, tn, J, H2, e, I2, T, st2, f2, L⟩ := h2
 subst e
 have L := L s2.heap.objs.size I2.fresh
 refine wpAny_newObj_type ?_
 have I3 : Inv X pins σ (upd H2 s2.heap.objs.size (.dK [])) { s2 with heap := s2.heap.push { cls := .type "dict", data := .dict #[] }, toks := s2.toks } := I2.laid (a := s2.heap.objs.size) (o := .dK []) (t' := s2.toks) (fun _ _ q => Heap.get?_push_of_some _ q) (Nat.le_refl _) (dk_empty s2.heap I2.big)
 have ho2 : ∀ b ∈ fp, ∃ o, s2.heap.get? b = some o ∧ ∀ v, o.data ≠ .cell v := T.obj _ _ st2
 have f3 : ∀ b ∈ fp, FpOk X pins (upd H2 s2.heap.objs.size (.dK [])) b := fun b hb => by
  obtain ⟨o, ho, _⟩ := ho2 b hb
  refine ⟨?_, (f2 b hb).2⟩
  rw [upd_ne (Nat.ne_of_lt (Heap.lt_size ho))]
  exact (f2 b hb).1
 have st3 : tn 0 (s2.heap.push { cls := .type "dict", data := .dict #[] }) := T.keep _ _ _ st2 fun b _ o e => Heap.get?_push_of_some _ e
 have ho3 : ∀ b ∈ fp, ∃ o, (s2.heap.push { cls := .type "dict", data := .dict #[] }).get? b = some o := fun b hb => let ⟨o, e, _⟩ := ho2 b hb; ⟨o, Heap.get?_push_of_some _ e⟩
 generalize hs3 : ({ s2 with heap := s2.heap.push { cls := .type "dict", data := .dict #[] }, toks := s2.toks } : Shared) = s3 at I3
 have eh : s2.heap.push { cls := .type "dict", data := .dict #[] } = s3.heap := by rw [← hs3]
 rw [eh] at st3 ho3
 refine wpAny_newFunctionEnv B.nocell (by intro y hy; simp at hy) (fun h₁ hns hsb => ?_) B.kind
 have hk : ∀ b o, s3.heap.get? b = some o → h₁.get? b = some o := fun b o e => hsb.extBut b o (Nat.ne_of_lt (Heap.lt_size e)) (Heap.get?_push_of_some _ e)
 have I4 := blk_start (ts := ts) (tk := s3.toks + ([] : List (Str × Value)).length) B I3 f3 ho3 hns hk
 have f4 : ∀ b ∈ fp, FpOk (blkCx X (blkN ts fv) scope s3.heap.objs.size s3 (upd H2 s2.heap.objs.size (.dK [])) fp) [] (upd H2 s2.heap.objs.size (.dK [])) b := fun b hb => by
  obtain ⟨f0, f1, f2', f3', f4', f5'⟩ := f3 b hb
  obtain ⟨o, eo⟩ := ho3 b hb
  exact ⟨f0, Nat.ne_of_lt (Heap.lt_size eo), I4.ok.exfs b hb, .inl hb, (I4.ok.exf b hb).2, fun p hp => absurd (show p ∈ ([] : List (Addr × Obj)) from hp) (by simp)⟩
 have st4 : tn 0 h₁ := T.keep _ _ _ st3 fun b _ o e => hk b o e
 have loop : codeAny (model X.prog X.w) X.A (.compLoop (.DictComp kx vx (⟨t0, i0, f0, 0⟩ :: rest) scope pos) 0 (.ref it) (.ref s2.heap.objs.size) (blkCx X (blkN ts fv) scope s3.heap.objs.size s3 (upd H2 s2.heap.objs.size (.dK [])) fp).env)
   (RR (.ref s2.heap.objs.size) s3.heap.objs.size) { s3 with heap := h₁, toks := s3.toks + ([] : List (Str × Value)).length } := by
  refine comp_loop (X := blkCx X (blkN ts fv) scope s3.heap.objs.size s3 (upd H2 s2.heap.objs.size (.dK [])) fp) (tg := t0) (ifs := f0) (R := fun _ H' => Q (.ref s2.heap.objs.size) H') rfl rfl rfl rfl (heq _ it s2.heap.objs.size) T hc (hg _ _ _ _) (ht _ _ _ _) (hb _ _ _ _ it s2.heap.objs.size) f4 I4 st4 L fun s' σ' H' J' q => ?_
  obtain ⟨e1, e2, e3, e4, e5, e6⟩ := blk_end I3 f3 (Nat.le_refl _) J'
  obtain ⟨m, hm, _⟩ := J'.loc
  exact hRR _ _ s' H' e1 e2 e3 e4 e5 e6 ⟨m, hm⟩ q
 exact codeAny_compStart_dict loop (T.self _ _ _ _ _ st4 loop)
theorem pe_dcompG (B : BlkOk X scope fv) (hc : X.calm = true) (hi : PI X t0 i0 wi)
  (hg : ∀ C s₀ H₀ ex, PG (blkCx X (blkN ts fv) scope C s₀ H₀ ex) t0 g) (ht : ∀ C s₀ H₀ ex, PTs (blkCx X (blkN ts fv) scope C s₀ H₀ ex) f0 tt)
  (heq : ∀ (env : Env) (it D : Addr), compTurn (.DictComp kx vx (⟨t0, i0, f0, 0⟩ :: rest) scope pos) 0 (.ref it) (.ref D) env = (standAt i0.pos >>= fun _ => pyNext (.ref it) >>= fun r => match r with
   | none => pure (.done .next)
   | some v => letOwnedTupleGo t0 (.ref it) v >>= fun _ => assign t0 env v >>= fun _ =>
    (forIn f0 true fun c r => if r = true then do let ok ← isTrue c env (eval c env); pure (ForInStep.yield ok) else pure (ForInStep.yield r)) >>= fun ok =>
     if ok = true then kont env it D else again (.compLoop (.DictComp kx vx (⟨t0, i0, f0, 0⟩ :: rest) scope pos) 0 (.ref it) (.ref D) env)))
  (hb : ∀ C s₀ H₀ ex it D, PB (blkCx X (blkN ts fv) scope C s₀ H₀ ex) (kont (blkCx X (blkN ts fv) scope C s₀ H₀ ex).env it D) (.compLoop (.DictComp kx vx (⟨t0, i0, f0, 0⟩ :: rest) scope pos) 0 (.ref it) (.ref D) (blkCx X (blkN ts fv) scope C s₀ H₀ ex).env) (tb D))
  (hs : ∀ x, foldedSetIterable i0 X.env x = pure x := by intro _; rfl) :
  PE X (.DictComp kx vx (⟨t0, i0, f0, 0⟩ :: rest) scope pos) (tDComp ts fv wi g tt tb) := by
 intro pins s σ H Q I h
 show wpAny _ X.A (comprehension (.DictComp kx vx (⟨t0, i0, f0, 0⟩ :: rest) scope pos) scope X.env _ newDict false (eval i0 X.env)) _ _ s
 refine wpAny_comprehension_free (use := none) rfl hs (closure_run fun y hy e => I.ok.has y.1 (B.free y hy e)) B.kind B.names ?_
 refine dcomp_core (RR := fun acc C => compPost (model X.prog X.w) X.A X.xe none (EP X pins σ Q) acc C) B hc hi hg ht heq hb I h fun D C s' H' I' e2 e3 e4 e5 e6 hm q => ?_
 obtain ⟨m, hm⟩ := hm
 exact ⟨m, hm, fun h' hs' => ⟨.ref D, H', I'.apart hs' e2 e3 e4 e5 e6, rfl, q⟩⟩
end
end L2
set_option maxHeartbeats 4000000
namespace L2
open PySem PySem.Spec PyProof.Rows
section
variable {X : Cx} {pins : List (Addr × Obj)} {σ : St} {H : Hp} {s : Shared} {a : Addr}
theorem Inv.thaw {kvs : List (Key × V)} {ob : Obj} (I : Inv X pins σ H s) (e : H a = some (.frz ob (.dK kvs))) (h0 : ∀ o u, X.H₀ a ≠ some (.frz o u)) : Inv X pins σ (upd H a (.dK kvs)) s := by
 have nown : ∀ c y, H c = some (.own y) → c ≠ a := fun c y r z => by subst z; rw [r] at e; cases e
 have ntup : ∀ c xs, H c = some (.tup xs) → c ≠ a := fun c xs r z => by subst z; rw [r] at e; cases e
 have nnon : ∀ c, H c = none → c ≠ a := fun c r z => by subst z; rw [r] at e; cases e
 have hok : HOk X.prog X.w (upd H a (.dK kvs)) s.heap := fun b v q => by
  have st : ∀ c w', ObjOk X.prog X.w H s.heap c w' → ObjOk X.prog X.w (upd H a (.dK kvs)) s.heap c w' := fun c w' x => x.stay (fun _ _ _ q => q) (fun d r => by rw [upd_ne (nown d c r)]; exact r) fun d xs r => by rw [upd_ne (ntup d xs r)]; exact r
  by_cases hb : b = a
  ·subst hb
   rw [upd_same] at q
   cases q
   exact st _ _ (I.hok _ _ e).2
  ·rw [upd_ne hb] at q
   exact st _ _ (I.hok b v q)
 refine ⟨I.ok, I.os, I.bare, ⟨I.base.keep, I.base.slot, fun b o q n hx => ?_, I.base.there, fun b xs q => ?_, fun b o u q => ?_, fun b ps q => ?_⟩, I.loc, I.cell, ?_, fun x c q => ?_, fun p hp => ?_, hok, I.len⟩
 ·have := I.base.free b o q n hx
  rw [upd_ne (nnon b this)]; exact this
 ·have := I.base.tups b xs q
  rw [upd_ne (ntup b xs this)]; exact this
 ·have := I.base.frzs b o u q
  rw [upd_ne (fun z => by subst z; exact h0 _ _ q)]; exact this
 ·obtain ⟨more, z⟩ := I.base.tbls b ps q
  exact ⟨more, by rw [upd_ne (fun w => by subst w; rw [z] at e; cases e)]; exact z⟩
 ·have := I.free
  rw [upd_ne (nnon _ this)]; exact this
 ·have := I.freeC x c q
  rw [upd_ne (nnon _ this)]; exact this
 ·obtain ⟨q1, q2, q3⟩ := I.pin p hp
  exact ⟨q1, by rw [upd_ne (nnon _ q2)]; exact q2, q3⟩
end
noncomputable def tThaw (H0 : Hp) (t : TS) : TS := fun D σ H => t { D with nx := fun σ' H' => ∃ (a : Addr) (o : Obj) (kvs : List (Key × V)), H' a = some (.frz o (.dK kvs)) ∧ (∀ o u, H0 a ≠ some (.frz o u)) ∧ D.nx σ' (upd H' a (.dK kvs)) } σ H
theorem ps_thaw {X : Cx} {st : Stmt} {t : TS} (h : PS X st t) : PS X st (tThaw X.H₀ t) := by
 intro pins s σ H D I hw
 refine wpAny_mono (h pins s σ H _ I hw) (fun f s' q => ?_) fun _ _ e => e
 cases f with
 | next =>
  obtain ⟨σ', H', I', a, o, kvs, e, h0, q⟩ := q
  exact ⟨σ', _, I'.thaw e h0, q⟩
 | ret v => exact q
 | brk => exact q
 | cont => exact q
end L2
set_option maxHeartbeats 4000000
namespace L2
open PySem PySem.Spec PyProof.Rows
end L2
namespace L2
open PySem PySem.Spec PyProof.Rows
end L2
set_option maxHeartbeats 4000000
namespace KT
open PySem L2
noncomputable def aftN (i : Nat) : Nat := if i % 3 = 2 then i - 2 else i + 1
noncomputable def nxC (M : List (Option Nat)) (c : Nat) : Option Nat := (M[aftN c]?).join
end KT
set_option maxHeartbeats 4000000
namespace KT
open PySem L2
end KT
set_option maxHeartbeats 4000000
namespace L2
open PySem PySem.Spec PyProof.Rows
section
variable {X : Cx} {xl : Value → Shared → Prop} {R0 : Value → St → Hp → Prop}
noncomputable def PSL (X : Cx) (xl : Value → Shared → Prop) (R0 : Value → St → Hp → Prop) (st : Stmt) (t : TSX) : Prop :=
 ∀ (pins : List (Addr × Obj)) (s : Shared) (σ : St) (H : Hp) (D : Ends), Inv X pins σ H s → t D R0 σ H → wpAny (model X.prog X.w) X.A (exec st X.env) (SP X pins D) xl s
noncomputable def PSsL (X : Cx) (xl : Value → Shared → Prop) (R0 : Value → St → Hp → Prop) (st : List Stmt) (t : TSX) : Prop :=
 ∀ (pins : List (Addr × Obj)) (s : Shared) (σ : St) (H : Hp) (D : Ends), Inv X pins σ H s → t D R0 σ H → wpAny (model X.prog X.w) X.A (execs st X.env) (SP X pins D) xl s
structure LV (X : Cx) (xl : Value → Shared → Prop) (R0 : Value → St → Hp → Prop) : Prop where
 lv : ∀ (pins : List (Addr × Obj)) (ev : Value) (s' : Shared), XS true X pins R0 ev s' → xl ev s'
 po : PassesOwn (model X.prog X.w) X.A X.env xl
theorem psl_of {st : Stmt} {t : TSX} (L : LV X xl R0) (h : PSX true X st t) : PSL X xl R0 st t := fun pins s σ H D I q =>
 wpAny_mono (h pins s σ H D R0 I q) (fun _ _ z => z) fun ev s' z => L.lv pins ev s' z
theorem pssl_cons {st : Stmt} {rest : List Stmt} {t u : TSX} (h1 : PSL X xl R0 st t) (h2 : PSsL X xl R0 rest u) : PSsL X xl R0 (st :: rest) (tSeqX t u) := by
 intro pins s σ H D I h
 refine wpAny_execs_cons (thn (h1 pins s σ H { D with nx := u D R0 } I h) fun f s1 q => ?_)
 cases f with
 | next =>
  obtain ⟨σ', H', I', q⟩ := q
  exact h2 pins s1 σ' H' D I' q
 | ret v => exact q
 | brk => exact q
 | cont => exact q
theorem pssl_one {st : Stmt} {t : TSX} (h1 : PSL X xl R0 st t) : PSsL X xl R0 [st] t := by
 intro pins s σ H D I h
 refine wpAny_execs_cons (thn (h1 pins s σ H D I h) fun f s1 q => ?_)
 cases f with
 | next => exact wpAny_execs_nil q
 | ret v => exact q
 | brk => exact q
 | cont => exact q
noncomputable def tForX (wi : TI) (g : TG) (tb : TSX) : TSX := fun D R σ H => tFor wi g (fun D' σ' H' => tb D' R σ' H') D σ H
theorem thnF {α : Type} {m : Sem α} {Q Q' : α → Shared → Prop} {s : Shared} (hx : X.xe = (fun _ _ => False)) (h : wpAny (model X.prog X.w) X.A m Q X.xe s) (k : ∀ a s1, Q a s1 → Q' a s1) : wpAny (model X.prog X.w) X.A m Q' xl s := by
 rw [hx] at h
 exact wpAny_mono h k fun _ _ z => z.elim
theorem psl_for {tg iter : Expr} {body : List Stmt} {wi : TI} {g : TG} {tb : TSX} {pos : Pos} (L : LV X xl R0) (hc : X.calm = true) (hi : PI X tg iter wi) (hg : PG X tg g) (hb : PSsL X xl R0 body tb)
  (hx : X.xe = (fun _ _ => False) := by rfl) (hs : ∀ x, foldedSetIterable iter X.env x = pure x := by intro _; rfl) : PSL X xl R0 (.For tg iter body [] pos) (tForX wi g tb) := by
 intro pins s σ H D I h
 have hp := L.po
 refine wpAny_For (thnF hx (hi pins s σ H _ I h) fun v s1 h1 => thnF hx h1 fun itv s2 h2 => ?_) hs
 obtain ⟨it, fp, tn, J, H2, e, I2, T, st2, f2, W, ⟨m0, w0⟩, turn⟩ := h2
 subst e
 have stat : ∀ {H' : Hp}, (∀ b ∈ fp, H' b = none) → ∀ b ∈ fp, FpOk X pins H' b := fun hn b hb => ⟨hn b hb, (f2 b hb).2⟩
 refine codeAny_forLoop_any (fun n s' => ∃ i σ' H', Inv X pins σ' H' s' ∧ tn i s'.heap ∧ (∀ b ∈ fp, H' b = none) ∧ W i n σ' H') ?_ m0 ⟨0, σ, H2, I2, st2, fun b hb => (f2 b hb).1, w0⟩
 rintro n s3 ⟨i, σ3, H3, I3, st3, fr3, w3⟩
 rcases turn i n σ3 H3 w3 with ⟨stop, qn⟩ | ⟨go, N, hN, step⟩
 ·refine wpAny_passesOwn hp (thn (T.done X rfl rfl rfl hc i pins s3 σ3 H3 xl I3 (stat fr3) st3 stop) fun r s4 ⟨hr, I4⟩ => ?_)
  subst hr
  exact wpAny_execs_nil ⟨σ3, H3, I4, qn⟩
 ·refine wpAny_passesOwn hp (thn (T.item X rfl rfl rfl hc i pins s3 σ3 H3 xl I3 (stat fr3) st3 go) fun r s4 ⟨u, hr, h4⟩ => ?_)
  subst hr
  refine wpAny_passesOwn hp (thn h4 fun _ s5 zz9 => ?_)
  obtain ⟨x, H5, I5, r5, y5, st5, fr5⟩ := zz9
  have I5' := I5.pinned (stat fr5) (T.obj _ _ st5)
  refine wpAny_passesOwn hp (thnF hx (hg _ s5 σ3 H5 x u _ I5' r5 (step x H5 y5)) fun _ s6 zz9 => ?_)
  obtain ⟨σ6, H6, I6, q6⟩ := zz9
  refine wpAny_passesOwn hp (thn (hb _ s6 σ6 H6 _ I6 q6) fun f s7 q7 => ?_)
  have again : ∀ {σ7 : St} {H7 : Hp}, Inv X (pins ++ pinsAt fp s5.heap) σ7 H7 s7 → N σ7 H7 → ∃ m, m < n ∧ ∃ i σ' H', Inv X pins σ' H' s7 ∧ tn i s7.heap ∧ (∀ b ∈ fp, H' b = none) ∧ W i m σ' H' := fun {σ7 H7} I7 n7 => by
   obtain ⟨m', hm, w7⟩ := hN σ7 H7 n7
   refine ⟨m', hm, i + 1, σ7, H7, I7.unpinned, T.keep _ _ _ st5 fun b hb o e => (I7.pin (b, o) (List.mem_append_right _ (List.mem_append_right _ (mem_pinsAt hb e)))).1, fun b hb => ?_, w7⟩
   obtain ⟨o, e, d⟩ := T.obj _ _ st5 b hb
   exact (I7.pin (b, o) (List.mem_append_right _ (List.mem_append_right _ (mem_pinsAt hb e)))).2.1
  cases f with
  | next => obtain ⟨σ7, H7, I7, n7⟩ := q7; exact again I7 n7
  | cont => obtain ⟨σ7, H7, I7, n7⟩ := q7; exact again I7 n7
  | brk => obtain ⟨σ7, H7, I7, q7⟩ := q7; exact ⟨σ7, H7, I7.unpinned, q7⟩
  | ret v => obtain ⟨x7, σ7, H7, I7, r7, q7⟩ := q7; exact ⟨x7, σ7, H7, I7.unpinned, r7, q7⟩
end
section
variable {P : Program} {w : World} {K : PySem.W.Frag} {mg : Str → Option Value} {base : Heap}
theorem Fun.okL {x qual : Str} {st : Stmt} {f : Addr} {fd : FuncData} {N ps : List Str} {k : Nat} {sp : Sp} (F : Fun K x qual st f fd) (S : FnScope N ps (defScope st)) (len : ∀ vs H Q E, sp vs H Q E → vs.length = ps.length)
  (hbody : ∀ (cdv : Value) (A : Around) (outer : List Env) (s : Shared) (H : Hp) (vs : List V) (Q : VK) (E : XK), Room k (A.deeper (envOfC qual (defScope st) s.heap.objs.size f cdv)) → sp vs H Q E →
   ∃ t, (∀ xl, LV (cxOf (CXr P w) P w K mg base N qual (defScope st) f cdv A outer s H E).nox xl (fun cls _ H' => E cls none H') → PSsL (cxOf (CXr P w) P w K mg base N qual (defScope st) f cdv A outer s H E).nox xl (fun cls _ H' => E cls none H') (defBody st) t) ∧ t { nx := fun _ H' => Q .non H', rt := Q } (fun cls _ H' => E cls none H') (start N vs) H) : FnOk P w K mg base (CXr P w) (k + 1) f fd ps sp := by
 obtain ⟨oc, od, kV, doc, pm, an, cdv, ct, osl, rfl, lk, hcd⟩ := F.ex
 refine fn_of lk hcd S len fun A outer s H vs Q E hr hsp => ?_
 obtain ⟨t, h, q⟩ := hbody cdv A outer s H vs Q E hr hsp
 refine ⟨fun D σ H' => t D (fun cls _ H'' => E cls none H'') σ H', fun pins s' σ' H' D I hD => ?_, q⟩
 refine wpAny_mono (h _ ⟨fun pins ev s'' z => leave_ok (fr := true) ?_, PassesOwn.leaving⟩ pins s' σ' H' D (I.wish _) hD) (fun _ _ z => z.unwish) fun ev s'' z => z
 obtain ⟨e, T, cls, a0, σ2, H2, h1, h2, h3, h4, h5, h7, h6⟩ := z
 exact ⟨e, T, cls, a0, σ2, H2, h1, h2.pins_of (fun p hp => absurd hp (by simp)), h3, h4.none, fun t ht => (h5 t ht).none, h7, h6⟩
end
section
noncomputable def Its (x : Str) : It :=
 ⟨fun i _ => i < x.cps.size, fun i H v H' => H' = H ∧ ∃ c, x.cps[i]? = some c ∧ v = .str ⟨#[c]⟩, fun i _ => x.cps.size ≤ i⟩
theorem turn_str {P : Program} {w : World} {K : PySem.W.Frag} {tg : Expr} (x : Str) (t : Tok) (it : Addr) : Turn P w K tg (Its x) [it] it (fun i h => h.IsStrIter it "str_ascii_iterator" x t i) where
 mem := by simp
 obj := fun i h st b hb => by
  have e : b = it := by simpa using hb
  subst e
  obtain ⟨o, e, c, d⟩ := st
  exact ⟨o, e, fun v z => by rw [d] at z; cases z⟩
 keep := fun i h h' st k => by
  obtain ⟨o, ho, r⟩ := st
  exact ⟨o, k it (by simp) o ho, r⟩
 item := by
  intro X hP hw hK hc i pins s σ H E I hf st hg
  subst hP hw hK
  have hg : i < x.cps.size := hg
  obtain ⟨f0, f1, f2, f3, f4, f5⟩ := hf it (by simp)
  have hx : x.cps[i]? = some x.cps[i] := by simp [hg]
  refine wpAny_pyNext_ascii_item st hx fun h' st' sb => ?_
  have I1 : Inv X pins σ H { s with heap := h', toks := s.toks + 1 } := I.turned (t' := s.toks + 1) (fun b o hb e => (sb.2 b hb).trans e) f0 f1 f3 f4 f5
  obtain ⟨o, e, c, d⟩ := id st'
  exact ⟨_, rfl, go_of (s := { s with heap := h', toks := s.toks + 1 }) e c d (by decide) ⟨.str ⟨#[x.cps[i]]⟩, H, I1, ⟨_, rfl⟩, ⟨rfl, _, hx, rfl⟩, st', fun b hb => (hf b hb).1⟩⟩
 done := by
  intro X hP hw hK hc i pins s σ H E I hf st hg
  subst hP hw hK
  have hg : x.cps.size ≤ i := hg
  obtain ⟨f0, f1, f2, f3, f4, f5⟩ := hf it (by simp)
  exact wpAny_pyNext_ascii_end (I.ok.hd hc) st (by simp [hg]) fun h' eb => ⟨rfl, I.turned (t' := s.toks) (fun b o hb e => eb b o hb e) f0 f1 f3 f4 f5⟩
 self := fun _ _ _ _ _ st h => wpAny_pyIter_striter_ascii st h
variable {X : Cx} {tg : Expr}
noncomputable def iStr (tl : TE) : TI := fun σ H R => tl σ H fun v H1 => ∃ x, v = .str x ∧ x.cps.all (· < 128) = true ∧ R (Its x) H1
theorem pi_str {l : Expr} {tl : TE} (hl : PE X l tl) : PI X tg l (iStr tl) := by
 intro pins s σ H R I h
 refine thn (hl pins s σ H _ I h) fun v s1 zz9 => ?_
 obtain ⟨x, H1, I1, r1, q1⟩ := zz9
 obtain ⟨x, e, ha, q⟩ := q1
 subst e
 obtain ⟨t, rfl⟩ := r1
 refine wpAny_pyIter_ascii ha ?_
 refine ⟨s1.heap.objs.size, [s1.heap.objs.size], _, _, H1, rfl, I1.kept (t' := s1.toks) fun b o e => Heap.get?_push_of_some _ e, turn_str x t _, ⟨_, Heap.get?_push_size _ rfl, rfl, rfl⟩, fun b hb => ?_, q⟩
 have e : b = s1.heap.objs.size := by simpa using hb
 subst e
 exact I1.fpOk (Nat.le_refl _) (I1.hok.fresh (Nat.le_refl _))
end
end L2
set_option maxHeartbeats 4000000
namespace L2
open PySem PySem.Spec PyProof.Rows
end L2
set_option maxHeartbeats 4000000
namespace L2
open PySem PySem.Spec PyProof.Rows PySem.SeqAt
end L2
set_option maxHeartbeats 4000000
namespace KT
open PySem L2
end KT
set_option maxHeartbeats 4000000
namespace KT
open PySem L2
end KT
set_option maxHeartbeats 4000000
namespace KT
open PySem L2
noncomputable def CH (R : Nat → Nat → Prop) (l : List Nat) : Prop := ∀ (k u v : Nat), l[k]? = some u → l[k + 1]? = some v → R u v
end KT
set_option maxHeartbeats 4000000
namespace KT
open PySem L2
end KT
set_option maxHeartbeats 4000000
namespace KT
open PySem L2
end KT
set_option maxHeartbeats 4000000
namespace KT
open PySem L2
end KT
set_option maxHeartbeats 4000000
namespace KT
open PySem L2
end KT
set_option maxHeartbeats 4000000
namespace KT
open PySem L2
end KT
set_option maxHeartbeats 4000000
namespace KT
open PySem L2
end KT
set_option maxHeartbeats 4000000
namespace L2
open PySem PySem.Spec PyProof.Rows PySem.SeqAt
section
variable {X : Cx}
theorem call_dictD : CallR X (.type "dict") (fun xs H Q => ∃ (d : Addr) (kvs : List (Key × V)), xs = [.ref d] ∧ Rd H d (.dK kvs) ∧ ∀ p, H p = none → Q (.ref p) (upd H p (.dK kvs))) := by
 intro pins s σ H xs us Q I r h
 obtain ⟨d, kvs, rfl, hd, q⟩ := h
 obtain ⟨u, rfl, ru⟩ := vals1 r
 obtain rfl : u = Value.ref d := ru
 obtain ⟨z, hsys, vs, rel, dd⟩ := dk_rd I.hok hd
 have hl : vs.length ≤ sizeLine := by rw [← rel.length]; exact z
 refine kt_call_dict hsys dd hl fun h' hD hsb => ?_
 have hk : ∀ b u, s.heap.get? b = some u → h'.get? b = some u := fun b u e => (hsb.2 b (Nat.ne_of_lt (Heap.lt_size e))).trans (Heap.get?_push_of_some _ e)
 refine ⟨.ref s.heap.objs.size, _, I.laid (a := s.heap.objs.size) (o := .dK kvs) (t' := s.toks) hk (Nat.le_refl _) ⟨z, ?_, vs, rel, hD⟩, rfl, q _ (I.hok.fresh (Nat.le_refl _))⟩
 exact (dk_empty (P := X.prog) (w := X.w) (H := H) s.heap I.big).2.1
theorem any_range (bs : List Bool) : ((List.range bs.length).any fun i => bs.getD i true) = bs.any id := by
 rw [Bool.eq_iff_iff, List.any_eq_true, List.any_eq_true]
 constructor
 ·rintro ⟨i, hi, h⟩
  have hi := List.mem_range.mp hi
  rw [List.getD_eq_getElem?_getD, List.getElem?_eq_getElem hi] at h
  exact ⟨_, List.getElem_mem hi, h⟩
 ·rintro ⟨b, hb, h⟩
  obtain ⟨i, hi, rfl⟩ := List.mem_iff_getElem.mp hb
  exact ⟨i, List.mem_range.mpr hi, by rw [List.getD_eq_getElem?_getD, List.getElem?_eq_getElem hi]; exact h⟩
theorem call_anyB (hc : X.calm = true) : CallR X (.builtin "any") (fun xs H Q => ∃ p bs, xs = [.ref p] ∧ SqL X.K H p (List.map V.bl bs) ∧ Q (.bl (bs.any id)) H) := by
 intro pins s σ H xs us Q I r h
 obtain ⟨p, bs, rfl, hq, q⟩ := h
 obtain ⟨u, rfl, ru⟩ := vals1 r
 cases ru
 obtain ⟨its, rv, pl, hz⟩ := I.list hq
 have ne : p ≠ s.heap.objs.size := by obtain ⟨o, ho, _⟩ := pl.isList; exact Nat.ne_of_lt (Heap.lt_size ho)
 refine call_any_walk (wpAny_pyIter_list pl.isList ⟨s.heap.objs.size, _, _, _, _, _, fun i => bs.getD i true, rfl, Walks.list (A := X.A.in1) (show X.A.in1.handled = none from I.ok.hd hc) s.heap.objs.size p ne its.toArray, ⟨⟨_, Heap.get?_push_size _ rfl, rfl, rfl⟩, pl.isList.push _⟩, ?_, ?_⟩)
 ·intro i v s' Q' E' hv hq'
  have hv : its[i]? = some v := by simpa using hv
  have hlen := rv.length
  rw [List.length_map] at hlen
  have hi : i < bs.length := by have := (List.getElem?_eq_some_iff.mp hv).1; omega
  obtain ⟨u, hu, ru⟩ := rv.get (show (bs.map V.bl)[i]? = some (V.bl bs[i]) by rw [List.getElem?_map, List.getElem?_eq_getElem hi]; rfl)
  rw [hv] at hu
  cases hu
  cases ru
  have e : bs.getD i true = bs[i] := by rw [List.getD_eq_getElem?_getD, List.getElem?_eq_getElem hi]; rfl
  refine wpAny_truthy_bool ?_
  have hq' : Q' (bs.getD i true) s' := hq'
  rw [e] at hq'
  exact hq'
 ·intro h' tk hk
  have I1 : Inv X pins σ H { s with heap := h', toks := tk } := I.kept fun b o e => hk b o (fun z => absurd (Heap.lt_size e) (by rw [List.mem_singleton.mp z]; exact Nat.lt_irrefl _)) (Heap.get?_push_of_some _ e)
  have hlen : its.toArray.size = bs.length := by have := rv.length; rw [List.length_map] at this; simp; omega
  refine ⟨.bl (bs.any id), H, I1, ?_, q⟩
  show Value.bool _ = _
  rw [hlen, any_range]
theorem sum_pre (ns : List Int) : ∀ k, k ≤ ns.length → preSum (fun i => ns.getD i 0) k = (ns.take k).sum
 | 0, _ => by simp [preSum]
 | k + 1, h => by
  rw [preSum, sum_pre ns k (by omega), List.take_add_one, List.getElem?_eq_getElem (by omega), List.sum_append, List.getD_eq_getElem?_getD, List.getElem?_eq_getElem (by omega)]
  simp
theorem int_walk {pins : List (Addr × Obj)} {σ : St} {H : Hp} {s : Shared} {ns : List Int} {its : List Value} (rv : Vals (ns.map V.int) its) : ∀ (i : Nat) (v : Value), its.toArray[i]? = some v → ∃ t, v = .int (ns.getD i 0) t := fun i v hv => by
 have hv : its[i]? = some v := by simpa using hv
 have hlen := rv.length
 rw [List.length_map] at hlen
 have hi : i < ns.length := by have := (List.getElem?_eq_some_iff.mp hv).1; omega
 obtain ⟨u, hu, ru⟩ := rv.get (show (ns.map V.int)[i]? = some (V.int ns[i]) by rw [List.getElem?_map, List.getElem?_eq_getElem hi]; rfl)
 rw [hv] at hu
 cases hu
 obtain ⟨t, rfl⟩ := ru
 exact ⟨t, by rw [List.getD_eq_getElem?_getD, List.getElem?_eq_getElem hi]; rfl⟩
theorem call_sumL (hc : X.calm = true) : CallR X (.builtin "sum") (fun xs H Q => ∃ (p : Addr) (ns : List Int), xs = [.ref p] ∧ SqL X.K H p (ns.map V.int) ∧ Q (.int ns.sum) H) := by
 intro pins s σ H xs us Q I r h
 obtain ⟨p, ns, rfl, hq, q⟩ := h
 obtain ⟨u, rfl, ru⟩ := vals1 r
 cases ru
 obtain ⟨its, rv, pl, hz⟩ := I.list hq
 have lt : p < s.heap.objs.size := by obtain ⟨o, ho, _⟩ := pl.isList; exact Heap.lt_size ho
 have hlen : its.toArray.size = ns.length := by have := rv.length; rw [List.length_map] at this; simp; omega
 refine call_sum_walkG (wpAny_pyIter_list pl.isList ⟨s.heap.objs.size, _, _, _, _, _, fun i => ns.getD i 0, rfl, Walks.list (A := X.A.in1) (show X.A.in1.handled = none from I.ok.hd hc) s.heap.objs.size p (Nat.ne_of_lt lt) its.toArray, ⟨⟨_, Heap.get?_push_size _ rfl, rfl, rfl⟩, pl.isList.push _⟩, ?_, int_walk (pins := pins) (σ := σ) (H := H) (s := s) rv, ?_⟩)
 ·intro b hb
  show b < (s.heap.push _).objs.size
  rw [Heap.size_push]
  rcases List.mem_cons.mp hb with rfl | hb
  ·exact Nat.lt_succ_self _
  ·rw [List.mem_singleton.mp hb]; exact Nat.lt_succ_of_lt lt
 ·intro h' tk t' hk
  have I1 : Inv X pins σ H { s with heap := h', toks := tk } := I.kept fun b o e => hk b o (fun z => absurd (Heap.lt_size e) (by rw [List.mem_singleton.mp z]; exact Nat.lt_irrefl _)) (Heap.get?_push_of_some _ e)
  refine ⟨.int ns.sum, H, I1, ⟨t', ?_⟩, q⟩
  rw [hlen, sum_pre ns _ (Nat.le_refl _), List.take_length]
theorem call_sumLK (K : PySem.W.Frag) (hc : X.calm = true) (h : X.K = K := by rfl) : CallR X (.builtin "sum") (fun xs H Q => ∃ (p : Addr) (ns : List Int), xs = [.ref p] ∧ SqL K H p (ns.map V.int) ∧ Q (.int ns.sum) H) := h ▸ call_sumL hc
end
end L2
set_option maxHeartbeats 4000000
namespace L2
open PySem PySem.Spec PyProof.Rows
noncomputable abbrev TBX := St → Hp → (St → Hp → Prop) → XK → Prop
end L2
set_option maxHeartbeats 4000000
namespace L2
open PySem PySem.Spec PyProof.Rows
end L2
set_option maxHeartbeats 4000000
namespace HL
open PySem PyProof.Rows HT
end HL
namespace L2
open PySem PySem.Spec PyProof.Rows
end L2
set_option maxHeartbeats 4000000
namespace KT
open PySem L2
noncomputable def aN (a : Nat) : Nat := (after a).toNat
noncomputable def bN (a : Nat) : Nat := (before a).toNat
structure PC (M : List (Option Nat)) (f : Nat → Int) : Prop where
 nn : ∀ p, p < M.length → 0 ≤ f p
 rim : ∀ p : Nat, M[p]? = some none → f p = 0
 mate : ∀ p q : Nat, M[p]? = some (some q) → f q = f p
 even : ∀ p, p < M.length → (f p + f (aN p) + f (bN p)) % 2 = 0
 tri : ∀ p, p < M.length → f p ≤ f (aN p) + f (bN p)
noncomputable def mx (x y : Int) : Int := if y > x then y else x
noncomputable def bh (f : Nat → Int) (a b : Nat) : Int := mx (f (aN a) + f (aN b)) (f (bN a) + f (bN b)) - f a
noncomputable def fx (left : Bool) (a b : Nat) (f : Nat → Int) (z : Nat) : Int := if z = a ∨ z = b then bh f a b else f (mvN (!left) a b z)
end KT
set_option maxHeartbeats 4000000
namespace KT
open PySem L2
end KT
set_option maxHeartbeats 4000000
namespace KT
open PySem L2
end KT
set_option maxHeartbeats 4000000
namespace KT
open PySem L2
end KT
set_option maxHeartbeats 4000000
namespace KT
open PySem L2
section
variable {M : List (Option Nat)} {ns : List Int} {f : Nat → Int} {g : Int → Int}
noncomputable def mu (M : List (Option Nat)) (p : Nat) : Nat := match (M[p]?).join with
 | some q => q
 | none => p
end
end KT
set_option maxHeartbeats 4000000
namespace L2
open PySem PySem.Spec PyProof.Rows
end L2
set_option maxHeartbeats 4000000
namespace L2
open PySem PySem.Spec PyProof.Rows
end L2
set_option maxHeartbeats 4000000
namespace L2
open PySem PySem.Spec PyProof.Rows
end L2
set_option maxHeartbeats 4000000
namespace L2
open PySem PySem.Spec PyProof.Rows
end L2
set_option maxHeartbeats 4000000
namespace PySem.F
end PySem.F
namespace L2
open PySem PySem.Spec PyProof.Rows
end L2
set_option maxHeartbeats 4000000
namespace L2
open PySem PySem.Spec PyProof.Rows
end L2
set_option maxHeartbeats 4000000
namespace L2
open PySem PySem.Spec PyProof.Rows
noncomputable def dd (ks : List Int) : List Int := ks.foldl step_dedup []
end L2
set_option maxHeartbeats 4000000
namespace L2
open PySem PySem.Spec PyProof.Rows
end L2
set_option maxHeartbeats 4000000
namespace L2
open PySem PySem.Spec PyProof.Rows
end L2
set_option maxHeartbeats 4000000
namespace KT
noncomputable def lowN (m n : Nat) : Nat × Nat := (m / Nat.gcd m n, n / Nat.gcd m n)
noncomputable def putG (g : Int → Nat × Nat) (x : Int) (v : Nat × Nat) : Int → Nat × Nat := fun y => if y = x then v else g y
end KT
set_option maxHeartbeats 4000000
namespace KT
open PySem L2
section
variable {M : List (Option Nat)} {ns : List Int} {x y : Int} {a b : Nat}
noncomputable def SwN (M : List (Option Nat)) (ns : List Int) (x : Int) : Prop := ∃ p j : Nat, M[p]? = some (some j) ∧ ns[p]? = some x
structure SwK (M : List (Option Nat)) (ns : List Int) (ks : List Int) : Prop where
 nd : ks.Nodup
 mem : ∀ x, x ∈ ks ↔ SwN M ns x
theorem SwN.key (td : TD M ns) (h : SwN M ns x) : x ∈ keys ns ns.length := by
 obtain ⟨p, j, _, e⟩ := h
 exact keys_mem.mpr ⟨p, (List.getElem?_eq_some_iff.mp e).1, e⟩
end
end KT
set_option maxHeartbeats 4000000
namespace L2
open PySem PySem.Spec PyProof.Rows
end L2
set_option maxHeartbeats 4000000
namespace L2
open PySem PySem.Spec PyProof.Rows
section
variable {X : Cx}
noncomputable abbrev THs := Value → TS
noncomputable def PHs (X : Cx) (hs : List ExceptHandler) (t : THs) : Prop :=
 ∀ (pins : List (Addr × Obj)) (s : Shared) (σ : St) (H : Hp) (D : Ends) (e T : Addr) (cls a0 : Value) (h' : Heap), Inv X pins σ H s → FxOk X pins H e → FxOk X pins H T →
  Heap.FlyingW (PySem.W.hideAll s.heap (e :: T :: frs X.stack)) X.stack e cls a0 h' → s.heap.UpToSlots h' → t cls D σ H → wpAny (model X.prog X.w) X.A (handleBy (.ref e) X.env hs) (SP X pins D) X.xe { s with heap := h' }
theorem hs_off {hs : List ExceptHandler} : PHs X hs (fun _ _ _ _ => False) := fun _ _ _ _ _ _ _ _ _ _ _ _ _ _ _ z => z.elim
theorem hs_cons {b₀ : Stmt} {suite : List Stmt} {x : Str} {np hpos : Pos} {rest : List ExceptHandler} {ts : TS} {tr : THs} {C : Addr} (hg : Gl X x) (hm : X.mg x = some (.ref C)) (hs : ∀ e, PSs (hndCx X e) (b₀ :: suite) ts) (hr : PHs X rest tr)
  (hex : X.ex = [] := by rfl) (hx : X.xe = (fun _ _ => False) := by rfl) (hdb : (x == ("__debug__" : Str)) = false := by decide) :
  PHs X (.ExceptHandler (some (.Name x np)) none (b₀ :: suite) hpos :: rest) (fun cls D σ H => ∃ b, PySem.W.exmOne X.K cls (.ref C) = some b ∧ if b = true then ts D σ H else tr cls D σ H) := by
 intro pins s σ H D e T cls a0 h' I fe fT hheld hsm q
 obtain ⟨b, hb, q⟩ := q
 have I5 : Inv X pins σ H { s with heap := h' } := I.flown hex fe fT hheld.1 hsm
 obtain ⟨ob, hob, hobc⟩ := hheld.there
 refine wpAny_handleBy_cons (codeAny_handlers_test (ld_glob (X := hndCx X e) (I5.hnd e) hg hm ?_ hdb)) (by intro q; cases q)
 have LT : PySem.W.Looks (model X.prog X.w) h' (typeOf (.ref e)) cls := by
  have : PySem.W.Looks (model X.prog X.w) h' (typeOf (.ref e)) ob.cls := (PySem.W.Looks.ld hob).andThen .now
  rw [hobc] at this
  exact this
 refine (PySem.W.exm_one I5.kIn LT hb).here ?_
 cases b with
 | false => exact hr pins s σ H D e T cls a0 h' I fe fT hheld hsm q
 | true =>
  refine codeAny_handlers_suite ?_
  refine lands_againW hheld fun h₆ hfl₆ hsm₆ => ?_
  have I6 : Inv X pins σ H { s with heap := h₆ } := I.flown hex fe fT hfl₆.1 (hsm.trans hsm₆)
  have h6 := hs e pins _ σ H D (I6.hnd e) q
  have hxe : (hndCx X e).xe = fun _ _ => False := hx
  rw [hxe] at h6
  refine wpAny_mono h6 (fun f s2 q2 => ?_) fun _ _ z => z.elim
  exact q2.unhnd I6.ok
noncomputable def tTryN (tb : TSX) (th : THs) : TS := fun D σ H => tb D (fun cls σ' H' => th cls D σ' H') σ H
theorem ps_tryN {body : List Stmt} {h₀ : ExceptHandler} {hs : List ExceptHandler} {pos : Pos} {tb : TSX} {th : THs} (hb : PSsX false X body tb) (hh : PHs X (h₀ :: hs) th)
  (hex : X.ex = [] := by rfl) (hstk : ∃ o, X.stack = X.env :: o := by exact ⟨_, rfl⟩) (hfr : X.env.frame = some X.env.locals := by rfl) :
  PS X (.Try body (h₀ :: hs) [] [] pos) (tTryN tb th) := by
 intro pins s σ H D I h
 obtain ⟨outer, hstk⟩ := hstk
 refine wpAny_Try_except (wpAny_mono (hb pins s σ H D _ I h) (fun f s1 q => ?_) ?_)
 ·cases f with
  | next => exact wpAny_execs_nil q
  | ret v => exact q
  | brk => exact q
  | cont => exact q
 ·rintro ev s1 ⟨e, T, cls, a0, σ1, H1, rfl, I1, hx1, fe, fT, hT, q⟩
  obtain ⟨T, rfl⟩ : ∃ t, T = some t := by
   cases T with
   | none => exact absurd (hT rfl) Bool.false_ne_true
   | some t => exact ⟨t, rfl⟩
  have fT := fT T rfl
  have hf1 := fly_of I1 hx1
  have hA : X.A.frames = some (X.env :: outer) := by rw [I.ok.frames, hstk]
  have hf1' : Heap.FlyingW (PySem.W.hideAll s1.heap (e :: T :: frs X.stack)) (X.env :: outer) e cls a0 s1.heap := by
   have := hf1
   generalize PySem.W.hideAll s1.heap (e :: T :: frs X.stack) = B at this ⊢
   rw [hstk] at this
   exact this
  refine wpAny_looks_onW hA hfr hf1' fun h₄ hheld₄ hsm₄ => ?_
  refine wpAny_landsW hheld₄ fun h₅ hheld hsm₅' => ?_
  refine hh pins s1 σ1 H1 D e T cls a0 h₅ I1 fe fT ?_ (hsm₄.trans hsm₅') q
  generalize PySem.W.hideAll s1.heap (e :: T :: frs X.stack) = B at hheld ⊢
  rw [hstk]
  exact hheld
end
end L2
set_option maxHeartbeats 4000000
namespace L2
open PySem PySem.Spec PyProof.Rows
theorem FnOk.or {P : Program} {w : World} {K : PySem.W.Frag} {mg : Str → Option Value} {base : Heap} {CX : CXT} {k : Nat} {f : Addr} {fd : FuncData} {ps : List Str} {sp sp' : Sp} (F : FnOk P w K mg base CX k f fd ps sp) (G : FnOk P w K mg base CX k f fd ps sp') :
  FnOk P w K mg base CX k f fd ps (fun vs H Q E => sp vs H Q E ∨ sp' vs H Q E) :=
 ⟨fun vs H Q E q => q.elim (F.len vs H Q E) (G.len vs H Q E), fun A outer s H args us vs Q E hr he hb hv hs => hs.elim (F.run A outer s H args us vs Q E hr he hb hv) (G.run A outer s H args us vs Q E hr he hb hv)⟩
end L2
set_option maxHeartbeats 4000000
namespace L2
open PySem PySem.Spec PyProof.Rows
end L2
set_option maxHeartbeats 400000
namespace L2
open PySem PySem.Spec PyProof.Rows
end L2
set_option maxHeartbeats 1000000
namespace L2
open PySem PySem.Spec PyProof.Rows
end L2
set_option maxHeartbeats 1000000
namespace L2
open PySem PySem.Spec PyProof.Rows
end L2
set_option maxHeartbeats 4000000
namespace L2
open PySem PySem.Spec PyProof.Rows
end L2
set_option maxHeartbeats 4000000
namespace L2
open PySem PySem.Spec PyProof.Rows
end L2
set_option maxHeartbeats 4000000
namespace L2
open PySem PySem.Spec PyProof.Rows
section
variable {X : Cx}
theorem op_inS : OpR X (compareOp .In) (fun x y H Q => ∃ a b, x = .str a ∧ y = .str b ∧ Q (.bl (Txt.contains b a)) H) := by
 intro pins s σ H x y v u Q I rx ry h
 obtain ⟨a, b, rfl, rfl, q⟩ := h
 obtain ⟨t, rfl⟩ := rx
 obtain ⟨t', rfl⟩ := ry
 exact PySem.SB.contains ⟨.bl _, H, I, rfl, q⟩
end
end L2
set_option maxHeartbeats 4000000
namespace L2
open PySem PySem.Spec PyProof.Rows
section
variable {X : Cx}
noncomputable def Asc (x : Str) : Prop := ∀ c ∈ x.cps.toList, c < 128
theorem Asc.all {x : Str} (h : Asc x) : x.cps.all (· < 128) = true := by
 rw [← Array.all_toList, List.all_eq_true]
 exact fun c hc => decide_eq_true (h c hc)
end
end L2
set_option maxHeartbeats 4000000
namespace L2
open PySem PySem.Spec PyProof.Rows
section
variable {X : Cx} {a b : Expr} {rest : List Expr} {pos : Pos} {ta tb : TE}
noncomputable def tOrS (ta tb : TE) : TE := fun σ H Q => ta σ H fun x H1 => ∃ z : Str, x = .str z ∧ z.length ≤ sizeLine ∧ (z.length = 0 → tb σ H1 Q) ∧ (z.length ≠ 0 → Q (.str z) H1)
theorem pe_orS (ha : PE X a ta) (hb : PE X (.BoolOp .Or (b :: rest) pos) tb) : PE X (.BoolOp .Or (a :: b :: rest) pos) (tOrS ta tb) := by
 intro pins s σ H Q I h
 refine BoolOp_or (thn (ha pins s σ H _ I h) fun v s1 zz9 => ?_)
 obtain ⟨x, H1, I1, r1, q1⟩ := zz9
 obtain ⟨z, rfl, hz, q1, q2⟩ := q1
 obtain ⟨t, rfl⟩ := r1
 have hl := line63
 have hs : sizeLine = 16777216 := sizeLine_eq
 refine PySem.P.truthy_str (by omega) ?_
 by_cases c : z.length = 0
 ·rw [show ((z.length : Int) != 0) = false by rw [c]; rfl]
  exact hb pins _ σ H1 Q (I1.tok _) (q1 c)
 ·rw [show ((z.length : Int) != 0) = true by simpa using c]
  exact ⟨.str z, H1, I1.tok _, ⟨t, rfl⟩, q2 c⟩
end
end L2
set_option maxHeartbeats 4000000
namespace L2
open PySem PySem.Spec PyProof.Rows
section
variable {X : Cx} {fr : Bool}
noncomputable def tIfCX (te : TEX) (r : R2) (tb : TE) (t u : TSX) : TSX := fun D R σ H => te σ H (fun x H1 => tb σ H1 fun y H2 => r x y H2 fun z H3 => ∃ k, z = .bl k ∧ if k = true then t D R σ H3 else u D R σ H3) fun cls _ H1 => R cls σ H1
theorem psx_ifC {a b : Expr} {op : CmpOp} {s1 s2 : List Stmt} {te : TEX} {tb : TE} {r : R2} {t u : TSX} {p1 pos : Pos} (he : PEX fr X a te) (hb : PE X b tb) (ho : OpR X (compareOp op) r) (hm : behindInMarks op b = false) (ha : PSsX fr X s1 t) (hc : PSsX fr X s2 u) (hx : X.xe = (fun _ _ => False) := by rfl) :
  PSX fr X (.If (.Compare a [op] [b] p1) s1 s2 pos) (tIfCX te r tb t u) := by
 intro pins s σ H D R I h
 refine wpAny_If (wpAny_isTrue_Compare1 (wpAny_mono (he pins s σ H _ _ I h) (fun v s1 ⟨x, H1, I1, r1, q1⟩ => ?_) ?_) hm)
 ·have h1 := hb pins s1 σ H1 _ I1 q1
  rw [hx] at h1
  refine wpAny_mono h1 (fun y' s2 zz36 => ?_) fun _ _ z => z.elim
  obtain ⟨y, H2, I2, r2, q2⟩ := zz36
  have h2 := ho pins s2 σ H2 x y v y' _ I2 r1 r2 q2
  rw [hx] at h2
  refine wpAny_mono h2 (fun c' s3 zz37 => ?_) fun _ _ z => z.elim
  obtain ⟨z, H3, I3, r3, q3⟩ := zz37
  obtain ⟨k, rfl, q3⟩ := q3
  cases r3
  refine wpAny_truthy_bool ?_
  cases k with
  | true => exact ha pins s3 σ H3 D R I3 q3
  | false => exact hc pins s3 σ H3 D R I3 q3
 ·rintro ev s1 ⟨e, T, cls, a0, σ', H', h1, h2, h3, h4, h5, h7, rfl, h6⟩
  exact ⟨e, T, cls, a0, σ', H', h1, h2, h3, h4, h5, h7, h6⟩
theorem call_maxT (hc : X.calm = true) : CallR X (.builtin "max") (fun xs H Q => ∃ (p : Addr) (ns : List Int), xs = [.ref p] ∧ SqT X.K H p (ns.map V.int) ∧ 0 < ns.length ∧ ∀ m, m ∈ ns → (∀ a ∈ ns, a ≤ m) → Q (.int m) H) := by
 intro pins s σ H xs us Q I r h
 obtain ⟨p, ns, rfl, hq, hn, q⟩ := h
 obtain ⟨u, rfl, ru⟩ := vals1 r
 cases ru
 obtain ⟨its, rv, pl, hz⟩ := I.tuple hq
 have pl : s.heap.IsTuple p its.toArray := pl
 have lt : p < s.heap.objs.size := by obtain ⟨o, ho, _⟩ := pl; exact Heap.lt_size ho
 have hlen : its.toArray.size = ns.length := by have := rv.length; rw [List.length_map] at this; simp; omega
 have W := int_walk (pins := pins) (σ := σ) (H := H) (s := s) rv
 refine call_max_walk (wpAny_pyIter_tuple pl ⟨s.heap.objs.size, _, _, _, _, _, _, rfl, Walks.tuple (A := X.A.in1) (show X.A.in1.handled = none from I.ok.hd hc) s.heap.objs.size p (Nat.ne_of_lt lt) its.toArray, ⟨⟨_, Heap.get?_push_size _ rfl, rfl, rfl⟩, pl.push _⟩, ?_, by rw [hlen]; exact hn, CmpOf.ints_gt (fun i => ns.getD i 0) W, ?_⟩)
 ·intro b hb
  show b < (s.heap.push _).objs.size
  rw [Heap.size_push]
  rcases List.mem_cons.mp hb with rfl | hb
  ·exact Nat.lt_succ_self _
  ·rw [List.mem_singleton.mp hb]; exact Nat.lt_succ_of_lt lt
 ·intro v h' tk hP hk
  have I1 : Inv X pins σ H { s with heap := h', toks := tk } := I.kept fun b o e => hk b o (fun z => absurd (Heap.lt_size e) (by rw [List.mem_singleton.mp z]; exact Nat.lt_irrefl _)) (Heap.get?_push_of_some _ e)
  rw [hlen] at hP
  obtain ⟨a1, a2⟩ := argBest_gt (fun i => ns.getD i 0) (ns.length - 1)
  obtain ⟨t, e⟩ := W _ _ hP
  generalize argBest (fun i j => decide (ns.getD i 0 > ns.getD j 0)) (ns.length - 1) = k at a1 a2 e
  have hk' : k < ns.length := by omega
  have ek : ns.getD k 0 = ns[k] := by rw [List.getD_eq_getElem?_getD, List.getElem?_eq_getElem hk']; rfl
  refine ⟨.int (ns.getD k 0), H, I1, ⟨t, e⟩, q _ (by rw [ek]; exact List.getElem_mem hk') fun a ha => ?_⟩
  obtain ⟨j, hj, rfl⟩ := List.mem_iff_getElem.mp ha
  have := a2 j (by omega)
  have ej : ns.getD j 0 = ns[j] := by rw [List.getD_eq_getElem?_getD, List.getElem?_eq_getElem hj]; rfl
  show ns[j] ≤ ns.getD k 0
  rw [← ej]; exact this
end
end L2
set_option maxHeartbeats 4000000
set_option genInjectivity false
set_option genSizeOf false
namespace KT
open PySem L2
noncomputable def bmV : List Value := [.type "ValueError", .type "Exception", .type "BaseException", .type "object"]
theorem FBV : ExcBaseFacts "ValueError" "ValueError.__new__" "ValueError.__init__" bmV := PySem.F.excBase_ValueError
theorem map_some {α : Type} {f : α → V} {l : List α} {i : Nat} {y : V} (h : (l.map f)[i]? = some y) : ∃ q, l[i]? = some q ∧ y = f q := by
 rw [List.getElem?_map] at h
 cases e : l[i]? with
 | none => rw [e] at h; cases h
 | some q => rw [e] at h; cases h; exact ⟨q, rfl, rfl⟩
structure FT (K : PySem.W.Frag) (mg : Str → Option Value) (x : Str) (st : Stmt) (ps : List Str) (f : Addr) (d : FuncData) : Prop where
 F : Fun K x x st f d
 b : Binds K d ps []
 g : mg x = some (.ref f)
structure FM (K : PySem.W.Frag) (C : Addr) (x q : Str) (st : Stmt) (ps : List Str) (f : Addr) (d : FuncData) : Prop where
 F : Fun K x q st f d
 b : Binds K d ps []
 m : Meth K C x f
noncomputable def BA (q : Str) (st : Stmt) (ps : List Str) : Prop := ∀ (x : Str) (kV doc pm : Value) (an : Option Addr) (cdv ct : Value) (us : List Value), us.length = ps.length → bindArgs (PySem.W.fnOf x q (defArgs st) (defBody st) (defScope st) .none kV doc pm an cdv ct) ⟨us, []⟩ = pure (ps.zip us)
theorem len_two {α : Type} {us : List α} (e : us.length = 2) : ∃ a b, us = [a, b] := by
 obtain ⟨a, us, rfl⟩ := List.exists_cons_of_length_eq_add_one e
 obtain ⟨b, rfl⟩ := List.length_eq_one_iff.mp (Nat.succ.inj e)
 exact ⟨a, b, rfl⟩
theorem len_three {α : Type} {us : List α} (e : us.length = 3) : ∃ a b c, us = [a, b, c] := by
 obtain ⟨a, us, rfl⟩ := List.exists_cons_of_length_eq_add_one e
 obtain ⟨b, c, rfl⟩ := len_two (Nat.succ.inj e)
 exact ⟨a, b, c, rfl⟩
theorem ba1 {q : Str} {st : Stmt} {ps : List Str} (h : ∀ (x : Str) (kV doc pm : Value) (an : Option Addr) (cdv ct : Value) (a : Value), bindArgs (PySem.W.fnOf x q (defArgs st) (defBody st) (defScope st) .none kV doc pm an cdv ct) ⟨[a], []⟩ = pure (ps.zip [a])) (hl : ps.length = 1) : BA q st ps := fun x kV doc pm an cdv ct us e => by
 rw [hl] at e
 obtain ⟨a, rfl⟩ := List.length_eq_one_iff.mp e
 exact h x kV doc pm an cdv ct a
theorem ba2 {q : Str} {st : Stmt} {ps : List Str} (h : ∀ (x : Str) (kV doc pm : Value) (an : Option Addr) (cdv ct : Value) (a b : Value), bindArgs (PySem.W.fnOf x q (defArgs st) (defBody st) (defScope st) .none kV doc pm an cdv ct) ⟨[a, b], []⟩ = pure (ps.zip [a, b])) (hl : ps.length = 2) : BA q st ps := fun x kV doc pm an cdv ct us e => by
 rw [hl] at e
 obtain ⟨a, b, rfl⟩ := len_two e
 exact h x kV doc pm an cdv ct a b
theorem ba3 {q : Str} {st : Stmt} {ps : List Str} (h : ∀ (x : Str) (kV doc pm : Value) (an : Option Addr) (cdv ct : Value) (a b c : Value), bindArgs (PySem.W.fnOf x q (defArgs st) (defBody st) (defScope st) .none kV doc pm an cdv ct) ⟨[a, b, c], []⟩ = pure (ps.zip [a, b, c])) (hl : ps.length = 3) : BA q st ps := fun x kV doc pm an cdv ct us e => by
 rw [hl] at e
 obtain ⟨a, b, c, rfl⟩ := len_three e
 exact h x kV doc pm an cdv ct a b c
theorem ba4 {q : Str} {st : Stmt} {ps : List Str} (h : ∀ (x : Str) (kV doc pm : Value) (an : Option Addr) (cdv ct : Value) (a b c d : Value), bindArgs (PySem.W.fnOf x q (defArgs st) (defBody st) (defScope st) .none kV doc pm an cdv ct) ⟨[a, b, c, d], []⟩ = pure (ps.zip [a, b, c, d])) (hl : ps.length = 4) : BA q st ps := fun x kV doc pm an cdv ct us e => by
 rw [hl] at e
 obtain ⟨a, us, rfl⟩ := List.exists_cons_of_length_eq_add_one e
 obtain ⟨b, c, d, rfl⟩ := len_three (Nat.succ.inj e)
 exact h x kV doc pm an cdv ct a b c d
theorem ba5 {q : Str} {st : Stmt} {ps : List Str} (h : ∀ (x : Str) (kV doc pm : Value) (an : Option Addr) (cdv ct : Value) (a b c d e : Value), bindArgs (PySem.W.fnOf x q (defArgs st) (defBody st) (defScope st) .none kV doc pm an cdv ct) ⟨[a, b, c, d, e], []⟩ = pure (ps.zip [a, b, c, d, e])) (hl : ps.length = 5) : BA q st ps := fun x kV doc pm an cdv ct us e => by
 rw [hl] at e
 match us, e with
 | [a, b, c, d, e], _ => exact h x kV doc pm an cdv ct a b c d e
section
variable {K : PySem.W.Frag} {h : Heap} {mg : Str → Option Value} {C : Addr} {x q : Str} {st : Stmt} {ps : List Str} {f : Addr} {oc : Value} {od an : Option Addr} {sl : Array (Option Value)} {kV doc pm cd ct : Value}
theorem FT.of (X : K.In h) (G : h.Ns mainGlobals mg) (B : BA x st ps) (a : PySem.W.nsIn K mainGlobals x = some (some (.ref f))) (l : K.lookup f = some ⟨oc, od, .func (PySem.W.fnOf x x (defArgs st) (defBody st) (defScope st) .none kV doc pm an cd ct), sl⟩)
  (c : PySem.W.codeIn K cd x = true) (k : PySem.W.keepIn K (.ref f) = true) : FT K mg x st ps f (PySem.W.fnOf x x (defArgs st) (defBody st) (defScope st) .none kV doc pm an cd ct) := ⟨fun_mk l c k, (fun_mk l c k).binds (B x), PySem.W.mg_of X G a⟩
theorem FM.of (B : BA q st ps) (a : PySem.W.findIn K (.ref C) x = some (some (.ref f))) (i : PySem.W.isFn K (.ref f) = true) (l : K.lookup f = some ⟨oc, od, .func (PySem.W.fnOf x q (defArgs st) (defBody st) (defScope st) .none kV doc pm an cd ct), sl⟩)
  (c : PySem.W.codeIn K cd q = true) (k : PySem.W.keepIn K (.ref f) = true) : FM K C x q st ps f (PySem.W.fnOf x q (defArgs st) (defBody st) (defScope st) .none kV doc pm an cd ct) := ⟨fun_mk l c k, (fun_mk l c k).binds (B x), ⟨a, i, k⟩⟩
end
noncomputable def top (i : Nat) : Stmt := PySem.Challenge.pw_tentloops_k12_two_wrongs.main.body.getD i (.Pass ⟨0, 0, 0, 0⟩)
noncomputable abbrev s_after : Stmt := top 23
noncomputable abbrev s_before : Stmt := top 24
noncomputable abbrev s_cloth_of : Stmt := top 25
noncomputable abbrev s_spots_of : Stmt := top 26
noncomputable abbrev s_mates_of : Stmt := top 27
noncomputable abbrev s_Tent_init : Stmt := inClass (top 28) 0
noncomputable abbrev s_Tent_rows : Stmt := inClass (top 28) 1
noncomputable abbrev s_Tent_size : Stmt := inClass (top 28) 2
noncomputable abbrev s_Tent_seams : Stmt := inClass (top 28) 3
noncomputable abbrev s_Tent_all_places : Stmt := inClass (top 28) 4
noncomputable abbrev s_Tent_has_place : Stmt := inClass (top 28) 5
noncomputable abbrev s_Tent_look_place : Stmt := inClass (top 28) 6
noncomputable abbrev s_Tent_seam_at : Stmt := inClass (top 28) 7
noncomputable abbrev s_Tent_places : Stmt := inClass (top 28) 8
noncomputable abbrev s_Tent_mate : Stmt := inClass (top 28) 9
noncomputable abbrev s_Tent_sort_of : Stmt := inClass (top 28) 10
noncomputable abbrev s_look_way : Stmt := top 31
noncomputable abbrev s_look_free : Stmt := top 32
noncomputable abbrev s_square : Stmt := top 33
noncomputable abbrev s_shifts : Stmt := top 34
noncomputable abbrev s_moved : Stmt := top 35
noncomputable abbrev s_crossable : Stmt := top 38
noncomputable abbrev s_follows : Stmt := top 39
noncomputable abbrev s_plain : Stmt := top 40
noncomputable abbrev s_look_thread : Stmt := top 41
noncomputable abbrev s_turned : Stmt := top 43
noncomputable abbrev s_look_numbers : Stmt := top 50
noncomputable abbrev s_look_counts : Stmt := top 51
noncomputable abbrev s_led : Stmt := top 54
noncomputable abbrev s_look_family : Stmt := top 55
noncomputable abbrev s_traced : Stmt := top 59
noncomputable abbrev s_eased : Stmt := top 62
noncomputable abbrev s_led_along : Stmt := top 63
noncomputable abbrev s_pulled : Stmt := top 66
noncomputable abbrev s_pulled_along : Stmt := top 67
noncomputable abbrev s_common_measure : Stmt := top 69
noncomputable abbrev s_look_fraction : Stmt := top 70
noncomputable abbrev s_fraction : Stmt := top 71
noncomputable abbrev s_sewn_seams : Stmt := top 72
noncomputable abbrev s_even_worths : Stmt := top 73
noncomputable abbrev s_lowest_worths : Stmt := top 74
noncomputable abbrev s_stretched : Stmt := top 76
noncomputable abbrev s_made_of : Stmt := top 82
noncomputable abbrev s_is_name : Stmt := top 83
noncomputable abbrev s_Scene_init : Stmt := inClass (top 89) 0
noncomputable abbrev s_look_new_name : Stmt := top 91
noncomputable abbrev s_look_length : Stmt := top 92
noncomputable abbrev s_look_parts : Stmt := top 93
noncomputable abbrev s_Hall_init : Stmt := inClass (top 94) 0
noncomputable abbrev s_Hall_lay : Stmt := inClass (top 94) 2
noncomputable abbrev s_Hall_weigh : Stmt := inClass (top 94) 5
noncomputable abbrev s_l_cell : Stmt := top 96
noncomputable abbrev s_l_numbers : Stmt := top 97
noncomputable abbrev s_l_sewn : Stmt := top 98
noncomputable abbrev s_l_rows : Stmt := top 99
noncomputable abbrev s_l_tent : Stmt := top 100
noncomputable abbrev s_l_seam : Stmt := top 101
noncomputable abbrev s_l_go : Stmt := top 102
noncomputable abbrev s_l_told : Stmt := top 103
noncomputable abbrev s_l_seam_due : Stmt := top 104
noncomputable abbrev s_l_dues : Stmt := top 105
noncomputable abbrev s_law : Stmt := top 106
structure Adr where
 (C_Tent C_Scene C_Hall f_after f_before f_cloth_of f_spots_of f_mates_of f_Tent_init f_Tent_rows f_Tent_size f_Tent_seams f_Tent_all_places f_Tent_has_place f_Tent_look_place f_Tent_seam_at f_Tent_places f_Tent_mate f_Tent_sort_of f_look_way f_look_free f_square f_shifts f_moved f_crossable f_follows f_plain f_look_thread f_turned f_look_numbers f_look_counts f_led f_look_family f_traced f_eased f_led_along f_pulled f_pulled_along f_common_measure f_look_fraction f_fraction f_sewn_seams f_even_worths f_lowest_worths f_stretched f_made_of f_is_name f_Scene_init f_look_new_name f_look_length f_look_parts f_Hall_init f_Hall_lay f_Hall_weigh f_l_cell f_l_numbers f_l_sewn f_l_rows f_l_tent f_l_seam f_l_go f_l_told f_l_seam_due f_l_dues f_law g_CONTRARY_WAYS E_NoPlace E_NoSeam E_Rim E_Locked E_NoWay E_NoThread E_NoFraction E_NoWorths E_NoTent E_NoCounts E_Uneven E_TooMany E_TooGreat E_BadName E_Taken E_TentError : Addr)
 (d_after d_before d_cloth_of d_spots_of d_mates_of d_Tent_init d_Tent_rows d_Tent_size d_Tent_seams d_Tent_all_places d_Tent_has_place d_Tent_look_place d_Tent_seam_at d_Tent_places d_Tent_mate d_Tent_sort_of d_look_way d_look_free d_square d_shifts d_moved d_crossable d_follows d_plain d_look_thread d_turned d_look_numbers d_look_counts d_led d_look_family d_traced d_eased d_led_along d_pulled d_pulled_along d_common_measure d_look_fraction d_fraction d_sewn_seams d_even_worths d_lowest_worths d_stretched d_made_of d_is_name d_Scene_init d_look_new_name d_look_length d_look_parts d_Hall_init d_Hall_lay d_Hall_weigh d_l_cell d_l_numbers d_l_sewn d_l_rows d_l_tent d_l_seam d_l_go d_l_told d_l_seam_due d_l_dues d_law : FuncData)
 (k_GREATEST_NAME k_MOST_CROSSINGS k_SMALL_LETTERS k_LONGEST_NAME k_PART k_WRITTEN_AT_ONCE k_MOST_PLACES k_GREATEST_PART : Tok)
structure Txt (w : World) (K : PySem.W.Frag) (mg : Str → Option Value) (t : Adr) : Prop where
 gC_Tent : mg "Tent" = some (.ref t.C_Tent)
 cl_Tent : Cls K t.C_Tent
 a_Tent_cloths : NoAttr K t.C_Tent "cloths"
 a_Tent_names_at : NoAttr K t.C_Tent "names_at"
 a_Tent_spots : NoAttr K t.C_Tent "spots"
 a_Tent_mates : NoAttr K t.C_Tent "mates"
 gC_Scene : mg "Scene" = some (.ref t.C_Scene)
 cl_Scene : Cls K t.C_Scene
 a_Scene_tent : NoAttr K t.C_Scene "tent"
 a_Scene_threads : NoAttr K t.C_Scene "threads"
 a_Scene_pools : NoAttr K t.C_Scene "pools"
 a_Scene_worths : NoAttr K t.C_Scene "worths"
 gC_Hall : mg "Hall" = some (.ref t.C_Hall)
 cl_Hall : Cls K t.C_Hall
 a_Hall_began : NoAttr K t.C_Hall "began"
 a_Hall_scene : NoAttr K t.C_Hall "scene"
 a_Hall_standing : NoAttr K t.C_Hall "standing"
 a_Hall_undone : NoAttr K t.C_Hall "undone"
 p_after : FT K mg "after" s_after ["place"] t.f_after t.d_after
 p_before : FT K mg "before" s_before ["place"] t.f_before t.d_before
 p_cloth_of : FT K mg "cloth_of" s_cloth_of ["place"] t.f_cloth_of t.d_cloth_of
 p_spots_of : FT K mg "spots_of" s_spots_of ["names_at"] t.f_spots_of t.d_spots_of
 p_mates_of : FT K mg "mates_of" s_mates_of ["spots", "count"] t.f_mates_of t.d_mates_of
 p_Tent_init : FM K t.C_Tent "__init__" "Tent.__init__" s_Tent_init ["self", "rows"] t.f_Tent_init t.d_Tent_init
 p_Tent_rows : FM K t.C_Tent "rows" "Tent.rows" s_Tent_rows ["self"] t.f_Tent_rows t.d_Tent_rows
 p_Tent_size : FM K t.C_Tent "size" "Tent.size" s_Tent_size ["self"] t.f_Tent_size t.d_Tent_size
 p_Tent_seams : FM K t.C_Tent "seams" "Tent.seams" s_Tent_seams ["self"] t.f_Tent_seams t.d_Tent_seams
 p_Tent_all_places : FM K t.C_Tent "all_places" "Tent.all_places" s_Tent_all_places ["self"] t.f_Tent_all_places t.d_Tent_all_places
 p_Tent_has_place : FM K t.C_Tent "has_place" "Tent.has_place" s_Tent_has_place ["self", "place"] t.f_Tent_has_place t.d_Tent_has_place
 p_Tent_look_place : FM K t.C_Tent "look_place" "Tent.look_place" s_Tent_look_place ["self", "place"] t.f_Tent_look_place t.d_Tent_look_place
 p_Tent_seam_at : FM K t.C_Tent "seam_at" "Tent.seam_at" s_Tent_seam_at ["self", "place"] t.f_Tent_seam_at t.d_Tent_seam_at
 p_Tent_places : FM K t.C_Tent "places" "Tent.places" s_Tent_places ["self", "seam"] t.f_Tent_places t.d_Tent_places
 p_Tent_mate : FM K t.C_Tent "mate" "Tent.mate" s_Tent_mate ["self", "place"] t.f_Tent_mate t.d_Tent_mate
 p_Tent_sort_of : FM K t.C_Tent "sort_of" "Tent.sort_of" s_Tent_sort_of ["self", "seam"] t.f_Tent_sort_of t.d_Tent_sort_of
 p_look_way : FT K mg "look_way" s_look_way ["way"] t.f_look_way t.d_look_way
 p_look_free : FT K mg "look_free" s_look_free ["tent", "seam"] t.f_look_free t.d_look_free
 p_square : FT K mg "square" s_square ["tent", "seam"] t.f_square t.d_square
 p_shifts : FT K mg "shifts" s_shifts ["tent", "seam", "way"] t.f_shifts t.d_shifts
 p_moved : FT K mg "moved" s_moved ["tent", "seam", "way", "place"] t.f_moved t.d_moved
 p_crossable : FT K mg "crossable" s_crossable ["tent", "place"] t.f_crossable t.d_crossable
 p_follows : FT K mg "follows" s_follows ["tent", "ahead", "place"] t.f_follows t.d_follows
 p_plain : FT K mg "plain" s_plain ["tent", "word"] t.f_plain t.d_plain
 p_look_thread : FT K mg "look_thread" s_look_thread ["tent", "word"] t.f_look_thread t.d_look_thread
 p_turned : FT K mg "turned" s_turned ["word", "by"] t.f_turned t.d_turned
 p_look_numbers : FT K mg "look_numbers" s_look_numbers ["tent", "counts"] t.f_look_numbers t.d_look_numbers
 p_look_counts : FT K mg "look_counts" s_look_counts ["tent", "counts"] t.f_look_counts t.d_look_counts
 p_led : FT K mg "led" s_led ["tent", "counts", "seam"] t.f_led t.d_led
 p_look_family : FT K mg "look_family" s_look_family ["tent", "counts"] t.f_look_family t.d_look_family
 p_traced : FT K mg "traced" s_traced ["tent", "counts"] t.f_traced t.d_traced
 p_eased : FT K mg "eased" s_eased ["tent", "counts"] t.f_eased t.d_eased
 p_led_along : FT K mg "led_along" s_led_along ["tent", "moves", "counts"] t.f_led_along t.d_led_along
 p_pulled : FT K mg "pulled" s_pulled ["tent", "seam", "way", "word"] t.f_pulled t.d_pulled
 p_pulled_along : FT K mg "pulled_along" s_pulled_along ["tent", "moves", "word"] t.f_pulled_along t.d_pulled_along
 p_common_measure : FT K mg "common_measure" s_common_measure ["one", "other"] t.f_common_measure t.d_common_measure
 p_look_fraction : FT K mg "look_fraction" s_look_fraction ["top", "bottom"] t.f_look_fraction t.d_look_fraction
 p_fraction : FT K mg "fraction" s_fraction ["top", "bottom"] t.f_fraction t.d_fraction
 p_sewn_seams : FT K mg "sewn_seams" s_sewn_seams ["tent"] t.f_sewn_seams t.d_sewn_seams
 p_even_worths : FT K mg "even_worths" s_even_worths ["tent"] t.f_even_worths t.d_even_worths
 p_lowest_worths : FT K mg "lowest_worths" s_lowest_worths ["tent", "worths"] t.f_lowest_worths t.d_lowest_worths
 p_stretched : FT K mg "stretched" s_stretched ["tent", "worths", "seam"] t.f_stretched t.d_stretched
 p_made_of : FT K mg "made_of" s_made_of ["text", "signs"] t.f_made_of t.d_made_of
 p_is_name : FT K mg "is_name" s_is_name ["text"] t.f_is_name t.d_is_name
 p_Scene_init : FM K t.C_Scene "__init__" "Scene.__init__" s_Scene_init ["self", "tent", "threads", "pools", "worths"] t.f_Scene_init t.d_Scene_init
 p_look_new_name : FT K mg "look_new_name" s_look_new_name ["scene", "name"] t.f_look_new_name t.d_look_new_name
 p_look_length : FT K mg "look_length" s_look_length ["word"] t.f_look_length t.d_look_length
 p_look_parts : FT K mg "look_parts" s_look_parts ["parts"] t.f_look_parts t.d_look_parts
 p_Hall_init : FM K t.C_Hall "__init__" "Hall.__init__" s_Hall_init ["self", "rows"] t.f_Hall_init t.d_Hall_init
 p_Hall_lay : FM K t.C_Hall "lay" "Hall.lay" s_Hall_lay ["self", "name", "word"] t.f_Hall_lay t.d_Hall_lay
 p_Hall_weigh : FM K t.C_Hall "weigh" "Hall.weigh" s_Hall_weigh ["self", "seam", "top", "bottom"] t.f_Hall_weigh t.d_Hall_weigh
 p_l_cell : FT K mg "_law_cell" s_l_cell ["_law_script", "_law_at"] t.f_l_cell t.d_l_cell
 p_l_numbers : FT K mg "_law_numbers" s_l_numbers ["_law_cell_here", "_law_many"] t.f_l_numbers t.d_l_numbers
 p_l_sewn : FT K mg "_law_sewn" s_l_sewn ["_law_nums", "_law_many", "_law_share"] t.f_l_sewn t.d_l_sewn
 p_l_rows : FT K mg "_law_rows" s_l_rows ["_law_mates", "_law_start", "_law_step"] t.f_l_rows t.d_l_rows
 p_l_tent : FT K mg "_law_tent" s_l_tent ["_law_script"] t.f_l_tent t.d_l_tent
 p_l_seam : FT K mg "_law_seam" s_l_seam ["_law_rows_here", "_law_place"] t.f_l_seam t.d_l_seam
 p_l_go : FT K mg "_law_go" s_l_go ["_law_door", "_law_tent_here", "_law_seam_here", "_law_way", "_law_counts"] t.f_l_go t.d_l_go
 p_l_told : FT K mg "_law_told" s_l_told ["_law_door", "_law_tent_here", "_law_seam_here", "_law_way", "_law_counts"] t.f_l_told t.d_l_told
 p_l_seam_due : FT K mg "_law_seam_due" s_l_seam_due ["_law_mates", "_law_rows_here", "_law_seam_here"] t.f_l_seam_due t.d_l_seam_due
 p_l_dues : FT K mg "_law_dues" s_l_dues ["_law_mates", "_law_rows_here", "_law_seam_here", "_law_way"] t.f_l_dues t.d_l_dues
 p_law : FT K mg "law" s_law ["_law_script"] t.f_law t.d_law
 mk_Tent : Mk K t.C_Tent t.f_Tent_init
 mk_Scene : Mk K t.C_Scene t.f_Scene_init
 mk_Hall : Mk K t.C_Hall t.f_Hall_init
 c_GREATEST_NAME : mg "GREATEST_NAME" = some (.int 9999 t.k_GREATEST_NAME)
 c_MOST_CROSSINGS : mg "MOST_CROSSINGS" = some (.int 600 t.k_MOST_CROSSINGS)
 c_SMALL_LETTERS : mg "SMALL_LETTERS" = some (.str (Str.ofString "abcdefghijklmnopqrstuvwxyz") t.k_SMALL_LETTERS)
 c_LONGEST_NAME : mg "LONGEST_NAME" = some (.int 8 t.k_LONGEST_NAME)
 c_PART : mg "PART" = some (.int 1000000000000000000000000000000000000000000000000000000000000 t.k_PART)
 c_WRITTEN_AT_ONCE : mg "WRITTEN_AT_ONCE" = some (.int 60 t.k_WRITTEN_AT_ONCE)
 c_MOST_PLACES : mg "MOST_PLACES" = some (.int 400 t.k_MOST_PLACES)
 c_GREATEST_PART : mg "GREATEST_PART" = some (.int 1000000000000000000000000000000000000000000000000000000000000 t.k_GREATEST_PART)
 gd_CONTRARY_WAYS : mg "CONTRARY_WAYS" = some (.ref t.g_CONTRARY_WAYS)
 kd_CONTRARY_WAYS : KDict w K t.g_CONTRARY_WAYS [(Sum.inr "left", .str "right"), (Sum.inr "right", .str "left")]
 bl : ∀ (s : Shared) (u : Value), BindsTo s t.d_law ⟨[u], []⟩ [("_law_script", u)]
 n_all : mg "all" = none
 n_any : mg "any" = none
 n_dict : mg "dict" = none
 n_enumerate : mg "enumerate" = none
 n_len : mg "len" = none
 n_list : mg "list" = none
 n_max : mg "max" = none
 n_range : mg "range" = none
 n_set : mg "set" = none
 n_sorted : mg "sorted" = none
 n_sum : mg "sum" = none
 n_tuple : mg "tuple" = none
 n_zip : mg "zip" = none
 gx_NoPlace : mg "NoPlace" = some (.ref t.E_NoPlace)
 x_NoPlace : ExcK K t.E_NoPlace bmV "ValueError.__new__"
 gx_NoSeam : mg "NoSeam" = some (.ref t.E_NoSeam)
 x_NoSeam : ExcK K t.E_NoSeam bmV "ValueError.__new__"
 gx_Rim : mg "Rim" = some (.ref t.E_Rim)
 x_Rim : ExcK K t.E_Rim bmV "ValueError.__new__"
 gx_Locked : mg "Locked" = some (.ref t.E_Locked)
 x_Locked : ExcK K t.E_Locked bmV "ValueError.__new__"
 gx_NoWay : mg "NoWay" = some (.ref t.E_NoWay)
 x_NoWay : ExcK K t.E_NoWay bmV "ValueError.__new__"
 gx_NoThread : mg "NoThread" = some (.ref t.E_NoThread)
 x_NoThread : ExcK K t.E_NoThread bmV "ValueError.__new__"
 gx_NoFraction : mg "NoFraction" = some (.ref t.E_NoFraction)
 x_NoFraction : ExcK K t.E_NoFraction bmV "ValueError.__new__"
 gx_NoWorths : mg "NoWorths" = some (.ref t.E_NoWorths)
 x_NoWorths : ExcK K t.E_NoWorths bmV "ValueError.__new__"
 gx_NoTent : mg "NoTent" = some (.ref t.E_NoTent)
 x_NoTent : ExcK K t.E_NoTent bmV "ValueError.__new__"
 gx_NoCounts : mg "NoCounts" = some (.ref t.E_NoCounts)
 x_NoCounts : ExcK K t.E_NoCounts bmV "ValueError.__new__"
 gx_Uneven : mg "Uneven" = some (.ref t.E_Uneven)
 x_Uneven : ExcK K t.E_Uneven bmV "ValueError.__new__"
 gx_TooMany : mg "TooMany" = some (.ref t.E_TooMany)
 x_TooMany : ExcK K t.E_TooMany bmV "ValueError.__new__"
 gx_TooGreat : mg "TooGreat" = some (.ref t.E_TooGreat)
 x_TooGreat : ExcK K t.E_TooGreat bmV "ValueError.__new__"
 gx_BadName : mg "BadName" = some (.ref t.E_BadName)
 x_BadName : ExcK K t.E_BadName bmV "ValueError.__new__"
 gx_Taken : mg "Taken" = some (.ref t.E_Taken)
 x_Taken : ExcK K t.E_Taken bmV "ValueError.__new__"
 gx_TentError : mg "TentError" = some (.ref t.E_TentError)
 yx_NoPlace_NoPlace : PySem.W.exmOne K (.ref t.E_NoPlace) (.ref t.E_NoPlace) = some true
 yx_NoThread_NoThread : PySem.W.exmOne K (.ref t.E_NoThread) (.ref t.E_NoThread) = some true
 yx_NoCounts_NoCounts : PySem.W.exmOne K (.ref t.E_NoCounts) (.ref t.E_NoCounts) = some true
 yx_Uneven_Uneven : PySem.W.exmOne K (.ref t.E_Uneven) (.ref t.E_Uneven) = some true
 yx_NoWorths_NoWorths : PySem.W.exmOne K (.ref t.E_NoWorths) (.ref t.E_NoWorths) = some true
 yx_NoFraction_NoFraction : PySem.W.exmOne K (.ref t.E_NoFraction) (.ref t.E_NoFraction) = some true
 yx_TooMany_TooMany : PySem.W.exmOne K (.ref t.E_TooMany) (.ref t.E_TooMany) = some true
 yx_TooGreat_TooGreat : PySem.W.exmOne K (.ref t.E_TooGreat) (.ref t.E_TooGreat) = some true
 yx_Locked_Locked : PySem.W.exmOne K (.ref t.E_Locked) (.ref t.E_Locked) = some true
 yx_Rim_Rim : PySem.W.exmOne K (.ref t.E_Rim) (.ref t.E_Rim) = some true
 yx_NoSeam_NoSeam : PySem.W.exmOne K (.ref t.E_NoSeam) (.ref t.E_NoSeam) = some true
 yx_NoWay_NoWay : PySem.W.exmOne K (.ref t.E_NoWay) (.ref t.E_NoWay) = some true
 nx_NoThread_NoPlace : PySem.W.exmOne K (.ref t.E_NoThread) (.ref t.E_NoPlace) = some false
 nx_NoCounts_NoPlace : PySem.W.exmOne K (.ref t.E_NoCounts) (.ref t.E_NoPlace) = some false
 nx_NoCounts_NoThread : PySem.W.exmOne K (.ref t.E_NoCounts) (.ref t.E_NoThread) = some false
 nx_Uneven_NoPlace : PySem.W.exmOne K (.ref t.E_Uneven) (.ref t.E_NoPlace) = some false
 nx_Uneven_NoThread : PySem.W.exmOne K (.ref t.E_Uneven) (.ref t.E_NoThread) = some false
 nx_Uneven_NoCounts : PySem.W.exmOne K (.ref t.E_Uneven) (.ref t.E_NoCounts) = some false
 nx_NoWorths_NoPlace : PySem.W.exmOne K (.ref t.E_NoWorths) (.ref t.E_NoPlace) = some false
 nx_NoWorths_NoThread : PySem.W.exmOne K (.ref t.E_NoWorths) (.ref t.E_NoThread) = some false
 nx_NoWorths_NoCounts : PySem.W.exmOne K (.ref t.E_NoWorths) (.ref t.E_NoCounts) = some false
 nx_NoWorths_Uneven : PySem.W.exmOne K (.ref t.E_NoWorths) (.ref t.E_Uneven) = some false
 nx_NoFraction_NoPlace : PySem.W.exmOne K (.ref t.E_NoFraction) (.ref t.E_NoPlace) = some false
 nx_NoFraction_NoThread : PySem.W.exmOne K (.ref t.E_NoFraction) (.ref t.E_NoThread) = some false
 nx_NoFraction_NoCounts : PySem.W.exmOne K (.ref t.E_NoFraction) (.ref t.E_NoCounts) = some false
 nx_NoFraction_Uneven : PySem.W.exmOne K (.ref t.E_NoFraction) (.ref t.E_Uneven) = some false
 nx_NoFraction_NoWorths : PySem.W.exmOne K (.ref t.E_NoFraction) (.ref t.E_NoWorths) = some false
 nx_TooMany_NoPlace : PySem.W.exmOne K (.ref t.E_TooMany) (.ref t.E_NoPlace) = some false
 nx_TooMany_NoThread : PySem.W.exmOne K (.ref t.E_TooMany) (.ref t.E_NoThread) = some false
 nx_TooMany_NoCounts : PySem.W.exmOne K (.ref t.E_TooMany) (.ref t.E_NoCounts) = some false
 nx_TooMany_Uneven : PySem.W.exmOne K (.ref t.E_TooMany) (.ref t.E_Uneven) = some false
 nx_TooMany_NoWorths : PySem.W.exmOne K (.ref t.E_TooMany) (.ref t.E_NoWorths) = some false
 nx_TooMany_NoFraction : PySem.W.exmOne K (.ref t.E_TooMany) (.ref t.E_NoFraction) = some false
 nx_TooGreat_NoPlace : PySem.W.exmOne K (.ref t.E_TooGreat) (.ref t.E_NoPlace) = some false
 nx_TooGreat_NoThread : PySem.W.exmOne K (.ref t.E_TooGreat) (.ref t.E_NoThread) = some false
 nx_TooGreat_NoCounts : PySem.W.exmOne K (.ref t.E_TooGreat) (.ref t.E_NoCounts) = some false
 nx_TooGreat_Uneven : PySem.W.exmOne K (.ref t.E_TooGreat) (.ref t.E_Uneven) = some false
 nx_TooGreat_NoWorths : PySem.W.exmOne K (.ref t.E_TooGreat) (.ref t.E_NoWorths) = some false
 nx_TooGreat_NoFraction : PySem.W.exmOne K (.ref t.E_TooGreat) (.ref t.E_NoFraction) = some false
 nx_TooGreat_TooMany : PySem.W.exmOne K (.ref t.E_TooGreat) (.ref t.E_TooMany) = some false
 nx_Locked_NoPlace : PySem.W.exmOne K (.ref t.E_Locked) (.ref t.E_NoPlace) = some false
 nx_Locked_NoThread : PySem.W.exmOne K (.ref t.E_Locked) (.ref t.E_NoThread) = some false
 nx_Locked_NoCounts : PySem.W.exmOne K (.ref t.E_Locked) (.ref t.E_NoCounts) = some false
 nx_Locked_Uneven : PySem.W.exmOne K (.ref t.E_Locked) (.ref t.E_Uneven) = some false
 nx_Locked_NoWorths : PySem.W.exmOne K (.ref t.E_Locked) (.ref t.E_NoWorths) = some false
 nx_Locked_NoFraction : PySem.W.exmOne K (.ref t.E_Locked) (.ref t.E_NoFraction) = some false
 nx_Locked_TooMany : PySem.W.exmOne K (.ref t.E_Locked) (.ref t.E_TooMany) = some false
 nx_Locked_TooGreat : PySem.W.exmOne K (.ref t.E_Locked) (.ref t.E_TooGreat) = some false
 nx_Rim_NoPlace : PySem.W.exmOne K (.ref t.E_Rim) (.ref t.E_NoPlace) = some false
 nx_Rim_NoThread : PySem.W.exmOne K (.ref t.E_Rim) (.ref t.E_NoThread) = some false
 nx_Rim_NoCounts : PySem.W.exmOne K (.ref t.E_Rim) (.ref t.E_NoCounts) = some false
 nx_Rim_Uneven : PySem.W.exmOne K (.ref t.E_Rim) (.ref t.E_Uneven) = some false
 nx_Rim_NoWorths : PySem.W.exmOne K (.ref t.E_Rim) (.ref t.E_NoWorths) = some false
 nx_Rim_NoFraction : PySem.W.exmOne K (.ref t.E_Rim) (.ref t.E_NoFraction) = some false
 nx_Rim_TooMany : PySem.W.exmOne K (.ref t.E_Rim) (.ref t.E_TooMany) = some false
 nx_Rim_TooGreat : PySem.W.exmOne K (.ref t.E_Rim) (.ref t.E_TooGreat) = some false
 nx_Rim_Locked : PySem.W.exmOne K (.ref t.E_Rim) (.ref t.E_Locked) = some false
 nx_NoSeam_NoPlace : PySem.W.exmOne K (.ref t.E_NoSeam) (.ref t.E_NoPlace) = some false
 nx_NoSeam_NoThread : PySem.W.exmOne K (.ref t.E_NoSeam) (.ref t.E_NoThread) = some false
 nx_NoSeam_NoCounts : PySem.W.exmOne K (.ref t.E_NoSeam) (.ref t.E_NoCounts) = some false
 nx_NoSeam_Uneven : PySem.W.exmOne K (.ref t.E_NoSeam) (.ref t.E_Uneven) = some false
 nx_NoSeam_NoWorths : PySem.W.exmOne K (.ref t.E_NoSeam) (.ref t.E_NoWorths) = some false
 nx_NoSeam_NoFraction : PySem.W.exmOne K (.ref t.E_NoSeam) (.ref t.E_NoFraction) = some false
 nx_NoSeam_TooMany : PySem.W.exmOne K (.ref t.E_NoSeam) (.ref t.E_TooMany) = some false
 nx_NoSeam_TooGreat : PySem.W.exmOne K (.ref t.E_NoSeam) (.ref t.E_TooGreat) = some false
 nx_NoSeam_Locked : PySem.W.exmOne K (.ref t.E_NoSeam) (.ref t.E_Locked) = some false
 nx_NoSeam_Rim : PySem.W.exmOne K (.ref t.E_NoSeam) (.ref t.E_Rim) = some false
 nx_NoWay_NoPlace : PySem.W.exmOne K (.ref t.E_NoWay) (.ref t.E_NoPlace) = some false
 nx_NoWay_NoThread : PySem.W.exmOne K (.ref t.E_NoWay) (.ref t.E_NoThread) = some false
 nx_NoWay_NoCounts : PySem.W.exmOne K (.ref t.E_NoWay) (.ref t.E_NoCounts) = some false
 nx_NoWay_Uneven : PySem.W.exmOne K (.ref t.E_NoWay) (.ref t.E_Uneven) = some false
 nx_NoWay_NoWorths : PySem.W.exmOne K (.ref t.E_NoWay) (.ref t.E_NoWorths) = some false
 nx_NoWay_NoFraction : PySem.W.exmOne K (.ref t.E_NoWay) (.ref t.E_NoFraction) = some false
 nx_NoWay_TooMany : PySem.W.exmOne K (.ref t.E_NoWay) (.ref t.E_TooMany) = some false
 nx_NoWay_TooGreat : PySem.W.exmOne K (.ref t.E_NoWay) (.ref t.E_TooGreat) = some false
 nx_NoWay_Locked : PySem.W.exmOne K (.ref t.E_NoWay) (.ref t.E_Locked) = some false
 nx_NoWay_Rim : PySem.W.exmOne K (.ref t.E_NoWay) (.ref t.E_Rim) = some false
 nx_NoWay_NoSeam : PySem.W.exmOne K (.ref t.E_NoWay) (.ref t.E_NoSeam) = some false
end KT
set_option maxHeartbeats 4000000
namespace KT
open PySem L2
theorem Same.add {H H1 : Hp} {p : Addr} {o : HO} (s : Same H H1) (hp : H p = none) : Same H (upd H1 p o) := fun b u e => by rw [upd_ne (ne_of_none e hp)]; exact s b u e
theorem Same.new {H : Hp} {p : Addr} {o : HO} (hp : H p = none) : Same H (upd H p o) := Same.add (Same.refl H) hp
theorem seq_post {t u : TS} {D : Ends} {σ : St} {H : Hp} (Post : St → Hp → Prop) (ht : ∀ nx : St → Hp → Prop, (∀ σ H, Post σ H → nx σ H) → t { D with nx := nx } σ H) (hu : ∀ σ H, Post σ H → u D σ H) : tSeq t u D σ H := ht (u D) hu
theorem seq_cut {t u : TS} {D : Ends} {σ : St} {H : Hp} (ht : ∀ nx : St → Hp → Prop, (∀ σ H, u D σ H → nx σ H) → t { D with nx := nx } σ H) : tSeq t u D σ H := ht (u D) fun _ _ h => h
theorem map_snoc (xs : List Int) (y : Int) : xs.map V.int ++ [V.int y] = (xs ++ [y]).map V.int := by simp
theorem getI {ns : List Int} {n : Nat} (h : n < ns.length) : (ns.map V.int)[n]? = some (V.int (ns.getD n 0)) := by
 rw [List.getElem?_map, List.getElem?_eq_getElem h, List.getD_eq_getElem?_getD, List.getElem?_eq_getElem h]
 rfl
noncomputable def cell (ns : List Int) (n : Int) : Int := if n < ns.length then ns.getD n.toNat 0 else if ns.length = 0 then 31 * n + 7 else ns.getD (n % ns.length).toNat 0 % 1000003 + 101 * n
noncomputable def sp_cell (K : PySem.W.Frag) : Sp := fun vs H Q _ => ∃ (a : Addr) (ns : List Int) (n : Int), vs = [.ref a, .int n] ∧ SqL K H a (ns.map V.int) ∧ ns.length ≤ 63 ∧ 0 ≤ n ∧ n < 1000000 ∧ Q (.int (cell ns n)) H
noncomputable def sp_numbers : Sp := fun vs H Q _ => ∃ (c : Int) (n : Nat), vs = [.int c, .int n] ∧ n ≤ 60 ∧ ∀ (p : Addr) (xs : List Int) (H' : Hp), Same H H' → H p = none → H' p = some (.lst (xs.map V.int)) → xs.length = n → (∀ x ∈ xs, 0 ≤ x ∧ x < 1009) → Q (.ref p) H'
section
variable {P : Program} {w : World} {K : PySem.W.Frag} {mg : Str → Option Value} {base : Heap} {t : Adr}
theorem sc_l_cell : FnScope ["_law_script", "_law_at"] ["_law_script", "_law_at"] (defScope s_l_cell) := ⟨rfl, rfl, rfl, by decide +kernel, rfl, by decide +kernel, by decide +kernel⟩
theorem ok_l_cell (T : Txt w K mg t) : FnOk P w K mg base (CXr P w) 1 t.f_l_cell t.d_l_cell ["_law_script", "_law_at"] (sp_cell K) := by
 refine T.p_l_cell.F.okR sc_l_cell (fun vs H Q E h => ?_) (fun cdv A outer s H vs Q E hr h => ?_)
 ·obtain ⟨a, ns, n, rfl, _⟩ := h
  rfl
 ·obtain ⟨a, ns, n, rfl, hS, hl, h0, h1, k⟩ := h
  refine ⟨_, (pss_cons (ps_if (pt_cmpR op_lt (pv 1) (pe_callB call_len_seq (by rfl) T.n_len PySem.boot_len (pa_cons (pv 0) pa_nil)) (nomark _)) (pss_one (ps_ret (pe_ix ix_list (pv 0) (pv 1) (fun _ _ => rfl)))) pss_nil)
   (pss_cons (ps_if (pt_cmpR op_eq (pe_callB call_len_seq (by rfl) T.n_len PySem.boot_len (pa_cons (pv 0) pa_nil)) pe_int (nomark _)) (pss_one (ps_ret (pe_op op_add (pe_op op_mul pe_int (pv 1)) pe_int))) pss_nil)
   (pss_one (ps_ret (pe_op op_add (pe_op op_mod (pe_ix ix_list (pv 0) (pe_op op_mod (pv 1) (pe_callB call_len_seq (by rfl) T.n_len PySem.boot_len (pa_cons (pv 0) pa_nil))) (fun _ _ => rfl)) pe_int) (pe_op op_mul pe_int (pv 1))))))), ?_⟩
  have el : ((ns.map V.int).length : Int) = ns.length := by simp
  refine ⟨_, rfl, _, rfl, a, _, rfl, .inl hS, _, _, rfl, rfl, _, rfl, ?_⟩
  rw [el]
  refine ite2 (fun h => ?_) (fun h => ?_)
  ·have h : n < ns.length := by simpa using h
   have e : cell ns n = ns.getD n.toNat 0 := if_pos h
   have en : n = (n.toNat : Int) := by omega
   have ei : atI (ns.map V.int) n = some (V.int (ns.getD n.toNat 0)) := by rw [en]; exact atI_nat (getI (n := n.toNat) (by omega))
   rw [e] at k
   exact ⟨_, rfl, _, rfl, a, _, _, _, rfl, rfl, hS, ei, k⟩
  ·have h : ¬ n < ns.length := by simpa using h
   have e : cell ns n = if ns.length = 0 then 31 * n + 7 else ns.getD (n % ns.length).toNat 0 % 1000003 + 101 * n := if_neg h
   refine ⟨_, rfl, a, _, rfl, .inl hS, rfl, _, rfl, ?_⟩
   rw [el]
   refine ite2 (fun g => ?_) (fun g => ?_)
   ·have g : ns.length = 0 := by simpa using g
    refine ⟨_, rfl, _, _, rfl, rfl, .inl ⟨by decide, by decide⟩, _, _, rfl, rfl, ?_⟩
    rw [if_pos g] at e
    rw [e] at k; exact k
   ·have g : ¬ ns.length = 0 := by simpa using g
    have gp : (0 : Int) < ns.length := by omega
    rw [if_neg g] at e
    have m0 := Int.emod_nonneg n (show (ns.length : Int) ≠ 0 by omega)
    have m1 := Int.emod_lt_of_pos n gp
    refine ⟨_, rfl, _, rfl, _, rfl, a, _, rfl, .inl hS, _, _, rfl, rfl, (by rw [el]; exact gp), a, _, _, _, rfl, rfl, hS, (?_ : atI _ _ = some (V.int (ns.getD (n % ns.length).toNat 0))), _, _, rfl, rfl, (by show (0 : Int) < 1000003; decide), _, rfl, _, _, rfl, rfl, .inl ⟨by decide, by decide⟩, _, _, rfl, rfl, ?_⟩
    ·rw [el]
     have en : n % (ns.length : Int) = ((n % (ns.length : Int)).toNat : Int) := by omega
     rw [en]
     exact atI_nat (getI (by omega))
    ·rw [e] at k; exact k
theorem sc_l_numbers : FnScope ["_law_cell_here", "_law_many", "_law_row", "_law_rest", "_law_seed"] ["_law_cell_here", "_law_many"] (defScope s_l_numbers) := ⟨rfl, rfl, rfl, by decide +kernel, rfl, by decide +kernel, by decide +kernel⟩
theorem ok_l_numbers (T : Txt w K mg t) : FnOk P w K mg base (CXr P w) 1 t.f_l_numbers t.d_l_numbers ["_law_cell_here", "_law_many"] sp_numbers := by
 refine T.p_l_numbers.F.okR sc_l_numbers (fun vs H Q E h => ?_) (fun cdv A outer s H vs Q E hr h => ?_)
 ·obtain ⟨c, n, rfl, _⟩ := h
  rfl
 ·obtain ⟨c, n, rfl, hn60, k⟩ := h
  refine ⟨_, (pss_cons (ps_set (i := 2) sc_l_numbers.nd rfl (Or.inl rfl) (pe_lst pa_nil))
   (pss_cons (ps_set (i := 3) sc_l_numbers.nd rfl (Or.inl rfl) (pe_op op_sub (pv 0) (pe_op op_pow pe_int pe_int)))
   (pss_cons (ps_while PassesOwn.never (PW.pt (pw_and (pt_cmpR op_gt (pv 3) pe_int (nomark _)) (pw_and1 (pt_cmpR op_lt (pe_callB call_len_seq (by rfl) T.n_len PySem.boot_len (pa_cons (pv 2) pa_nil)) (pv 1) (nomark _))))) (pss_cons (ps_expr (pe_bm PySem.F.plainAttrs_list PySem.F.slot_list_append PySem.F.type_list_append mt_append (pv 2) (pa_cons (pe_op op_mod (pv 3) pe_int) pa_nil)))
   (pss_one (ps_set (i := 3) sc_l_numbers.nd rfl (Or.inl rfl) (pe_op op_fdiv (pv 3) pe_int)))))
   (pss_cons (ps_set (i := 4) sc_l_numbers.nd rfl (Or.inl rfl) (pe_op op_mod (pv 0) pe_int))
   (pss_cons (ps_while PassesOwn.never (pt_cmpR op_lt (pe_callB call_len_seq (by rfl) T.n_len PySem.boot_len (pa_cons (pv 2) pa_nil)) (pv 1) (nomark _)) (pss_cons (ps_set (i := 4) sc_l_numbers.nd rfl (Or.inl rfl) (pe_op op_mod (pe_op op_add (pe_op op_add (pe_op op_mul (pv 4) pe_int) pe_int) (pe_callB call_len_seq (by rfl) T.n_len PySem.boot_len (pa_cons (pv 2) pa_nil))) pe_int))
   (pss_one (ps_expr (pe_bm PySem.F.plainAttrs_list PySem.F.slot_list_append PySem.F.type_list_append mt_append (pv 2) (pa_cons (pe_op op_mod (pe_op op_fdiv (pe_op op_mod (pe_op op_mul (pv 4) pe_int) pe_int) pe_int) pe_int) pa_nil))))))
   (pss_one (ps_ret (pv 2)))))))), ?_⟩
  refine ⟨Nat.zero_le _, fun r hr0 => ?_⟩
  refine ⟨_, rfl, _, _, rfl, rfl, ⟨by decide, by decide, by decide⟩, _, _, rfl, rfl, ?_⟩
  show tSeq (tWhile _ _) _ _ _ _
  refine seq_post (fun σ H1 => ∃ (xs : List Int) (rest : Int), σ = [some (.int c), some (.int n), some (.ref r), some (.int rest), none] ∧ Same H H1 ∧ H1 r = some (.lst (xs.map V.int)) ∧ xs.length ≤ n ∧ (∀ x ∈ xs, 0 ≤ x ∧ x < 1009)) (fun nx hnx => ?_) ?_
  ·refine ⟨fun m σ H1 => ∃ (xs : List Int) (rest : Int), m = n - xs.length ∧ σ = [some (.int c), some (.int n), some (.ref r), some (.int rest), none] ∧ Same H H1 ∧ H1 r = some (.lst (xs.map V.int)) ∧ xs.length ≤ n ∧ (∀ x ∈ xs, 0 ≤ x ∧ x < 1009),
    ⟨n, [], _, rfl, rfl, Same.new hr0, upd_same, Nat.zero_le _, fun x hx => absurd hx (by simp)⟩, ?_⟩
   rintro m σ H1 ⟨xs, rest, rfl, rfl, sm, h1, hl, hx⟩
   have el : ((xs.map V.int).length : Int) = xs.length := by simp
   refine ⟨_, rfl, _, _, rfl, rfl, _, rfl, ?_⟩
   refine ite2 (fun _ => ?_) (fun _ => ?_)
   ·refine ⟨_, rfl, r, _, rfl, .inl (SqL.of h1), _, rfl, _, _, rfl, rfl, _, rfl, ?_⟩
    rw [el]
    refine ite2 (fun g => ?_) (fun _ => ?_)
    ·have g : (xs.length : Int) < n := by simpa using g
     refine ⟨_, fun σ' H' h => h, ?_⟩
     refine ⟨_, rfl, .inl ⟨rfl, _, SqL.of h1⟩, _, rfl, _, _, rfl, rfl, (by show (0 : Int) < 1009; decide), r, _, _, rfl, rfl, h1, (by rw [List.length_map]; exact small1000 (by omega)), ?_⟩
     refine ⟨_, rfl, _, _, rfl, rfl, ⟨by decide, by decide⟩, ?_⟩
     refine ⟨n - (xs ++ [rest % 1009]).length, ?_, xs ++ [rest % 1009], _, rfl, rfl, Same.add sm hr0, ?_, ?_, ?_⟩
     ·rw [List.length_append, List.length_singleton]; omega
     ·rw [upd_same, ← map_snoc]
     ·rw [List.length_append, List.length_singleton]; omega
     ·intro x hm
      rcases List.mem_append.mp hm with z | z
      ·exact hx x z
      ·have : x = rest % 1009 := by simpa using z
       subst this
       omega
    ·exact hnx _ _ ⟨xs, rest, rfl, sm, h1, hl, hx⟩
   ·exact hnx _ _ ⟨xs, rest, rfl, sm, h1, hl, hx⟩
  rintro σ H1 ⟨xs, rest, rfl, sm, h1, hl, hx⟩
  refine ⟨_, rfl, _, _, rfl, rfl, (by show (0 : Int) < 2147483629; decide), ?_⟩
  show tSeq (tWhile _ _) _ _ _ _
  refine seq_post (fun σ H1 => ∃ (xs : List Int) (rest seed : Int), σ = [some (.int c), some (.int n), some (.ref r), some (.int rest), some (.int seed)] ∧ Same H H1 ∧ H1 r = some (.lst (xs.map V.int)) ∧ xs.length = n ∧ (∀ x ∈ xs, 0 ≤ x ∧ x < 1009)) (fun nx hnx => ?_) ?_
  ·refine ⟨fun m σ H1 => ∃ (xs : List Int) (rest seed : Int), m = n - xs.length ∧ σ = [some (.int c), some (.int n), some (.ref r), some (.int rest), some (.int seed)] ∧ Same H H1 ∧ H1 r = some (.lst (xs.map V.int)) ∧ xs.length ≤ n ∧ (∀ x ∈ xs, 0 ≤ x ∧ x < 1009),
    ⟨n - xs.length, xs, rest, _, rfl, rfl, sm, h1, hl, hx⟩, ?_⟩
   clear h1 hl hx sm xs rest
   rintro m σ H1 ⟨xs, rest, seed, rfl, rfl, sm, h1, hl, hx⟩
   have el : ((xs.map V.int).length : Int) = xs.length := by simp
   refine ⟨_, rfl, r, _, rfl, .inl (SqL.of h1), _, rfl, _, _, rfl, rfl, _, rfl, ?_⟩
   rw [el]
   refine ite2 (fun g => ?_) (fun g => ?_)
   ·have g : (xs.length : Int) < n := by simpa using g
    refine ⟨_, fun σ' H' h => h, ?_⟩
    refine ⟨_, rfl, _, _, rfl, rfl, .inr ⟨by decide, by decide⟩, _, _, rfl, rfl, _, rfl, r, _, rfl, .inl (SqL.of h1), _, _, rfl, rfl, _, _, rfl, rfl, (by show (0 : Int) < 2147483647; decide), ?_⟩
    obtain ⟨y, hy⟩ : ∃ y, y = (seed * 48271 + 12345 + ((xs.map V.int).length : Int)) % 2147483647 * 69621 % 2147483629 / 7 % 1009 := ⟨_, rfl⟩
    refine ⟨_, rfl, .inl ⟨rfl, _, SqL.of h1⟩, _, rfl, _, _, rfl, rfl, .inr ⟨by decide, by decide⟩, _, _, rfl, rfl, (by show (0 : Int) < 2147483629; decide), _, _, rfl, rfl, ⟨by decide, by decide⟩, _, _, rfl, rfl, (by show (0 : Int) < 1009; decide), r, _, _, rfl, rfl, h1, (by rw [List.length_map]; exact small1000 (by omega)), ?_⟩
    refine ⟨n - (xs ++ [y]).length, ?_, xs ++ [y], _, _, rfl, rfl, Same.add sm hr0, ?_, ?_, ?_⟩
    ·rw [List.length_append, List.length_singleton]; omega
    ·rw [upd_same, ← map_snoc, hy]
    ·rw [List.length_append, List.length_singleton]; omega
    ·intro x hm
     rcases List.mem_append.mp hm with z | z
     ·exact hx x z
     ·have : x = y := by simpa using z
      rw [this, hy]
      exact ⟨Int.emod_nonneg _ (by decide), Int.emod_lt_of_pos _ (by decide)⟩
   ·have g : ¬ (xs.length : Int) < n := by simpa using g
    exact hnx _ _ ⟨xs, rest, seed, rfl, sm, h1, by omega, hx⟩
  rintro σ H1 ⟨xs, rest, seed, rfl, sm, h1, hl, hx⟩
  exact ⟨_, rfl, k r xs H1 sm hr0 h1 hl hx⟩
noncomputable def sp_sewn (K : PySem.W.Frag) : Sp := fun vs H Q _ => ∃ (a : Addr) (xs : List Int) (n : Nat) (sh : Int), vs = [.ref a, .int n, .int sh] ∧ H a = some (.lst (xs.map V.int)) ∧ xs.length = 60 ∧ (∀ x ∈ xs, 0 ≤ x ∧ x < 1009) ∧ 1 ≤ n ∧ n ≤ 14 ∧
 ∀ (p : Addr) (M : List (Option Nat)) (H' : Hp), Same H H' → H p = none → H' p = some (.lst (M.map mV)) → M.length = 3 * n → (∀ (i j : Nat), M[i]? = some (some j) → M[j]? = some (some i) ∧ i ≠ j) → Q (.ref p) H'
theorem map_set {α : Type} (f : α → V) (l : List α) (i : Nat) (x : α) : (l.map f).set i (f x) = (l.set i x).map f := by rw [List.map_set]
theorem ixN_nat {n i : Nat} (h : i < n) : ixN n (i : Int) = some i := by
 unfold ixN
 simp
 omega
theorem er_map {α β : Type} (f : α → β) : ∀ (l : List α) (i : Nat), (l.map f).eraseIdx i = (l.eraseIdx i).map f
 | [], _ => rfl
 | _ :: _, 0 => rfl
 | a :: r, i + 1 => by rw [List.map_cons, List.eraseIdx_cons_succ, er_map f r i, List.eraseIdx_cons_succ, List.map_cons]
theorem natV (F : List Nat) (i : Nat) : (F.map fun (j : Nat) => V.int j)[i]? = (F[i]?).map fun (j : Nat) => V.int j := List.getElem?_map ..
theorem sc_l_sewn : FnScope ["_law_nums", "_law_many", "_law_share", "_law_mates", "_law_free", "_law_at", "_law_one", "_law_pick", "_law_other"] ["_law_nums", "_law_many", "_law_share"] (defScope s_l_sewn) := ⟨rfl, rfl, rfl, by decide +kernel, rfl, by decide +kernel, by decide +kernel⟩
theorem ok_l_sewn (T : Txt w K mg t) : FnOk P w K mg base (CXr P w) 1 t.f_l_sewn t.d_l_sewn ["_law_nums", "_law_many", "_law_share"] (sp_sewn K) := by
 refine T.p_l_sewn.F.okR sc_l_sewn (fun vs H Q E h => ?_) (fun cdv A outer s H vs Q E hr h => ?_)
 ·obtain ⟨a, xs, n, sh, rfl, _⟩ := h
  rfl
 ·obtain ⟨a, xs, n, sh, rfl, ha, hl, hx, h1, h2, k⟩ := h
  refine ⟨_, (pss_cons (ps_set (i := 3) sc_l_sewn.nd rfl (Or.inl rfl) (pe_op op_rep (pe_lst (pa_cons pe_non pa_nil)) (pe_op op_mul pe_int (pv 1))))
   (pss_cons (ps_set (i := 4) sc_l_sewn.nd rfl (Or.inl rfl) (pe_listRange rfl T.n_list rfl T.n_range rfl (pa_cons (pe_op op_mul pe_int (pv 1)) pa_nil)))
   (pss_cons (ps_set (i := 5) sc_l_sewn.nd rfl (Or.inl rfl) pe_int)
   (pss_cons (ps_while PassesOwn.never (pt_cmpR op_gt (pe_callB call_len_seq (by rfl) T.n_len PySem.boot_len (pa_cons (pv 4) pa_nil)) pe_int (nomark _)) (pss_cons (ps_set (i := 6) sc_l_sewn.nd rfl (Or.inl rfl) (pe_bm PySem.F.plainAttrs_list PySem.F.slot_list_pop PySem.F.type_list_pop mt_popAt (pv 4) (pa_cons pe_int pa_nil)))
   (pss_cons (ps_set (i := 7) sc_l_sewn.nd rfl (Or.inl rfl) (pe_ix ix_list (pv 0) (pv 5) (fun _ _ => rfl)))
   (pss_cons (ps_set (i := 5) sc_l_sewn.nd rfl (Or.inl rfl) (pe_op op_add (pv 5) pe_int))
   (pss_one (ps_if (pt_cmpR op_ge (pe_op op_mod (pv 7) pe_int) (pv 2) (nomark _)) (pss_cons (ps_set (i := 8) sc_l_sewn.nd rfl (Or.inl rfl) (pe_bm PySem.F.plainAttrs_list PySem.F.slot_list_pop PySem.F.type_list_pop mt_popAt (pv 4) (pa_cons (pe_op op_mod (pe_op op_fdiv (pv 7) pe_int) (pe_callB call_len_seq (by rfl) T.n_len PySem.boot_len (pa_cons (pv 4) pa_nil))) pa_nil)))
   (pss_cons (ps_asg (pv 8) (pg_sub (pv 3) (pv 6) set_list))
   (pss_one (ps_asg (pv 6) (pg_sub (pv 3) (pv 8) set_list))))) pss_nil))))))
   (pss_one (ps_ret (pv 3))))))), ?_⟩
  refine ⟨(by show 1 ≤ sizeLine; decide), fun q hq => ?_⟩
  refine ⟨_, rfl, _, _, rfl, rfl, .inl ⟨by decide, by decide⟩, q, _, _, rfl, rfl, upd_same, (by omega), (by omega), ?_, fun m hm => ?_⟩
  ·have : (3 * (n : Int)).toNat = 3 * n := by omega
   show 1 * (3 * (n : Int)).toNat ≤ sizeLine
   rw [this, sizeLine_eq]; omega
  have eN : (3 * (n : Int)).toNat = 3 * n := by omega
  have eM : (List.replicate (3 * (n : Int)).toNat [V.non]).flatten = (List.replicate (3 * n) (none : Option Nat)).map mV := by
   rw [eN, List.flatten_replicate_singleton, List.map_replicate]
   rfl
  refine ⟨_, rfl, _, _, rfl, rfl, .inl ⟨by decide, by decide⟩, 3 * n, (congrArg (fun z => [V.int z]) (by omega : (3 * (n : Int)) = ((3 * n : Nat) : Int))), by omega, fun f hf => ?_⟩
  have hfm : f ≠ m := fun z => by rw [z, upd_same] at hf; cases hf
  have hm0 : H m = none := by
   have : m ≠ q := fun z => by rw [z, upd_same] at hm; cases hm
   rw [upd_ne this] at hm; exact hm
  have hf0 : H f = none := by
   rw [upd_ne hfm] at hf
   have : f ≠ q := fun z => by rw [z, upd_same] at hf; cases hf
   rw [upd_ne this] at hf; exact hf
  have sm0 : Same H (upd (upd (upd H q (.lst [.non])) m (.lst (List.replicate (3 * (n : Int)).toNat [V.non]).flatten)) f (.lst ((List.range (3 * n)).map fun (i : Nat) => V.int i))) := Same.add (Same.add (Same.new hq) hm0) hf0
  show tSeq (tWhile _ _) _ _ _ _
  refine seq_post (fun σ H1 => ∃ (M : List (Option Nat)) (v4 v5 v6 v7 v8 : Option V), σ = [some (.ref a), some (.int n), some (.int sh), some (.ref m), v4, v5, v6, v7, v8] ∧ Same H H1 ∧ H1 m = some (.lst (M.map mV)) ∧ M.length = 3 * n ∧ ∀ (i j : Nat), M[i]? = some (some j) → M[j]? = some (some i) ∧ i ≠ j) (fun nx hnx => ?_) ?_
  ·refine ⟨fun c σ H1 => ∃ (F : List Nat) (M : List (Option Nat)) (at' : Nat) (v6 v7 v8 : Option V), c = F.length ∧ σ = [some (.ref a), some (.int n), some (.int sh), some (.ref m), some (.ref f), some (.int at'), v6, v7, v8] ∧ Same H H1 ∧ H1 m = some (.lst (M.map mV)) ∧ H1 f = some (.lst (F.map fun (i : Nat) => V.int i)) ∧ SewOk (3 * n) F M ∧ at' + F.length ≤ 3 * n,
    ⟨_, List.range (3 * n), List.replicate (3 * n) none, 0, none, none, none, rfl, rfl, sm0, ?_, upd_same, SewOk.start _, by simp⟩, ?_⟩
   ·rw [upd_ne hfm.symm, upd_same, eM]
   rintro c σ H1 ⟨F, M, at', v6, v7, v8, rfl, rfl, sm, g1, g2, hs, hat⟩
   refine ⟨_, rfl, f, _, rfl, .inl (SqL.of g2), _, _, rfl, rfl, _, rfl, ?_⟩
   rw [List.length_map]
   refine ite2 (fun g => ?_) (fun g => ?_)
   ·have g : 1 < F.length := by have := of_decide_eq_true g; omega
    obtain ⟨one, F', rfl⟩ : ∃ one F', F = one :: F' := by
     cases F with
     | nil => simp at g
     | cons a b => exact ⟨a, b, rfl⟩
    rw [List.length_cons] at g hat
    refine ⟨_, fun σ' H' h => h, ?_⟩
    refine ⟨_, rfl, .inl ⟨rfl, _, SqL.of g2⟩, f, _, 0, 0, V.int one, rfl, rfl, g2, by decide, by decide, (by simp [seqIndex?]), rfl, ?_⟩
    have e0 : ((one :: F').map fun (i : Nat) => V.int i).eraseIdx 0 = F'.map fun (i : Nat) => V.int i := rfl
    rw [e0]
    have g2' : (upd H1 f (.lst (F'.map fun (i : Nat) => V.int i))) f = some (.lst (F'.map fun (i : Nat) => V.int i)) := upd_same
    have g1' : (upd H1 f (.lst (F'.map fun (i : Nat) => V.int i))) m = some (.lst (M.map mV)) := by rw [upd_ne hfm.symm]; exact g1
    have sm' : Same H (upd H1 f (.lst (F'.map fun (i : Nat) => V.int i))) := Same.add sm hf0
    generalize upd H1 f (.lst (F'.map fun (i : Nat) => V.int i)) = H2 at g1' g2' sm' ⊢
    have hpick : at' < xs.length := by omega
    refine ⟨_, rfl, _, rfl, a, _, _, _, rfl, rfl, SqL.of (sm' _ _ ha), atI_nat (getI hpick), ?_⟩
    obtain ⟨p0, p1⟩ := hx _ (List.getElem_mem hpick)
    have ep : xs.getD at' 0 = xs[at'] := by rw [List.getD_eq_getElem?_getD, List.getElem?_eq_getElem hpick]; rfl
    rw [ep]
    generalize xs[at'] = pick at p0 p1 ⊢
    refine ⟨_, rfl, _, _, rfl, rfl, ?_⟩
    refine ⟨_, rfl, _, _, rfl, rfl, (by show (0 : Int) < 7; decide), _, rfl, _, _, rfl, rfl, _, rfl, ?_⟩
    refine ite2 (fun _ => ?_) (fun _ => ?_)
    ·-- other = free.pop(..)
     have hF : (0 : Int) < F'.length := by omega
     have k0 := Int.emod_nonneg (pick / 7) (show (F'.length : Int) ≠ 0 by omega)
     have k1 := Int.emod_lt_of_pos (pick / 7) hF
     obtain ⟨kk, hkk⟩ : ∃ kk : Nat, pick / 7 % (F'.length : Int) = kk := ⟨_, (Int.toNat_of_nonneg k0).symm⟩
     have hkl : kk < F'.length := by omega
     refine ⟨_, rfl, .inl ⟨rfl, _, SqL.of g2'⟩, _, rfl, _, _, rfl, rfl, ⟨by decide, by decide⟩, _, rfl, f, _, rfl, .inl (SqL.of g2'), _, _, rfl, rfl, (by rw [List.length_map]; exact hF), f, _, _, kk, V.int F'[kk], rfl, rfl, g2', ?_, ?_, ?_, ?_, ?_⟩
     ·rw [List.length_map, hkk]; omega
     ·rw [List.length_map, hkk]; omega
     ·rw [List.length_map, hkk]; simp [seqIndex?]; omega
     ·rw [natV, List.getElem?_eq_getElem hkl]; rfl
     have e1 : (F'.map fun (i : Nat) => V.int i).eraseIdx kk = (F'.eraseIdx kk).map fun (i : Nat) => V.int i := by rw [er_map]
     rw [e1]
     have hp := hs.pair (List.getElem?_eq_getElem hkl)
     have l1 : one < M.length := by rw [hs.len]; exact (hs.free one List.mem_cons_self).1
     have l2 : F'[kk] < M.length := by rw [hs.len]; exact (hs.free _ (List.mem_cons_of_mem _ (List.getElem_mem hkl))).1
     have g1'' : (upd H2 f (.lst ((F'.eraseIdx kk).map fun (i : Nat) => V.int i))) m = some (.lst (M.map mV)) := by rw [upd_ne hfm.symm]; exact g1'
     refine ⟨_, rfl, _, rfl, _, rfl, m, _, _, one, rfl, rfl, g1'', (by rw [List.length_map]; exact ixN_nat l1), ?_⟩
     refine ⟨_, rfl, _, rfl, _, rfl, m, _, _, F'[kk], rfl, rfl, upd_same, (by rw [List.length_set, List.length_map]; exact ixN_nat l2), ?_⟩
     refine ⟨(F'.eraseIdx kk).length, ?_, F'.eraseIdx kk, (M.set one (some F'[kk])).set F'[kk] (some one), at' + 1, _, _, _, rfl, rfl, Same.add (Same.add (Same.add sm' hf0) hm0) hm0, ?_, ?_, hp, ?_⟩
     ·rw [List.length_eraseIdx_of_lt hkl, List.length_cons]; omega
     ·rw [upd_same]
      show some (HO.lst (((M.map mV).set one (mV (some F'[kk]))).set F'[kk] (mV (some one)))) = _
      rw [map_set, map_set]
     ·rw [upd_ne hfm, upd_ne hfm, upd_same]
     ·rw [List.length_eraseIdx_of_lt hkl]; omega
    ·exact ⟨F'.length, by rw [List.length_cons]; omega, F', M, at' + 1, _, _, _, rfl, rfl, sm', g1', g2', hs.skip, by omega⟩
   ·exact hnx _ _ ⟨M, _, _, _, _, _, rfl, sm, g1, hs.len, hs.inv⟩
  rintro σ H1 ⟨M, v4, v5, v6, v7, v8, rfl, sm, g1, hl', hi'⟩
  exact ⟨_, rfl, k m M H1 sm hm0 g1 hl' hi'⟩
end
end KT
set_option maxHeartbeats 4000000
namespace KT
open PySem L2
theorem loop_range {lo : Int} {n : Nat} {g : TG} {tt : TT} {tb : TB} {R : St → Hp → Prop} {σ : St} {H : Hp} (Pv : Nat → St → Hp → Prop) (h0 : Pv 0 σ H)
  (hs : ∀ (i : Nat) σ H, i < n → Pv i σ H → g (.int (lo + i)) σ H fun σ2 H2 => tt σ2 H2 fun b H3 => if b = true then tb σ2 H3 (Pv (i + 1)) else Pv (i + 1) σ2 H3) (hd : ∀ σ H, Pv n σ H → R σ H) : LoopR (Itr lo n) g tt tb R σ H := by
 refine ⟨fun i m σ H => m = n - i ∧ i ≤ n ∧ Pv i σ H, ⟨n, by simp, Nat.zero_le _, h0⟩, ?_⟩
 rintro i m σ H ⟨rfl, hi, p⟩
 by_cases hlt : i < n
 ·refine .inr ⟨hlt, Pv (i + 1), fun σ' H' p' => ⟨n - (i + 1), by omega, rfl, hlt, p'⟩, fun x H' y => ?_⟩
  obtain ⟨e, y⟩ := y
  subst e y
  exact hs i σ _ hlt p
 ·have e : i = n := by omega
  subst e
  exact .inl ⟨Nat.le_refl _, hd σ H p⟩
theorem loop_list {K : PySem.W.Frag} {a : Addr} {xs : List V} {g : TG} {tt : TT} {tb : TB} {R : St → Hp → Prop} {σ : St} {H : Hp} (Pv : Nat → St → Hp → Prop) (h0 : Pv 0 σ H) (hl : ∀ i σ H, i ≤ xs.length → Pv i σ H → SqL K H a xs)
  (hs : ∀ (i : Nat) x σ H, xs[i]? = some x → Pv i σ H → g x σ H fun σ2 H2 => tt σ2 H2 fun b H3 => if b = true then tb σ2 H3 (Pv (i + 1)) else Pv (i + 1) σ2 H3) (hd : ∀ σ H, Pv xs.length σ H → R σ H) : LoopR (Itl K a) g tt tb R σ H := by
 refine ⟨fun i m σ H => m = xs.length - i ∧ i ≤ xs.length ∧ Pv i σ H, ⟨xs.length, by simp, Nat.zero_le _, h0⟩, ?_⟩
 rintro i m σ H ⟨rfl, hi, p⟩
 have q := hl i σ H hi p
 by_cases hlt : i < xs.length
 ·refine .inr ⟨⟨xs, xs[i], q, by simp [hlt]⟩, Pv (i + 1), fun σ' H' p' => ⟨xs.length - (i + 1), by omega, rfl, hlt, p'⟩, fun x H' y => ?_⟩
  obtain ⟨e, y⟩ := y
  subst e
  exact hs i x σ _ (y xs q) p
 ·have e : i = xs.length := by omega
  subst e
  exact .inl ⟨⟨xs, q, Nat.le_refl _⟩, hd σ H p⟩
theorem loop_tup {K : PySem.W.Frag} {a : Addr} {xs : List V} {g : TG} {tt : TT} {tb : TB} {R : St → Hp → Prop} {σ : St} {H : Hp} (Pv : Nat → St → Hp → Prop) (h0 : Pv 0 σ H) (hl : ∀ i σ H, i ≤ xs.length → Pv i σ H → SqT K H a xs)
  (hs : ∀ (i : Nat) x σ H, xs[i]? = some x → Pv i σ H → g x σ H fun σ2 H2 => tt σ2 H2 fun b H3 => if b = true then tb σ2 H3 (Pv (i + 1)) else Pv (i + 1) σ2 H3) (hd : ∀ σ H, Pv xs.length σ H → R σ H) : LoopR (Itt K a) g tt tb R σ H := by
 refine ⟨fun i m σ H => m = xs.length - i ∧ i ≤ xs.length ∧ Pv i σ H, ⟨xs.length, by simp, Nat.zero_le _, h0⟩, ?_⟩
 rintro i m σ H ⟨rfl, hi, p⟩
 have q := hl i σ H hi p
 by_cases hlt : i < xs.length
 ·refine .inr ⟨⟨xs, xs[i], q, by simp [hlt]⟩, Pv (i + 1), fun σ' H' p' => ⟨xs.length - (i + 1), by omega, rfl, hlt, p'⟩, fun x H' y => ?_⟩
  obtain ⟨e, y⟩ := y
  subst e
  exact hs i x σ _ (y xs q) p
 ·have e : i = xs.length := by omega
  subst e
  exact .inl ⟨⟨xs, q, Nat.le_refl _⟩, hd σ H p⟩
noncomputable def row3 (ns : List Int) (k : Nat) : List V := [.int (ns.getD (3 * k) 0), .int (ns.getD (3 * k + 1) 0), .int (ns.getD (3 * k + 2) 0)]
noncomputable def RowsAt (H : Hp) (r : Addr) (ns : List Int) : Prop := ∃ ts : List Addr, H r = some (.lst (ts.map V.ref)) ∧ ns.length = 3 * ts.length ∧ ∀ (k : Nat) (t : Addr), ts[k]? = some t → H t = some (.tup (row3 ns k))
theorem RowsAt.same {H H' : Hp} {r : Addr} {ns : List Int} (h : RowsAt H r ns) (s : Same H H') : RowsAt H' r ns := by
 obtain ⟨ts, h1, h2, h3⟩ := h
 exact ⟨ts, s _ _ h1, h2, fun k t e => s _ _ (h3 k t e)⟩
noncomputable def sp_rows : Sp := fun vs H Q _ => ∃ (a : Addr) (M : List (Option Nat)) (n : Nat) (st sp : Int), vs = [.ref a, .int st, .int sp] ∧ H a = some (.lst (M.map mV)) ∧ M.length = 3 * n ∧ 1 ≤ n ∧ n ≤ 14 ∧ (∀ (i j : Nat), M[i]? = some (some j) → M[j]? = some (some i) ∧ i ≠ j) ∧ sp ∈ steps ∧
 ∀ (p : Addr) (H' : Hp), Same H H' → H p = none → RowsAt H' p (flat M st sp) → Q (.ref p) H'
theorem steps_small {t : Int} (h : t ∈ steps) : -(2 ^ 64) < t ∧ t < 2 ^ 64 := by
 simp only [steps, List.mem_cons, List.not_mem_nil, or_false] at h
 rcases h with rfl | rfl | rfl | rfl | rfl | rfl | rfl | rfl <;> decide
theorem mV_get {M : List (Option Nat)} {i : Nat} (h : i < M.length) : atI (M.map mV) (0 + (i : Int)) = some (mV M[i]) := by
 rw [Int.zero_add]
 exact atI_nat (by rw [List.getElem?_map, List.getElem?_eq_getElem h]; rfl)
section
variable {P : Program} {w : World} {K : PySem.W.Frag} {mg : Str → Option Value} {base : Heap} {t : Adr}
theorem sc_l_rows : FnScope ["_law_mates", "_law_start", "_law_step", "_law_flat", "_law_at", "_law_mate"] ["_law_mates", "_law_start", "_law_step"] (defScope s_l_rows) := ⟨rfl, rfl, rfl, by decide +kernel, rfl, by decide +kernel, by decide +kernel⟩
theorem ok_l_rows (T : Txt w K mg t) : FnOk P w K mg base (CXr P w) 1 t.f_l_rows t.d_l_rows ["_law_mates", "_law_start", "_law_step"] sp_rows := by
 refine T.p_l_rows.F.okR sc_l_rows (fun vs H Q E h => ?_) (fun cdv A outer s H vs Q E hr h => ?_)
 ·obtain ⟨a, M, n, st, sp, rfl, _⟩ := h
  rfl
 ·obtain ⟨a, M, n, st, sp, rfl, ha, hM, h1, h2, hi, hsp, k⟩ := h
  refine ⟨_, (pss_cons (ps_set (i := 3) sc_l_rows.nd rfl (Or.inr rfl) (pe_lst pa_nil))
   (pss_cons (ps_for PassesOwn.never rfl (pi_range1 rfl T.n_range (pa_cons (pe_callB call_len_seq (by rfl) T.n_len PySem.boot_len (pa_cons (pv 0) pa_nil)) pa_nil)) (pg_name (i := 4) sc_l_rows.nd rfl (Or.inl rfl)) (pss_cons (ps_set (i := 5) sc_l_rows.nd rfl (Or.inl rfl) (pe_ix ix_list (pv 0) (pv 4) (fun _ _ => rfl)))
   (pss_one (ps_if (PW.pt (pw_and (pt_cmpR op_notN (pv 5) pe_non (nomark _)) (pw_and1 (pt_cmpR op_lt (pv 5) (pv 4) (nomark _))))) (pss_one (ps_expr (pe_bm PySem.F.plainAttrs_list PySem.F.slot_list_append PySem.F.type_list_append mt_append (pv 3) (pa_cons (pe_ix ix_list (pv 3) (pv 5) (fun _ _ => rfl)) pa_nil)))) (pss_one (ps_expr (pe_bm PySem.F.plainAttrs_list PySem.F.slot_list_append PySem.F.type_list_append mt_append (pv 3) (pa_cons (pe_op op_mod (pe_op op_add (pv 1) (pe_op op_mul (pv 2) (pv 4))) pe_int) pa_nil))))))))
   (pss_one (ps_ret (pe_compG (ts := ["_law_k"]) (fv := [("_law_flat", 3)]) ⟨rfl, by decide +kernel, by decide +kernel, blkFree (by rfl), ⟨⟨rfl, rfl, Or.inl rfl⟩, trivial⟩⟩ rfl (pi_range1 rfl T.n_range (pa_cons (pe_op op_fdiv (pe_callB call_len_seq (by rfl) T.n_len PySem.boot_len (pa_cons (pv 0) pa_nil)) pe_int) pa_nil)) (fun _ _ _ _ => (pg_name (i := 0) (show List.Nodup (["_law_k", "_law_flat"] : List Str) from by decide +kernel) rfl (Or.inl rfl) (Or.inr rfl))) (fun _ _ _ _ => pts_nil) (fun _ _ _ => rfl) (fun _ _ _ _ _ _ => pb_emit (pe_tup (pa_cons (pe_ix (ix_listK K) (pv 1) (pe_op op_mul pe_int (pv 0)) (fun _ _ => rfl)) (pa_cons (pe_ix (ix_listK K) (pv 1) (pe_op op_add (pe_op op_mul pe_int (pv 0)) pe_int) (fun _ _ => rfl)) (pa_cons (pe_ix (ix_listK K) (pv 1) (pe_op op_add (pe_op op_mul pe_int (pv 0)) pe_int) (fun _ _ => rfl)) pa_nil)))))))))), ?_⟩
  refine ⟨Nat.zero_le _, fun f hf => ?_⟩
  have eL : (((M.map mV).length : Nat) : Int).toNat = M.length := by simp
  have ha1 : (upd H f (.lst [])) a = some (.lst (M.map mV)) := by rw [upd_ne (ne_of_none ha hf)]; exact ha
  dsimp only [gName]
  show tSeq (tFor _ _ _) _ _ _ _
  refine seq_post (fun σ H1 => ∃ (v4 v5 : Option V), σ = [some (.ref a), some (.int st), some (.int sp), some (.ref f), v4, v5] ∧ Same H H1 ∧ H1 f = some (.lst ((flat M st sp).map V.int))) (fun nx hnx => ?_) ?_
  ·refine ⟨_, rfl, a, _, rfl, .inl (SqL.of ha1), _, rfl, by omega, by rw [List.length_map]; omega, ?_⟩
   rw [eL]
   refine for_range (n := M.length) (fun i σ H1 => ∃ (v4 v5 : Option V), σ = [some (.ref a), some (.int st), some (.int sp), some (.ref f), v4, v5] ∧ Same H H1 ∧ H1 f = some (.lst (((List.range i).map fun i => nm st sp (rep M i)).map V.int))) ⟨none, none, rfl, Same.new hf, upd_same⟩ ?_ ?_
   ·rintro i σ H1 hlt ⟨v4, v5, rfl, sm, hfl⟩
    refine ⟨_, rfl, _, rfl, a, _, _, _, rfl, rfl, SqL.of (sm _ _ ha), mV_get hlt, ?_⟩
    have fin : ∀ x : Int, x = nm st sp (rep M i) → (upd H1 f (.lst (((List.range i).map fun i => nm st sp (rep M i)).map V.int ++ [V.int x]))) f = some (.lst (((List.range (i + 1)).map fun i => nm st sp (rep M i)).map V.int)) := fun x hx => by
     rw [upd_same, hx, List.range_succ]
     simp
    have hlen : (((List.range i).map fun i => nm st sp (rep M i)).map V.int).length < sizeLine := by
     rw [List.length_map, List.length_map, List.length_range]; exact small1000 (by omega)
    refine ⟨_, rfl, rfl, _, rfl, ?_⟩
    cases e : M[i] with
    | none =>
     have er : rep M i = i := by unfold rep; rw [List.getElem?_eq_getElem hlt, e]
     refine iteF ?_
     refine iteF ?_
     refine ⟨_, rfl, .inl ⟨rfl, _, SqL.of hfl⟩, _, rfl, _, rfl, _, rfl, _, _, rfl, rfl, .inl (steps_small hsp), _, _, rfl, rfl, _, _, rfl, rfl, (by show (0 : Int) < 10000; decide), f, _, _, rfl, rfl, hfl, hlen, ?_⟩
     exact ⟨_, _, rfl, Same.add sm hf, fin _ (by rw [er]; unfold nm; rw [Int.zero_add])⟩
    | some j =>
     have hMi : M[i]? = some (some j) := by rw [List.getElem?_eq_getElem hlt, e]
     refine iteT ?_
     refine ⟨_, rfl, _, rfl, _, _, rfl, rfl, _, rfl, ?_⟩
     refine ite2 (fun g => ?_) (fun g => ?_)
     ·have g : j < i := by have := of_decide_eq_true g; omega
      have er : rep M i = j := by unfold rep; rw [hMi]; exact if_pos g
      have erj : rep M j = j := by unfold rep; rw [(hi i j hMi).1]; exact if_neg (by omega)
      have ej : atI (((List.range i).map fun i => nm st sp (rep M i)).map V.int) (j : Int) = some (V.int (nm st sp (rep M i))) := by
       refine atI_nat ?_
       rw [List.getElem?_map, List.getElem?_map, List.getElem?_range g, er]
       show some (V.int (nm st sp (rep M j))) = _
       rw [erj]
      refine ⟨_, rfl, .inl ⟨rfl, _, SqL.of hfl⟩, _, rfl, _, rfl, f, _, _, _, rfl, rfl, SqL.of hfl, ej, f, _, _, rfl, rfl, hfl, hlen, ?_⟩
      exact ⟨_, _, rfl, Same.add sm hf, fin _ rfl⟩
     ·have g : ¬ j < i := by
       have : ¬ ((j : Int) < 0 + (i : Int)) := fun z => g (decide_eq_true z)
       omega
      have er : rep M i = i := by unfold rep; rw [hMi]; exact if_neg g
      refine ⟨_, rfl, .inl ⟨rfl, _, SqL.of hfl⟩, _, rfl, _, rfl, _, rfl, _, _, rfl, rfl, .inl (steps_small hsp), _, _, rfl, rfl, _, _, rfl, rfl, (by show (0 : Int) < 10000; decide), f, _, _, rfl, rfl, hfl, hlen, ?_⟩
      exact ⟨_, _, rfl, Same.add sm hf, fin _ (by rw [er]; unfold nm; rw [Int.zero_add])⟩
   ·rintro σ H1 ⟨v4, v5, rfl, sm, hfl⟩
    exact hnx _ _ ⟨v4, v5, rfl, sm, hfl⟩
  rintro σ H1 ⟨v4, v5, rfl, sm, hfl⟩
  refine ⟨_, rfl, a, _, rfl, .inl (SqL.of (sm _ _ ha)), _, _, rfl, rfl, ⟨by decide, by decide⟩, _, rfl, by rw [List.length_map]; omega, by rw [List.length_map]; omega, fun D hD => ?_⟩
  have eD : ((((M.map mV).length : Nat) : Int) / 3).toNat = n := by rw [List.length_map, hM]; omega
  have hD0 : H D = none := sm.free hD
  have hfD : f ≠ D := fun z => by rw [z] at hfl; rw [hD] at hfl; cases hfl
  have hlf : (flat M st sp).length = 3 * n := by unfold flat; simp [hM]
  show LoopR (Itr 0 ((((M.map mV).length : Nat) : Int) / 3).toNat) _ _ _ _ _ _
  rw [eD]
  refine loop_range (fun i σ H2 => ∃ (ts : List Addr) (v : Option V), σ = [v, some (.ref f)] ∧ Same H H2 ∧ H2 D = some (.lst (ts.map V.ref)) ∧ ts.length = i ∧ H2 f = some (.lst ((flat M st sp).map V.int)) ∧ ∀ (k : Nat) (t : Addr), ts[k]? = some t → H2 t = some (.tup (row3 (flat M st sp) k)))
   ⟨[], none, rfl, Same.add sm hD0, upd_same, rfl, by rw [upd_ne hfD]; exact hfl, fun k t z => by simp at z⟩ ?_ ?_
  ·rintro i σ H2 hlt ⟨ts, v, rfl, sm2, g1, hl2, g2, g3⟩
   have at' : ∀ (c : Nat) (z : Int), c < 3 → z = 3 * (0 + (i : Int)) + c → atI ((flat M st sp).map V.int) z = some (V.int ((flat M st sp).getD (3 * i + c) 0)) := fun c z hc hz => by
    have e : z = ((3 * i + c : Nat) : Int) := by omega
    rw [e]
    exact atI_nat (getI (by omega))
   dsimp only [gName, tYes]
   rw [if_pos rfl]
   refine ⟨_, rfl, _, rfl, _, _, rfl, rfl, .inl ⟨by decide, by decide⟩, f, _, _, _, rfl, rfl, SqL.of g2, at' 0 _ (by decide) (by simp), ?_⟩
   refine ⟨_, rfl, _, rfl, _, _, rfl, rfl, .inl ⟨by decide, by decide⟩, _, _, rfl, rfl, f, _, _, _, rfl, rfl, SqL.of g2, at' 1 _ (by decide) rfl, ?_⟩
   refine ⟨_, rfl, _, rfl, _, _, rfl, rfl, .inl ⟨by decide, by decide⟩, _, _, rfl, rfl, f, _, _, _, rfl, rfl, SqL.of g2, at' 2 _ (by decide) rfl, ?_⟩
   refine ⟨(by show 3 ≤ sizeLine; decide), fun q hq => ?_⟩
   have hqD : q ≠ D := fun z => by rw [z, g1] at hq; cases hq
   have hqf : q ≠ f := fun z => by rw [z, g2] at hq; cases hq
   have hq0 : H q = none := sm2.free hq
   refine ⟨_, by rw [upd_ne (Ne.symm hqD)]; exact g1, (by rw [List.length_map]; exact small1000 (by omega)), ts ++ [q], _, rfl, Same.add (Same.add sm2 hq0) hD0, ?_, ?_, ?_, ?_⟩
   ·rw [upd_same]; simp
   ·rw [List.length_append, List.length_singleton, hl2]
   ·rw [upd_ne hfD, upd_ne (Ne.symm hqf)]; exact g2
   ·intro k t z
    by_cases hk : k < ts.length
    ·rw [List.getElem?_append_left hk] at z
     have g := g3 k t z
     rw [upd_ne (fun e => by rw [e, g1] at g; cases g), upd_ne (ne_of_none g hq)]
     exact g
    ·have hk2 : k = ts.length := by
      have := (List.getElem?_eq_some_iff.mp z).1
      rw [List.length_append, List.length_singleton] at this
      omega
     subst hk2
     have : t = q := by simpa using z.symm
     subst this
     rw [upd_ne hqD, upd_same, hl2]
     rfl
  ·rintro σ H2 ⟨ts, v, rfl, sm2, g1, hl2, g2, g3⟩
   exact k D H2 sm2 hD0 ⟨ts, g1, by rw [hlf, hl2], g3⟩
end
end KT
set_option maxHeartbeats 4000000
namespace KT
open PySem L2
theorem at4 {i : Int} (h0 : 0 ≤ i) (h1 : i < 4) : ∃ sh : Int, atI [V.int 0, V.int 0, V.int 1, V.int 3] i = some (V.int sh) := by
 obtain rfl | rfl | rfl | rfl : i = 0 ∨ i = 1 ∨ i = 2 ∨ i = 3 := by omega
 all_goals exact ⟨_, rfl⟩
theorem at8 {i : Int} (h0 : 0 ≤ i) (h1 : i < 8) : ∃ sp : Int, sp ∈ steps ∧ atI [V.int 1, V.int 3, V.int 7, V.int 9, V.int 37, V.int 1009, V.int 3333, V.int 9999] i = some (V.int sp) := by
 obtain rfl | rfl | rfl | rfl | rfl | rfl | rfl | rfl : i = 0 ∨ i = 1 ∨ i = 2 ∨ i = 3 ∨ i = 4 ∨ i = 5 ∨ i = 6 ∨ i = 7 := by omega
 all_goals exact ⟨_, by decide, rfl⟩
noncomputable def sp_tent (K : PySem.W.Frag) : Sp := fun vs H Q _ => ∃ (a : Addr) (ns : List Int), vs = [.ref a] ∧ SqL K H a (ns.map V.int) ∧ ns.length ≤ 63 ∧
 ∀ (p m r : Addr) (M : List (Option Nat)) (nms : List Int) (H' : Hp), Same H H' → H' p = some (.tup [.ref m, .ref r]) → H' m = some (.lst (M.map mV)) → RowsAt H' r nms → TD M nms → M.length ≤ 42 → H m = none → H r = none → Q (.ref p) H'
section
variable {P : Program} {w : World} {K : PySem.W.Frag} {mg : Str → Option Value} {base : Heap} {t : Adr}
theorem sc_l_tent : FnScope ["_law_script", "_law_head", "_law_many", "_law_names", "_law_share", "_law_mates", "_law_step"] ["_law_script"] (defScope s_l_tent) := ⟨rfl, rfl, rfl, by decide +kernel, rfl, by decide +kernel, by decide +kernel⟩
theorem ok_l_tent (T : Txt w K mg t) : FnOk P w K mg base (CXr P w) 2 t.f_l_tent t.d_l_tent ["_law_script"] (sp_tent K) := by
 refine T.p_l_tent.F.okR sc_l_tent (fun vs H Q E h => ?_) (fun cdv A outer s H vs Q E hr h => ?_)
 ·obtain ⟨a, ns, rfl, _⟩ := h
  rfl
 ·obtain ⟨a, ns, rfl, hS, hl, k⟩ := h
  refine ⟨_, (pss_cons (ps_set (i := 1) sc_l_tent.nd rfl (Or.inl rfl) (pe_call (ok_l_cell T) (hr.mono (by decide)) rfl T.p_l_cell.g T.p_l_cell.F.kp T.p_l_cell.b .nil passR (pa_cons (pv 0) (pa_cons pe_int pa_nil))))
   (pss_cons (ps_set (i := 2) sc_l_tent.nd rfl (Or.inl rfl) (pe_op op_add pe_int (pe_op op_mod (pv 1) pe_int)))
   (pss_cons (ps_if (pt_cmpR op_eq (pe_op op_mod (pe_op op_fdiv (pv 1) pe_int) pe_int) pe_int (nomark _)) (pss_one (ps_set (i := 2) sc_l_tent.nd rfl (Or.inl rfl) (pe_op op_add pe_int (pe_op op_mod (pe_op op_fdiv (pv 1) pe_int) pe_int)))) pss_nil)
   (pss_cons (ps_set (i := 3) sc_l_tent.nd rfl (Or.inl rfl) (pe_call (ok_l_cell T) (hr.mono (by decide)) rfl T.p_l_cell.g T.p_l_cell.F.kp T.p_l_cell.b .nil passR (pa_cons (pv 0) (pa_cons pe_int pa_nil))))
   (pss_cons (ps_set (i := 4) sc_l_tent.nd rfl (Or.inl rfl) (pe_ix ix_tup (pe_tup (pa_cons pe_int (pa_cons pe_int (pa_cons pe_int (pa_cons pe_int pa_nil))))) (pe_op op_mod (pv 3) pe_int) (fun _ _ => rfl)))
   (pss_cons (ps_set (i := 5) sc_l_tent.nd rfl (Or.inl rfl) (pe_call (ok_l_sewn T) (hr.mono (by decide)) rfl T.p_l_sewn.g T.p_l_sewn.F.kp T.p_l_sewn.b .nil passR (pa_cons (pe_call (ok_l_numbers T) (hr.mono (by decide)) rfl T.p_l_numbers.g T.p_l_numbers.F.kp T.p_l_numbers.b .nil passR (pa_cons (pe_call (ok_l_cell T) (hr.mono (by decide)) rfl T.p_l_cell.g T.p_l_cell.F.kp T.p_l_cell.b .nil passR (pa_cons (pv 0) (pa_cons pe_int pa_nil))) (pa_cons pe_int pa_nil))) (pa_cons (pv 2) (pa_cons (pv 4) pa_nil)))))
   (pss_cons (ps_set (i := 6) sc_l_tent.nd rfl (Or.inl rfl) (pe_ix ix_tup (pe_tup (pa_cons pe_int (pa_cons pe_int (pa_cons pe_int (pa_cons pe_int (pa_cons pe_int (pa_cons pe_int (pa_cons pe_int (pa_cons pe_int pa_nil))))))))) (pe_op op_mod (pe_op op_fdiv (pv 3) pe_int) pe_int) (fun _ _ => rfl)))
   (pss_one (ps_ret (pe_tup (pa_cons (pv 5) (pa_cons (pe_call (ok_l_rows T) (hr.mono (by decide)) rfl T.p_l_rows.g T.p_l_rows.F.kp T.p_l_rows.b .nil passR (pa_cons (pv 5) (pa_cons (pe_op op_mod (pe_op op_fdiv (pv 3) pe_int) pe_int) (pa_cons (pv 6) pa_nil)))) pa_nil)))))))))))), ?_⟩
  refine ⟨_, rfl, a, ns, 0, rfl, hS, hl, by decide, by decide, ?_⟩
  generalize cell ns 0 = hd
  refine ⟨_, rfl, _, _, rfl, rfl, (by show (0 : Int) < 6; decide), _, _, rfl, rfl, ?_⟩
  dsimp only [gName]
  show tSeq (tIfS _ _ _) _ _ _ _
  refine seq_post (fun σ H1 => ∃ n : Nat, 1 ≤ n ∧ n ≤ 14 ∧ σ = [some (.ref a), some (.int hd), some (.int n), none, none, none, none] ∧ H1 = H) (fun nx hnx => ?_) ?_
  ·refine ⟨_, rfl, _, _, rfl, rfl, ⟨by decide, by decide⟩, _, _, rfl, rfl, (by show (0 : Int) < 9; decide), rfl, _, rfl, ?_⟩
   refine ite2 (fun _ => ?_) (fun _ => ?_)
   ·refine ⟨_, rfl, _, _, rfl, rfl, ⟨by decide, by decide⟩, _, _, rfl, rfl, (by show (0 : Int) < 8; decide), _, _, rfl, rfl, ?_⟩
    have e : (7 + hd / 54 % 8 : Int) = ((7 + (hd / 54 % 8).toNat : Nat) : Int) := by omega
    exact hnx _ _ ⟨7 + (hd / 54 % 8).toNat, by omega, by omega, by rw [← e]; rfl, rfl⟩
   ·have e : (1 + hd % 6 : Int) = ((1 + (hd % 6).toNat : Nat) : Int) := by omega
    exact hnx _ _ ⟨1 + (hd % 6).toNat, by omega, by omega, by rw [← e]; rfl, rfl⟩
  rintro σ H1 ⟨n, n1, n2, rfl, rfl⟩
  refine ⟨_, rfl, a, ns, 2, rfl, hS, hl, by decide, by decide, ?_⟩
  generalize cell ns 2 = nam
  refine ⟨(by show 4 ≤ sizeLine; decide), fun q hq => ?_⟩
  have m4 : 0 ≤ nam % 4 ∧ nam % 4 < 4 := by omega
  obtain ⟨sh, esh⟩ := at4 m4.1 m4.2
  refine ⟨_, rfl, _, _, rfl, rfl, (by show (0 : Int) < 4; decide), q, _, _, _, rfl, rfl, SqT.of upd_same, esh, ?_⟩
  have s1 : Same H1 (upd H1 q (.tup [V.int 0, V.int 0, V.int 1, V.int 3])) := Same.new hq
  refine ⟨_, rfl, a, ns, 1, rfl, s1.seq hS, hl, by decide, by decide, ?_⟩
  refine ⟨_, 60, rfl, by decide, fun p xs H2 s2 hp h2 h60 hx => ?_⟩
  refine ⟨_, rfl, _, rfl, p, xs, n, sh, rfl, h2, h60, hx, n1, n2, fun m M H3 s3 hm hM hlen hinv => ?_⟩
  have s13 : Same H1 H3 := (s1.trans s2).trans s3
  have hm0 : H1 m = none := (s1.trans s2).free hm
  refine ⟨(by show 8 ≤ sizeLine; decide), fun q2 hq2 => ?_⟩
  have m8 : 0 ≤ nam / 4 % 8 ∧ nam / 4 % 8 < 8 := by omega
  obtain ⟨sp, hsp, esp⟩ := at8 m8.1 m8.2
  refine ⟨_, rfl, _, _, rfl, rfl, ⟨by decide, by decide⟩, _, _, rfl, rfl, (by show (0 : Int) < 8; decide), q2, _, _, _, rfl, rfl, SqT.of upd_same, esp, ?_⟩
  have s14 : Same H1 (upd H3 q2 (.tup [V.int 1, V.int 3, V.int 7, V.int 9, V.int 37, V.int 1009, V.int 3333, V.int 9999])) := Same.add s13 (s13.free hq2)
  have hM4 : (upd H3 q2 (.tup [V.int 1, V.int 3, V.int 7, V.int 9, V.int 37, V.int 1009, V.int 3333, V.int 9999])) m = some (.lst (M.map mV)) := by rw [upd_ne (ne_of_none hM hq2)]; exact hM
  refine ⟨_, rfl, _, rfl, _, rfl, _, _, rfl, rfl, ⟨by decide, by decide⟩, _, _, rfl, rfl, (by show (0 : Int) < 10000; decide), _, rfl, m, M, n, _, sp, rfl, hM4, hlen, n1, n2, hinv, hsp, fun r H5 s5 hr5 hrow => ?_⟩
  refine ⟨(by show 2 ≤ sizeLine; decide), fun p5 hp5 => ?_⟩
  have s15 := s14.trans s5
  have hr0 : H1 r = none := s14.free hr5
  refine k p5 m r M _ _ (Same.add s15 (s15.free hp5)) upd_same ?_ (hrow.same (Same.new hp5)) (td_flat n1 n2 hlen hinv hsp) (by omega) hm0 hr0
  rw [upd_ne (ne_of_none (s5 _ _ hM4) hp5)]
  exact s5 _ _ hM4
end
end KT
set_option maxHeartbeats 4000000
namespace KT
open PySem L2
noncomputable def spk (ns : List Int) (n : Nat) (f : Int → Addr) : List (Key × V) := (keys ns n).map fun x => ((Sum.inl x : Key), V.ref (f x))
structure SpotsF (H : Hp) (ns : List Int) (n : Nat) (f : Int → Addr) : Prop where
 inj : ∀ x ∈ keys ns n, ∀ y ∈ keys ns n, f x = f y → x = y
 at' : ∀ x ∈ keys ns n, H (f x) = some (.lst ((pl ns n x).map nV))
noncomputable def sp_spots_of : Sp := fun vs H Q _ => ∃ (a : Addr) (M : List (Option Nat)) (ns : List Int), vs = [.ref a] ∧ H a = some (.lst (ns.map V.int)) ∧ TD M ns ∧ ns.length ≤ 120 ∧
 ∀ (d : Addr) (f : Int → Addr) (H' : Hp), Same H H' → H d = none → H' d = some (.dK (spk ns ns.length f)) → SpotsF H' ns ns.length f → (∀ x ∈ keys ns ns.length, H (f x) = none) → Q (.ref d) H'
section
variable {P : Program} {w : World} {K : PySem.W.Frag} {mg : Str → Option Value} {base : Heap} {t : Adr}
theorem sc_spots_of : FnScope ["names_at", "spots", "place", "name"] ["names_at"] (defScope s_spots_of) := ⟨rfl, rfl, rfl, by decide +kernel, rfl, by decide +kernel, by decide +kernel⟩
theorem ok_spots_of (T : Txt w K mg t) : FnOk P w K mg base (CXr P w) 1 t.f_spots_of t.d_spots_of ["names_at"] sp_spots_of := by
 refine T.p_spots_of.F.okR sc_spots_of (fun vs H Q E h => ?_) (fun cdv A outer s H vs Q E hr h => ?_)
 ·obtain ⟨a, M, ns, rfl, _⟩ := h
  rfl
 ·obtain ⟨a, M, ns, rfl, ha, td, hl, k⟩ := h
  have hu := hu_of hr
  refine ⟨_, (pss_cons (ps_set (i := 1) sc_spots_of.nd rfl (Or.inl rfl) pe_dnewK)
   (pss_cons (ps_for PassesOwn.never rfl (pi_enum rfl T.n_enumerate (pa_cons (pv 0) pa_nil)) (pg_tup rfl (pgs_cons (pg_name (i := 2) sc_spots_of.nd rfl (Or.inl rfl)) (pgs_cons (pg_name (i := 3) sc_spots_of.nd rfl (Or.inl rfl)) pgs_nil))) (pss_cons (ps_if (PW.pt (pw_or (pt_cmpR op_lt (pv 3) pe_int (nomark _)) (pw_or1 (pt_cmpR op_gt (pv 3) (pe_glob (v := .int 9999) rfl T.c_GREATEST_NAME ⟨_, rfl⟩) (nomark _))))) pss_never pss_nil)
   (pss_cons (ps_expr (pe_bm PySem.F.plainAttrs_list PySem.F.slot_list_append PySem.F.type_list_append mt_append (pe_dsetd (pv 1) (pv 3) (pe_lst pa_nil) ⟨rfl, rfl, rfl, rfl⟩) (pa_cons (pv 2) pa_nil)))
   (pss_one (ps_if (pt_cmpR op_gt (pe_callB call_len_seq (by rfl) T.n_len PySem.boot_len (pa_cons (pe_dget hu (pv 1) (pv 3) (fun _ _ => rfl)) pa_nil)) pe_int (nomark _)) pss_never pss_nil)))))
   (pss_one (ps_ret (pv 1))))), ?_⟩
  intro d hd
  have hda : a ≠ d := ne_of_none ha hd
  dsimp only [gName]
  show tSeq (tFor _ _ _) _ _ _ _
  refine seq_post (fun σ H1 => ∃ (f : Int → Addr) (v2 v3 : Option V), σ = [some (.ref a), some (.ref d), v2, v3] ∧ Same H H1 ∧ H1 d = some (.dK (spk ns ns.length f)) ∧ SpotsF H1 ns ns.length f ∧ ∀ x ∈ keys ns ns.length, H (f x) = none) (fun nx hnx => ?_) ?_
  ·refine ⟨_, rfl, a, rfl, ⟨_, SqL.of (by rw [upd_ne hda]; exact ha)⟩, ?_⟩
   have el : (ns.map V.int).length = ns.length := by simp
   refine for_enum (xs := ns.map V.int) (fun i σ H1 => ∃ (f : Int → Addr) (v2 v3 : Option V), σ = [some (.ref a), some (.ref d), v2, v3] ∧ Same H H1 ∧ H1 d = some (.dK (spk ns i f)) ∧ SpotsF H1 ns i f ∧ ∀ x ∈ keys ns i, H (f x) = none)
    ⟨fun _ => 0, none, none, rfl, Same.new hd, upd_same, ⟨fun x hx => by simp [keys] at hx, fun x hx => by simp [keys] at hx⟩, fun x hx => by simp [keys] at hx⟩ ?_ ?_ ?_
   ·rintro i σ H1 _ ⟨f, v2, v3, rfl, sm, _⟩
    exact SqL.of (sm _ _ ha)
   ·rintro i x0 σ H1 q hx hq ⟨f, v2, v3, rfl, sm, hd1, sf, hf0⟩
    have hi : i < ns.length := by rw [← el]; exact (List.getElem?_eq_some_iff.mp hx).1
    obtain ⟨x, hx'⟩ : ∃ x, ns[i]? = some x := ⟨_, List.getElem?_eq_getElem hi⟩
    obtain rfl : x0 = V.int x := by rw [List.getElem?_map, hx'] at hx; exact (Option.some.inj hx).symm
    refine ⟨q, _, rfl, SqT.of upd_same, rfl, _, _, rfl, _, _, rfl, rfl, ?_⟩
    obtain ⟨x0, x1⟩ := td.rng i x hx'
    refine ⟨_, rfl, _, _, rfl, rfl, _, rfl, ?_⟩
    rw [decide_eq_false (by omega : ¬ x < 0)]
    refine iteF ?_
    refine ⟨_, rfl, _, _, rfl, rfl, _, rfl, ?_⟩
    rw [decide_eq_false (by omega : ¬ x > 9999)]
    refine iteF ?_
    have hdq : d ≠ q := ne_of_none hd1 hq
    have hd2 : (upd H1 q (.tup [.int i, .int x])) d = some (.dK (spk ns i f)) := by rw [upd_ne hdq]; exact hd1
    dsimp only [tNext]
    show tSeq (tDrop _) _ _ _ _
    refine seq_post (fun σ H2 => ∃ (f : Int → Addr), σ = [some (.ref a), some (.ref d), some (.int i), some (.int x)] ∧ Same H H2 ∧ H2 d = some (.dK (spk ns (i + 1) f)) ∧ SpotsF H2 ns (i + 1) f ∧ ∀ x ∈ keys ns (i + 1), H (f x) = none) (fun nx2 hnx2 => ?_) ?_
    ·refine ⟨_, rfl, d, rfl, .inl ⟨_, .inl hd2⟩, _, rfl, Nat.zero_le _, fun l hl' => ?_⟩
     obtain ⟨hlq, hl1⟩ := upd_none hl'
     have hdl : d ≠ l := ne_of_none hd1 hl1
     have hd3 : (upd (upd H1 q (.tup [.int i, .int x])) l (.lst [])) d = some (.dK (spk ns i f)) := by rw [upd_ne hdl]; exact hd2
     have hlk : (spk ns i f).length < sizeLine := by unfold spk; rw [List.length_map]; exact small1000 (by have := keys_len ns i; omega)
     have hq0 : H q = none := sm.free hq
     have hl0 : H l = none := sm.free hl1
     have smq : Same H (upd (upd H1 q (.tup [.int i, .int x])) l (.lst [])) := Same.add (Same.add sm hq0) hl0
     have hp2 : (pl ns i x).length < sizeLine := small1000 (by have := pl_le2 td i x; omega)
     have old : ∀ b u, H1 b = some u → (upd (upd H1 q (.tup [.int i, .int x])) l (.lst [])) b = some u := fun b u e => by rw [upd_ne (ne_of_none e hl1), upd_ne (ne_of_none e hq)]; exact e
     refine ⟨spk ns i f, Sum.inl x, hd3, hlk, rfl, fun v hv => ?_, fun hv => ?_⟩
     ·-- the name stands already
      have hx2 : x ∈ keys ns i := by
       unfold spk at hv
       rw [val_map] at hv
       by_cases c : x ∈ keys ns i
       ·exact c
       ·rw [if_neg c] at hv; cases hv
      obtain rfl : v = V.ref (f x) := by
       unfold spk at hv
       rw [val_map, if_pos hx2] at hv
       exact (Option.some.inj hv).symm
      have ek : keys ns (i + 1) = keys ns i := by rw [keys_step hx', if_pos hx2]
      have hfx := old _ _ (sf.at' x hx2)
      refine ⟨.inl ⟨rfl, _, SqL.of hfx⟩, _, rfl, f x, _, _, rfl, rfl, hfx, by rw [List.length_map]; exact hp2, hnx2 _ _ ⟨f, rfl, Same.add smq (hf0 x hx2), ?_, ⟨?_, ?_⟩, ?_⟩⟩
      ·have : d ≠ f x := fun z => by rw [← z, hd3] at hfx; cases hfx
       rw [upd_ne this, hd3]
       unfold spk
       rw [ek]
      ·rw [ek]; exact sf.inj
      ·intro y hy
       rw [ek] at hy
       by_cases c : y = x
       ·subst c
        rw [upd_same, pl_same hx', List.map_append]
        rfl
       ·have : f y ≠ f x := fun z => c (sf.inj y hy x hx2 z)
        rw [upd_ne this, old _ _ (sf.at' y hy), pl_other (by rw [hx']; intro z; cases z; exact c rfl)]
      ·rw [ek]; exact hf0
     ·-- a new name
      have hx2 : x ∉ keys ns i := by
       intro c
       unfold spk at hv
       rw [val_map, if_pos c] at hv
       cases hv
      have ek : keys ns (i + 1) = keys ns i ++ [x] := by rw [keys_step hx', if_neg hx2]
      have ep : putK (spk ns i f) (Sum.inl x) (V.ref l) = spk ns (i + 1) (fun y => if y = x then l else f y) := by
       unfold spk
       rw [put_new hx2, ek, List.map_append]
       congr 1
       ·apply List.map_congr_left
        intro y hy
        dsimp only
        rw [if_neg (fun (z : y = x) => hx2 (z ▸ hy))]
       ·simp
      rw [ep]
      have hl4 : (upd (upd (upd H1 q (.tup [.int i, .int x])) l (.lst [])) d (.dK (spk ns (i + 1) (fun y => if y = x then l else f y)))) l = some (.lst []) := by rw [upd_ne (Ne.symm hdl), upd_same]
      refine ⟨.inl ⟨rfl, _, SqL.of hl4⟩, _, rfl, l, _, _, rfl, rfl, hl4, by decide, hnx2 _ _ ⟨fun y => if y = x then l else f y, rfl, Same.add (Same.add smq hd) hl0, ?_, ⟨?_, ?_⟩, ?_⟩⟩
      ·rw [upd_ne hdl, upd_same]
      ·intro y hy z hz e
       rw [ek, List.mem_append, List.mem_singleton] at hy hz
       by_cases c1 : y = x
       ·by_cases c2 : z = x
        ·rw [c1, c2]
        ·have hz' := hz.resolve_right c2
         simp only [c1, c2, if_true, if_false] at e
         exact absurd (sf.at' z hz') (by rw [← e, hl1]; intro w; cases w)
       ·have hy' := hy.resolve_right c1
        by_cases c2 : z = x
        ·simp only [c1, c2, if_true, if_false] at e
         exact absurd (sf.at' y hy') (by rw [e, hl1]; intro w; cases w)
        ·have hz' := hz.resolve_right c2
         simp only [c1, c2, if_false] at e
         exact sf.inj y hy' z hz' e
      ·intro y hy
       rw [ek, List.mem_append, List.mem_singleton] at hy
       by_cases c : y = x
       ·subst c
        simp only [if_true]
        rw [upd_same, pl_same hx', pl_nil hx2]
        rfl
       ·have hy' := hy.resolve_right c
        have e1 := sf.at' y hy'
        have n1 : f y ≠ l := ne_of_none e1 hl1
        have n2 : f y ≠ d := fun z => by rw [z, hd1] at e1; cases e1
        simp only [c, if_false]
        rw [upd_ne n1, upd_ne n2, old _ _ e1, pl_other (by rw [hx']; intro z; cases z; exact c rfl)]
      ·intro y hy
       rw [ek, List.mem_append, List.mem_singleton] at hy
       by_cases c : y = x
       ·simp only [c, if_true]; exact hl0
       ·simp only [c, if_false]; exact hf0 y (hy.resolve_right c)
    rintro σ H2 ⟨f', rfl, sm2, hd4, sf2, hf2⟩
    have hx3 : x ∈ keys ns (i + 1) := keys_mem.mpr ⟨i, by omega, hx'⟩
    have hg : valV (spk ns (i + 1) f') (Sum.inl x) = some (V.ref (f' x)) := by unfold spk; rw [val_map, if_pos hx3]
    refine ⟨_, rfl, _, rfl, d, _, rfl, ?_, f' x, _, rfl, .inl (SqL.of (sf2.at' x hx3)), _, _, rfl, rfl, _, rfl, ?_⟩
    ·exact .inl ⟨_, Sum.inl x, .inl hd4, rfl, hg.symm⟩
    have h2 := pl_le2 td (i + 1) x
    rw [decide_eq_false (by rw [List.length_map]; omega : ¬ ((((pl ns (i + 1) x).map nV).length : Nat) : Int) > 2)]
    refine iteF ?_
    exact ⟨f', _, _, rfl, sm2, hd4, sf2, hf2⟩
   ·rintro σ H1 ⟨f, v2, v3, rfl, sm, hd1, sf, hf0⟩
    rw [el] at hd1 sf hf0
    exact hnx _ _ ⟨f, v2, v3, rfl, sm, hd1, sf, hf0⟩
  rintro σ H1 ⟨f, v2, v3, rfl, sm, hd1, sf, hf0⟩
  exact ⟨_, rfl, k d f H1 sm hd hd1 sf hf0⟩
noncomputable def sp_mates_of : Sp := fun vs H Q _ => ∃ (d : Addr) (M : List (Option Nat)) (ns : List Int) (f : Int → Addr), vs = [.ref d, .int ns.length] ∧ H d = some (.dK (spk ns ns.length f)) ∧ SpotsF H ns ns.length f ∧ TD M ns ∧ ns.length ≤ 120 ∧
 ∀ (m : Addr) (o : Obj) (H' : Hp), (∀ b u, b ≠ d → H b = some u → H' b = some u) → H m = none → H' m = some (.lst (M.map mV)) → H' d = some (.frz o (.dK (spk ns ns.length f))) → Q (.ref m) H'
theorem sc_mates_of : FnScope ["spots", "count", "mates", "pair"] ["spots", "count"] (defScope s_mates_of) := ⟨rfl, rfl, rfl, by decide +kernel, rfl, by decide +kernel, by decide +kernel⟩
theorem ok_mates_of (T : Txt w K mg t) : FnOk P w K mg base (CXr P w) 1 t.f_mates_of t.d_mates_of ["spots", "count"] sp_mates_of := by
 refine T.p_mates_of.F.okR sc_mates_of (fun vs H Q E h => ?_) (fun cdv A outer s H vs Q E hr h => ?_)
 ·obtain ⟨d, M, ns, f, rfl, _⟩ := h
  rfl
 ·obtain ⟨d, M, ns, f, rfl, hd, sf, td, hl, k⟩ := h
  refine ⟨_, (pss_cons (ps_set (i := 2) sc_mates_of.nd rfl (Or.inl rfl) (pe_op op_rep (pe_lst (pa_cons pe_non pa_nil)) (pv 1)))
   (pss_cons (ps_for PassesOwn.never rfl (pi_vals (pv 0) ⟨rfl, rfl, rfl⟩) (pg_name (i := 3) sc_mates_of.nd rfl (Or.inl rfl)) (pss_one (ps_if (pt_cmpR op_eq (pe_callB call_len_seq (by rfl) T.n_len PySem.boot_len (pa_cons (pv 3) pa_nil)) pe_int (nomark _)) (pss_cons (ps_asg (pe_ix ix_list (pv 3) pe_int (fun _ _ => rfl)) (pg_sub (pv 2) (pe_ix ix_list (pv 3) pe_int (fun _ _ => rfl)) set_list))
   (pss_one (ps_asg (pe_ix ix_list (pv 3) pe_int (fun _ _ => rfl)) (pg_sub (pv 2) (pe_ix ix_list (pv 3) pe_int (fun _ _ => rfl)) set_list)))) pss_nil)))
   (pss_one (ps_ret (pv 2))))), ?_⟩
  refine ⟨(by show 1 ≤ sizeLine; decide), fun q hq => ?_⟩
  refine ⟨_, rfl, q, _, _, rfl, rfl, upd_same, by omega, by omega, ?_, fun m hm => ?_⟩
  ·have : ((ns.length : Nat) : Int).toNat = ns.length := by omega
   show 1 * ((ns.length : Nat) : Int).toNat ≤ sizeLine
   rw [this, sizeLine_eq]; omega
  obtain ⟨hmq, hm0⟩ := upd_none hm
  have eM : (List.replicate ((ns.length : Nat) : Int).toNat [V.non]).flatten = (part M ns []).map mV := by
   have : ((ns.length : Nat) : Int).toNat = M.length := by rw [← td.len]; omega
   rw [this, List.flatten_replicate_singleton, part_nil td, List.map_replicate]
   rfl
  rw [eM]
  have hdm : d ≠ m := ne_of_none hd hm0
  have hdq : d ≠ q := ne_of_none hd hq
  dsimp only [gName]
  show tSeq (tFor _ _ _) _ _ _ _
  refine seq_post (fun σ H1 => ∃ (o : Obj) (v : Option V), σ = [some (.ref d), some (.int ns.length), some (.ref m), v] ∧ (∀ b u, b ≠ d → H b = some u → H1 b = some u) ∧ H1 m = some (.lst (M.map mV)) ∧ H1 d = some (.frz o (.dK (spk ns ns.length f)))) (fun nx hnx => ?_) ?_
  ·refine ⟨_, rfl, d, _, rfl, .inl ⟨by rw [upd_ne hdm, upd_ne hdq]; exact hd, fun o => ?_⟩⟩
   refine for_vals (fun j σ H1 => ∃ (v : Option V), σ = [some (.ref d), some (.int ns.length), some (.ref m), v] ∧ (∀ b u, b ≠ d → H b = some u → H1 b = some u) ∧ H1 m = some (.lst ((part M ns ((keys ns ns.length).take j)).map mV)) ∧ H1 d = some (.frz o (.dK (spk ns ns.length f))))
    ⟨none, rfl, fun b u hb e => ?_, ?_, upd_same⟩ ?_ ?_ ?_
   ·rw [upd_ne hb, upd_ne (ne_of_none e hm0), upd_ne (ne_of_none e hq)]; exact e
   ·rw [upd_ne (Ne.symm hdm), upd_same]
    rfl
   ·rintro j σ H1 _ ⟨v, rfl, old, h1, h2⟩
    exact h2
   ·rintro j k0 x0 σ H1 hk ⟨v, rfl, old, h1, h2⟩
    obtain ⟨x, hx, rfl⟩ : ∃ x, (keys ns ns.length)[j]? = some x ∧ x0 = V.ref (f x) := by
     unfold spk at hk
     rw [List.getElem?_map] at hk
     cases e : (keys ns ns.length)[j]? with
     | none => rw [e] at hk; cases hk
     | some x => rw [e] at hk; cases hk; exact ⟨x, rfl, rfl⟩
    have hm1 : x ∈ keys ns ns.length := List.mem_of_getElem? hx
    have et : (keys ns ns.length).take (j + 1) = (keys ns ns.length).take j ++ [x] := by
     rw [List.take_add_one, hx]; rfl
    have hfx := sf.at' x hm1
    have hfd : f x ≠ d := fun z => by rw [z, hd] at hfx; cases hfx
    have hf1 := old _ _ hfd hfx
    dsimp only [gName]
    refine ⟨_, rfl, f x, _, rfl, .inl (SqL.of hf1), rfl, _, rfl, ?_⟩
    rcases pl_cases td hm1 with ⟨a, e, ea, ma⟩ | ⟨a, b, hab, e, ea, eb, ma, mb⟩
    ·rw [e] at hf1 ⊢
     refine iteF ?_
     refine ⟨_, rfl, old, ?_, h2⟩
     rw [et, part_rim td e ma]
     exact h1
    ·rw [e] at hf1 ⊢
     refine iteT ?_
     have la : a < (part M ns ((keys ns ns.length).take j)).length := by rw [part_len]; exact (List.getElem?_eq_some_iff.mp ma).1
     have lb : b < (part M ns ((keys ns ns.length).take j)).length := by rw [part_len]; exact (List.getElem?_eq_some_iff.mp mb).1
     have hfm : f x ≠ m := ne_of_none hfx hm0
     refine ⟨_, rfl, f x, _, _, _, rfl, rfl, SqL.of hf1, rfl, ?_⟩
     refine ⟨_, rfl, _, rfl, f x, _, _, _, rfl, rfl, SqL.of hf1, rfl, m, _, _, a, rfl, rfl, h1, (by rw [List.length_map]; exact ixN_nat la), ?_⟩
     have hf2 : (upd H1 m (.lst (((part M ns ((keys ns ns.length).take j)).map mV).set a (nV b)))) (f x) = some (.lst ([a, b].map nV)) := by rw [upd_ne hfm]; exact hf1
     refine ⟨_, rfl, f x, _, _, _, rfl, rfl, SqL.of hf2, rfl, ?_⟩
     refine ⟨_, rfl, _, rfl, f x, _, _, _, rfl, rfl, SqL.of hf2, rfl, m, _, _, b, rfl, rfl, upd_same, (by rw [List.length_set, List.length_map]; exact ixN_nat lb), ?_⟩
     refine ⟨_, rfl, fun c u hc ec => ?_, ?_, ?_⟩
     ·have : c ≠ m := ne_of_none ec hm0
      rw [upd_ne this, upd_ne this]
      exact old c u hc ec
     ·rw [upd_same, et, part_sewn td e hab ma mb]
      show some (HO.lst ((((part M ns ((keys ns ns.length).take j)).map mV).set a (mV (some b))).set b (mV (some a)))) = _
      rw [map_set, map_set]
     ·rw [upd_ne hdm, upd_ne hdm]; exact h2
   ·rintro σ H1 ⟨v, rfl, old, h1, h2⟩
    refine hnx _ _ ⟨o, v, rfl, old, ?_, h2⟩
    have : (keys ns ns.length).take (spk ns ns.length f).length = keys ns ns.length := by
     unfold spk; rw [List.length_map, List.take_length]
    rw [this, part_all td] at h1
    exact h1
  rintro σ H1 ⟨o, v, rfl, old, h1, h2⟩
  exact ⟨_, rfl, k m o H1 old hm0 h1 h2⟩
end
end KT
set_option maxHeartbeats 4000000
namespace KT
open PySem L2
noncomputable def tflds (cl na sp mt : Addr) : List (Str × V) := putF "mates" (.ref mt) (putF "spots" (.ref sp) (putF "names_at" (.ref na) (putF "cloths" (.ref cl) [])))
theorem len_putF (f : Str) (v : V) : ∀ fs : List (Str × V), (putF f v fs).length ≤ fs.length + 1
 | [] => by simp [putF]
 | (g, x) :: r => by
  have := len_putF f v r
  unfold putF
  split
  ·simp
  ·simp only [List.length_cons]; omega
theorem s_cn : ¬ ("cloths" : Str) = "names_at" := by decide
theorem s_cs : ¬ ("cloths" : Str) = "spots" := by decide
theorem s_cm : ¬ ("cloths" : Str) = "mates" := by decide
theorem s_ns : ¬ ("names_at" : Str) = "spots" := by decide
theorem s_nm : ¬ ("names_at" : Str) = "mates" := by decide
theorem s_sm : ¬ ("spots" : Str) = "mates" := by decide
theorem fl_cloths (cl na sp mt : Addr) : (tflds cl na sp mt).lookup ("cloths" : Str) = some (.ref cl) := by
 unfold tflds; rw [lookup_putF, if_neg s_cm, lookup_putF, if_neg s_cs, lookup_putF, if_neg s_cn, lookup_putF, if_pos rfl]
theorem fl_names (cl na sp mt : Addr) : (tflds cl na sp mt).lookup ("names_at" : Str) = some (.ref na) := by
 unfold tflds; rw [lookup_putF, if_neg s_nm, lookup_putF, if_neg s_ns, lookup_putF, if_pos rfl]
theorem fl_spots (cl na sp mt : Addr) : (tflds cl na sp mt).lookup ("spots" : Str) = some (.ref sp) := by
 unfold tflds; rw [lookup_putF, if_neg s_sm, lookup_putF, if_pos rfl]
theorem fl_mates (cl na sp mt : Addr) : (tflds cl na sp mt).lookup ("mates" : Str) = some (.ref mt) := by
 unfold tflds; rw [lookup_putF, if_pos rfl]
theorem fl_none (cl na sp mt : Addr) {m : Str} (h : m ≠ "cloths" ∧ m ≠ "names_at" ∧ m ≠ "spots" ∧ m ≠ "mates" := by decide) : (tflds cl na sp mt).lookup m = none := by
 obtain ⟨h1, h2, h3, h4⟩ := h
 unfold tflds; rw [lookup_putF, if_neg h4, lookup_putF, if_neg h3, lookup_putF, if_neg h2, lookup_putF, if_neg h1]; rfl
structure TentB (C : Addr) (H : Hp) (p : Addr) (M : List (Option Nat)) (ns : List Int) (dx cl na sp mt : Addr) (o : Obj) (f : Int → Addr) : Prop where
 ins : H p = some (.ins C dx (tflds cl na sp mt))
 rows : RowsAt H cl ns
 names : H na = some (.lst (ns.map V.int))
 spots : H sp = some (.frz o (.dK (spk ns ns.length f)))
 mates : H mt = some (.lst (M.map mV))
 at' : ∀ x ∈ keys ns ns.length, H (f x) = some (.lst ((pl ns ns.length x).map nV))
noncomputable def TentAt (C : Addr) (H : Hp) (p : Addr) (M : List (Option Nat)) (ns : List Int) : Prop := ∃ dx cl na sp mt o f, TentB C H p M ns dx cl na sp mt o f
theorem TentAt.same {C : Addr} {H H' : Hp} {p : Addr} {M : List (Option Nat)} {ns : List Int} (h : TentAt C H p M ns) (s : Same H H') : TentAt C H' p M ns := by
 obtain ⟨dx, cl, na, sp, mt, o, f, b⟩ := h
 exact ⟨dx, cl, na, sp, mt, o, f, s _ _ b.ins, b.rows.same s, s _ _ b.names, s _ _ b.spots, s _ _ b.mates, fun x hx => s _ _ (b.at' x hx)⟩
theorem take_row {ns : List Int} {k n : Nat} (h : ns.length = 3 * n) (hk : k < n) : (ns.take (3 * k)).map V.int ++ row3 ns k = (ns.take (3 * (k + 1))).map V.int := by
 have e : ns.take (3 * (k + 1)) = ns.take (3 * k) ++ [ns.getD (3 * k) 0, ns.getD (3 * k + 1) 0, ns.getD (3 * k + 2) 0] := by
  have l0 : 3 * k < ns.length := by omega
  have l1 : 3 * k + 1 < ns.length := by omega
  have l2 : 3 * k + 2 < ns.length := by omega
  have g : ∀ i, i < ns.length → ns[i]? = some (ns.getD i 0) := fun i hi => by rw [List.getD_eq_getElem?_getD, List.getElem?_eq_getElem hi]; rfl
  rw [show 3 * (k + 1) = 3 * k + 1 + 1 + 1 by omega, List.take_add_one, List.take_add_one, List.take_add_one, g _ l0, g _ l1, g _ l2, List.append_assoc, List.append_assoc]
  rfl
 rw [e, List.map_append]
 rfl
noncomputable def sp_Tent_init (C : Addr) : Sp := fun vs H Q _ => ∃ (p r dx : Addr) (M : List (Option Nat)) (ns : List Int), vs = [.ref p, .ref r] ∧ H p = some (.ins C dx []) ∧ RowsAt H r ns ∧ TD M ns ∧ ns.length ≤ 120 ∧
 ∀ (H' : Hp), (∀ b u, b ≠ p → H b = some u → H' b = some u) → TentAt C H' p M ns → Q .non H'
section
variable {P : Program} {w : World} {K : PySem.W.Frag} {mg : Str → Option Value} {base : Heap} {t : Adr}
theorem sc_Tent_init : FnScope ["self", "rows"] ["self", "rows"] (defScope s_Tent_init) := ⟨rfl, rfl, rfl, by decide +kernel, rfl, by decide +kernel, by decide +kernel⟩
theorem ok_Tent_init (T : Txt w K mg t) : FnOk P w K mg base (CXr P w) 2 t.f_Tent_init t.d_Tent_init ["self", "rows"] (sp_Tent_init t.C_Tent) := by
  refine T.p_Tent_init.F.okR sc_Tent_init (fun vs H Q E h => ?_) (fun cdv A outer s H vs Q E hr h => ?_)
  · obtain ⟨p, r, dx, M, ns, rfl, _⟩ := h
    rfl
  · obtain ⟨p, r, dx, M, ns, rfl, hp, ⟨ts, hr1, hr2, hr3⟩, td, hl, k⟩ := h
    refine ⟨_, (pss_cons (ps_if (pt_not (pt_truth (pv 1) (fun _ => rfl))) pss_never pss_nil)
      (pss_cons (ps_fld (pv 0) (pe_compG (ts := ["row"]) (fv := []) ⟨rfl, by decide +kernel, by decide +kernel, blkFree (by rfl), trivial⟩ rfl (pi_list (pv 1)) (fun _ _ _ _ => (pg_name (i := 0) (show List.Nodup (["row"] : List Str) from by decide +kernel) rfl (Or.inl rfl) (Or.inr rfl))) (fun _ _ _ _ => pts_nil) (fun _ _ _ => rfl) (fun _ _ _ _ _ _ => pb_emit (pe_callTy (call_tuple_ofK K) (by rfl) T.n_tuple PySem.Pv.boot_tuple (pa_cons (pv 0) pa_nil)))) rfl)
      (pss_cons (ps_fld (pv 0) (pe_compG (ts := ["row", "name"]) (fv := []) ⟨rfl, by decide +kernel, by decide +kernel, blkFree (by rfl), trivial⟩ rfl (pi_list (pe_fld (pv 0) rfl)) (fun _ _ _ _ => (pg_name (i := 0) (show List.Nodup (["row", "name"] : List Str) from by decide +kernel) rfl (Or.inl rfl) (Or.inr rfl))) (fun _ _ _ _ => pts_nil) (fun _ _ _ => rfl) (fun _ _ _ _ _ _ => pb_gen rfl rfl (pi_tupK K (pv 0)) (pg_name (i := 1) (show List.Nodup (["row", "name"] : List Str) from by decide +kernel) rfl (Or.inl rfl) (Or.inr rfl)) pts_nil (pv 1))) rfl)
      (pss_cons (ps_fld (pv 0) (pe_call (ok_spots_of T) (hr.mono (by decide)) rfl T.p_spots_of.g T.p_spots_of.F.kp T.p_spots_of.b .nil passR (pa_cons (pe_fld (pv 0) rfl) pa_nil)) rfl)
      (pss_one (ps_fld (pv 0) (pe_call (ok_mates_of T) (hr.mono (by decide)) rfl T.p_mates_of.g T.p_mates_of.F.kp T.p_mates_of.b .nil passR (pa_cons (pe_fld (pv 0) rfl) (pa_cons (pe_callB call_len_seq (by rfl) T.n_len PySem.boot_len (pa_cons (pe_fld (pv 0) rfl) pa_nil)) pa_nil))) rfl)))))), ?_⟩
    obtain ⟨n, n1, n2, hn⟩ := td.n
    have hnn : ns.length = 3 * n := by rw [td.len, hn]
    have htn : ts.length = n := by omega
    have hrp : r ≠ p := fun z => by rw [z, hp] at hr1; cases hr1
    refine ⟨_, rfl, true, .inl ⟨_, SqL.of hr1, ?_⟩, ?_⟩
    · cases ts with
      | nil => simp at htn; omega
      | cons _ _ => rfl
    refine iteF ?_
    dsimp only [tNext]
    refine ⟨_, rfl, r, rfl, ⟨_, SqL.of hr1⟩, fun D hD => ?_⟩
    have hDp : D ≠ p := fun z => by rw [z, hp] at hD; cases hD
    refine loop_list (xs := ts.map V.ref) (fun i σ H1 => ∃ (v : Option V), σ = [v] ∧ Same H H1 ∧ H1 D = some (.lst ((ts.take i).map V.ref))) ⟨none, rfl, Same.new hD, upd_same⟩ ?_ ?_ ?_
    · rintro i σ H1 _ ⟨v, rfl, sm, h1⟩
      exact SqL.of (sm _ _ hr1)
    · rintro i x σ H1 hx ⟨v, rfl, sm, h1⟩
      dsimp only [gName, tYes]
      rw [if_pos rfl]
      obtain ⟨tt, ht, rfl⟩ := map_some hx
      refine ⟨_, rfl, tt, _, rfl, .inr ⟨SqT.of (sm _ _ (hr3 i tt ht)), _, h1, (by rw [List.length_map, List.length_take]; exact small1000 (by omega)), _, rfl, Same.add sm hD, ?_⟩⟩
      rw [upd_same, List.take_add_one, ht, List.map_append]
      rfl
    rintro σ H1 ⟨v, rfl, sm1, h1⟩
    rw [List.length_map, List.take_length] at h1
    have hp1 := sm1 _ _ hp
    refine ⟨_, rfl, p, _, dx, _, rfl, hp1, T.cl_Tent, T.a_Tent_cloths, by decide, ?_⟩
    have old2 : ∀ b u, b ≠ p → H b = some u → (upd H1 p (.ins t.C_Tent dx (putF "cloths" (.ref D) []))) b = some u := fun b u hb e => by rw [upd_ne hb]; exact sm1 b u e
    have hD2 : (upd H1 p (.ins t.C_Tent dx (putF "cloths" (.ref D) []))) D = some (.lst (ts.map V.ref)) := by rw [upd_ne hDp]; exact h1
    have hp2 : (upd H1 p (.ins t.C_Tent dx (putF "cloths" (.ref D) []))) p = some (.ins t.C_Tent dx (putF "cloths" (.ref D) [])) := upd_same
    have ht2 : ∀ (k : Nat) (q : Addr), ts[k]? = some q → (upd H1 p (.ins t.C_Tent dx (putF "cloths" (.ref D) []))) q = some (.tup (row3 ns k)) := fun k q e => by
      have e1 := hr3 k q e
      have : q ≠ p := fun z => by rw [z, hp] at e1; cases e1
      exact old2 q _ this e1
    generalize upd H1 p (.ins t.C_Tent dx (putF "cloths" (.ref D) [])) = H2 at old2 hD2 hp2 ht2 ⊢
    refine ⟨_, rfl, p, _, dx, _, _, rfl, hp2, T.cl_Tent, T.a_Tent_cloths, rfl, D, rfl, ⟨_, SqL.of hD2⟩, fun N hN => ?_⟩
    have hND : N ≠ D := fun z => by rw [z, hD2] at hN; cases hN
    have hNp : N ≠ p := fun z => by rw [z, hp2] at hN; cases hN
    refine loop_list (xs := ts.map V.ref) (fun i σ H3 => ∃ (v v' : Option V), σ = [v, v'] ∧ Same H2 H3 ∧ H3 N = some (.lst ((ns.take (3 * i)).map V.int))) ⟨none, none, rfl, Same.new hN, upd_same⟩ ?_ ?_ ?_
    · rintro i σ H3 _ ⟨v, v', rfl, sm, h3⟩
      exact SqL.of (sm _ _ hD2)
    · rintro i x σ H3 hx ⟨v, v', rfl, sm, h3⟩
      dsimp only [gName, tYes]
      rw [if_pos rfl]
      obtain ⟨tt, ht, rfl⟩ := map_some hx
      have hi : i < n := by rw [← htn]; exact (List.getElem?_eq_some_iff.mp ht).1
      refine ⟨_, rfl, tt, rfl, ⟨_, SqT.of (sm _ _ (ht2 i tt ht))⟩, ?_⟩
      refine loop_tup (xs := row3 ns i) (fun j σ H4 => ∃ (v' : Option V), σ = [some (.ref tt), v'] ∧ Same H2 H4 ∧ H4 N = some (.lst ((ns.take (3 * i)).map V.int ++ (row3 ns i).take j))) ⟨v', rfl, sm, by rw [h3, List.take_zero, List.append_nil]⟩ ?_ ?_ ?_
      · rintro j σ H4 _ ⟨v', rfl, sm, h4⟩
        exact SqT.of (sm _ _ (ht2 i tt ht))
      · rintro j x σ H4 hx ⟨v', rfl, sm, h4⟩
        dsimp only [gName, tYes]
        rw [if_pos rfl]
        refine ⟨_, rfl, _, h4, ?_, _, rfl, Same.add sm hN, ?_⟩
        · rw [List.length_append, List.length_map, List.length_take, List.length_take]
          exact small1000 (by have : (row3 ns i).length = 3 := rfl; omega)
        · rw [upd_same, List.take_add_one, hx, ← List.append_assoc]
          rfl
      · rintro σ H4 ⟨v', rfl, sm, h4⟩
        refine ⟨_, _, rfl, sm, ?_⟩
        rw [h4, List.take_length, take_row hnn hi]
    rintro σ H3 ⟨v, v', rfl, sm3, h3⟩
    have eall : ns.take (3 * (ts.map V.ref).length) = ns := by rw [List.length_map, htn, ← hnn, List.take_length]
    rw [eall] at h3
    have hp3 := sm3 _ _ hp2
    refine ⟨_, rfl, p, _, dx, _, rfl, hp3, T.cl_Tent, T.a_Tent_names_at, (by have h1 := len_putF "cloths" (.ref D) []; simp only [List.length_nil] at h1; omega), ?_⟩
    have old4 : ∀ b u, b ≠ p → H2 b = some u → (upd H3 p (.ins t.C_Tent dx (putF "names_at" (.ref N) (putF "cloths" (.ref D) [])))) b = some u := fun b u hb e => by rw [upd_ne hb]; exact sm3 b u e
    have hN4 : (upd H3 p (.ins t.C_Tent dx (putF "names_at" (.ref N) (putF "cloths" (.ref D) [])))) N = some (.lst (ns.map V.int)) := by rw [upd_ne hNp]; exact h3
    have hp4 : (upd H3 p (.ins t.C_Tent dx (putF "names_at" (.ref N) (putF "cloths" (.ref D) [])))) p = some (.ins t.C_Tent dx (putF "names_at" (.ref N) (putF "cloths" (.ref D) []))) := upd_same
    generalize upd H3 p (.ins t.C_Tent dx (putF "names_at" (.ref N) (putF "cloths" (.ref D) []))) = H4 at old4 hN4 hp4 ⊢
    have lk1 : (putF "names_at" (.ref N) (putF "cloths" (.ref D) [])).lookup ("names_at" : Str) = some (.ref N) := by rw [lookup_putF, if_pos rfl]
    refine ⟨_, rfl, p, _, dx, _, _, rfl, hp4, T.cl_Tent, T.a_Tent_names_at, lk1, N, M, ns, rfl, hN4, td, hl, fun d f H5 sm5 hd5 hd5' sf hf0 => ?_⟩
    have hp5 := sm5 _ _ hp4
    refine ⟨_, rfl, p, _, dx, _, rfl, hp5, T.cl_Tent, T.a_Tent_spots, (by have h1 := len_putF "cloths" (.ref D) []; have h2 := len_putF "names_at" (.ref N) (putF "cloths" (.ref D) []); simp only [List.length_nil] at h1; omega), ?_⟩
    have hdp : d ≠ p := fun z => by rw [z, hp4] at hd5; cases hd5
    have hfp : ∀ x ∈ keys ns ns.length, f x ≠ p := fun x hx z => by have := hf0 x hx; rw [z, hp4] at this; cases this
    have old6 : ∀ b u, b ≠ p → H4 b = some u → (upd H5 p (.ins t.C_Tent dx (putF "spots" (.ref d) (putF "names_at" (.ref N) (putF "cloths" (.ref D) []))))) b = some u := fun b u hb e => by rw [upd_ne hb]; exact sm5 b u e
    have hp6 : (upd H5 p (.ins t.C_Tent dx (putF "spots" (.ref d) (putF "names_at" (.ref N) (putF "cloths" (.ref D) []))))) p = some (.ins t.C_Tent dx (putF "spots" (.ref d) (putF "names_at" (.ref N) (putF "cloths" (.ref D) [])))) := upd_same
    have hd6 : (upd H5 p (.ins t.C_Tent dx (putF "spots" (.ref d) (putF "names_at" (.ref N) (putF "cloths" (.ref D) []))))) d = some (.dK (spk ns ns.length f)) := by rw [upd_ne hdp]; exact hd5'
    have sf6 : SpotsF (upd H5 p (.ins t.C_Tent dx (putF "spots" (.ref d) (putF "names_at" (.ref N) (putF "cloths" (.ref D) []))))) ns ns.length f := ⟨sf.inj, fun x hx => by rw [upd_ne (hfp x hx)]; exact sf.at' x hx⟩
    generalize upd H5 p (.ins t.C_Tent dx (putF "spots" (.ref d) (putF "names_at" (.ref N) (putF "cloths" (.ref D) [])))) = H6 at old6 hp6 hd6 sf6 ⊢
    have lk2 : (putF "spots" (.ref d) (putF "names_at" (.ref N) (putF "cloths" (.ref D) []))).lookup ("spots" : Str) = some (.ref d) := by rw [lookup_putF, if_pos rfl]
    have lk3 : (putF "spots" (.ref d) (putF "names_at" (.ref N) (putF "cloths" (.ref D) []))).lookup ("names_at" : Str) = some (.ref N) := by rw [lookup_putF, if_neg s_ns, lookup_putF, if_pos rfl]
    have hN6 := old6 _ _ hNp hN4
    have eln : (((ns.map V.int).length : Nat) : Int) = (ns.length : Nat) := by rw [List.length_map]
    refine ⟨_, rfl, p, _, dx, _, _, rfl, hp6, T.cl_Tent, T.a_Tent_spots, lk2, _, rfl, p, _, dx, _, _, rfl, hp6, T.cl_Tent, T.a_Tent_names_at, lk3, N, _, rfl, .inl (SqL.of hN6), d, M, ns, f, (by rw [eln]; rfl), hd6, sf6, td, hl, fun m o H7 old7 hm7 hmm hdd => ?_⟩
    have hpd : p ≠ d := Ne.symm hdp
    have hp7 := old7 _ _ hpd hp6
    refine ⟨_, rfl, p, _, dx, _, rfl, hp7, T.cl_Tent, T.a_Tent_mates, (by have h1 := len_putF "cloths" (.ref D) []; have h2 := len_putF "names_at" (.ref N) (putF "cloths" (.ref D) []); have h3 := len_putF "spots" (.ref d) (putF "names_at" (.ref N) (putF "cloths" (.ref D) [])); simp only [List.length_nil] at h1; omega), ?_⟩
    have hmp : m ≠ p := fun z => by rw [z, hp6] at hm7; cases hm7
    have dN : N ≠ d := fun z => by rw [z, hd6] at hN6; cases hN6
    have old8 : ∀ b u, b ≠ p → b ≠ d → H6 b = some u → (upd H7 p (.ins t.C_Tent dx (tflds D N d m))) b = some u := fun b u hb hbd e => by rw [upd_ne hb]; exact old7 b u hbd e
    have old46 : ∀ b u, b ≠ p → H4 b = some u → H6 b = some u ∧ b ≠ d := fun b u hb e => ⟨old6 b u hb e, fun z => by rw [z, hd5] at e; cases e⟩
    have old28 : ∀ b u, b ≠ p → H2 b = some u → (upd H7 p (.ins t.C_Tent dx (tflds D N d m))) b = some u := fun b u hb e => by
      obtain ⟨e6, hbd⟩ := old46 b u hb (old4 b u hb e)
      exact old8 b u hb hbd e6
    refine k _ (fun b u hb e => old28 b u hb (old2 b u hb e)) ⟨dx, D, N, d, m, o, f, upd_same, ⟨ts, old28 _ _ hDp hD2, by omega, fun k q e => ?_⟩, ?_, ?_, ?_, ?_⟩
    · have e1 := ht2 k q e
      exact old28 q _ (fun z => by rw [z, hp2] at e1; cases e1) e1
    · exact old8 _ _ hNp dN hN6
    · rw [upd_ne hdp]; exact hdd
    · rw [upd_ne hmp]; exact hmm
    · intro x hx
      have e1 := sf6.at' x hx
      exact old8 _ _ (hfp x hx) (fun z => by rw [z, hd6] at e1; cases e1) e1
end
end KT
set_option maxHeartbeats 4000000
namespace KT
open PySem L2
noncomputable def sortOf (ns : List Int) (x : Int) : Str := match pl ns ns.length x with
 | [a, b] => if a / 3 = b / 3 then "locked" else "free"
 | _ => "rim"
noncomputable def sp_after : Sp := fun vs H Q _ => ∃ p : Int, vs = [.int p] ∧ Q (.int (after p)) H
noncomputable def sp_before : Sp := fun vs H Q _ => ∃ p : Int, vs = [.int p] ∧ Q (.int (before p)) H
noncomputable def sp_cloth_of : Sp := fun vs H Q _ => ∃ p : Int, vs = [.int p] ∧ Q (.int (p / 3)) H
noncomputable def sp_Tent_rows (C : Addr) : Sp := fun vs H Q _ => ∃ (p : Addr) (M : List (Option Nat)) (ns : List Int), vs = [.ref p] ∧ TentAt C H p M ns ∧
 ∀ (l : Addr) (ts : List Addr), H l = none → ns.length = 3 * ts.length → (∀ (k : Nat) (t : Addr), ts[k]? = some t → H t = some (.tup (row3 ns k))) → Q (.ref l) (upd H l (.lst (ts.map V.ref)))
noncomputable def sp_Tent_size (C : Addr) : Sp := fun vs H Q _ => ∃ (p : Addr) (M : List (Option Nat)) (ns : List Int) (n : Nat), vs = [.ref p] ∧ TentAt C H p M ns ∧ ns.length = 3 * n ∧ Q (.int n) H
noncomputable def sp_Tent_seams (C : Addr) : Sp := fun vs H Q _ => ∃ (p : Addr) (M : List (Option Nat)) (ns : List Int), vs = [.ref p] ∧ TentAt C H p M ns ∧ ns.length < 64 ∧
 ∀ (l : Addr) (out : List Int), H l = none → out.Perm (keys ns ns.length) → out.Pairwise (· ≤ ·) → Q (.ref l) (upd H l (.lst (out.map V.int)))
noncomputable def sp_Tent_has_place (C : Addr) : Sp := fun vs H Q _ => ∃ (p : Addr) (M : List (Option Nat)) (ns : List Int) (x : Int), vs = [.ref p, .int x] ∧ TentAt C H p M ns ∧ Q (.bl (decide (0 ≤ x ∧ x < ns.length))) H
noncomputable def sp_Tent_look_place (C EP : Addr) : Sp := fun vs H Q E => ∃ (p : Addr) (M : List (Option Nat)) (ns : List Int) (x : Int), vs = [.ref p, .int x] ∧ TentAt C H p M ns ∧ (0 ≤ x ∧ x < ns.length → Q .non H) ∧ (¬ (0 ≤ x ∧ x < ns.length) → E (.ref EP) none H)
noncomputable def sp_Tent_mate (C EP : Addr) : Sp := fun vs H Q E => ∃ (p : Addr) (M : List (Option Nat)) (ns : List Int) (x : Int), vs = [.ref p, .int x] ∧ TentAt C H p M ns ∧ M.length = ns.length ∧ (∀ (i : Nat) (y : Option Nat), x = i → M[i]? = some y → Q (mV y) H) ∧ (¬ (0 ≤ x ∧ x < ns.length) → E (.ref EP) none H)
noncomputable def sp_Tent_places (C ES : Addr) : Sp := fun vs H Q E => ∃ (p : Addr) (M : List (Option Nat)) (ns : List Int) (x : Int), vs = [.ref p, .int x] ∧ TentAt C H p M ns ∧ (x ∈ keys ns ns.length → ∀ l, H l = none → Q (.ref l) (upd H l (.lst ((pl ns ns.length x).map nV)))) ∧ (x ∉ keys ns ns.length → E (.ref ES) none H)
noncomputable def sp_Tent_sort_of (C ES : Addr) : Sp := fun vs H Q E => ∃ (p : Addr) (M : List (Option Nat)) (ns : List Int) (x : Int), vs = [.ref p, .int x] ∧ TentAt C H p M ns ∧ TD M ns ∧ (x ∈ keys ns ns.length → ∀ H', Same H H' → Q (.str (sortOf ns x)) H') ∧ (x ∉ keys ns ns.length → E (.ref ES) none H)
section
variable {P : Program} {w : World} {K : PySem.W.Frag} {mg : Str → Option Value} {base : Heap} {t : Adr}
theorem sc_after : FnScope ["place"] ["place"] (defScope s_after) := ⟨rfl, rfl, rfl, by decide +kernel, rfl, by decide +kernel, by decide +kernel⟩
theorem ok_after (T : Txt w K mg t) : FnOk P w K mg base (CXr P w) 1 t.f_after t.d_after ["place"] sp_after := by
 refine T.p_after.F.okR sc_after (fun vs H Q E h => ?_) (fun cdv A outer s H vs Q E hr h => ?_)
 ·obtain ⟨p, rfl, _⟩ := h
  rfl
 ·obtain ⟨p, rfl, k⟩ := h
  refine ⟨_, (pss_one (ps_ret (pe_ifExp (pt_cmpR op_eq (pe_op op_mod (pv 0) pe_int) pe_int (nomark _)) (pe_op op_sub (pv 0) pe_int) (pe_op op_add (pv 0) pe_int)))), ?_⟩
  refine ⟨_, rfl, _, _, rfl, rfl, (by show (0 : Int) < 3; decide), rfl, _, rfl, ?_⟩
  refine ite2 (fun h => ?_) (fun h => ?_)
  ·have h : p % 3 = 2 := by simpa using h
   refine ⟨_, rfl, _, _, rfl, rfl, ?_⟩
   have e : after p = p - 2 := if_pos h
   rw [e] at k; exact k
  ·have h : ¬ p % 3 = 2 := by simpa using h
   refine ⟨_, rfl, _, _, rfl, rfl, ?_⟩
   have e : after p = p + 1 := if_neg h
   rw [e] at k; exact k
theorem sc_before : FnScope ["place"] ["place"] (defScope s_before) := ⟨rfl, rfl, rfl, by decide +kernel, rfl, by decide +kernel, by decide +kernel⟩
theorem ok_before (T : Txt w K mg t) : FnOk P w K mg base (CXr P w) 1 t.f_before t.d_before ["place"] sp_before := by
 refine T.p_before.F.okR sc_before (fun vs H Q E h => ?_) (fun cdv A outer s H vs Q E hr h => ?_)
 ·obtain ⟨p, rfl, _⟩ := h
  rfl
 ·obtain ⟨p, rfl, k⟩ := h
  refine ⟨_, (pss_one (ps_ret (pe_ifExp (pt_cmpR op_eq (pe_op op_mod (pv 0) pe_int) pe_int (nomark _)) (pe_op op_add (pv 0) pe_int) (pe_op op_sub (pv 0) pe_int)))), ?_⟩
  refine ⟨_, rfl, _, _, rfl, rfl, (by show (0 : Int) < 3; decide), rfl, _, rfl, ?_⟩
  refine ite2 (fun h => ?_) (fun h => ?_)
  ·have h : p % 3 = 0 := by simpa using h
   refine ⟨_, rfl, _, _, rfl, rfl, ?_⟩
   have e : before p = p + 2 := if_pos h
   rw [e] at k; exact k
  ·have h : ¬ p % 3 = 0 := by simpa using h
   refine ⟨_, rfl, _, _, rfl, rfl, ?_⟩
   have e : before p = p - 1 := if_neg h
   rw [e] at k; exact k
theorem sc_cloth_of : FnScope ["place"] ["place"] (defScope s_cloth_of) := ⟨rfl, rfl, rfl, by decide +kernel, rfl, by decide +kernel, by decide +kernel⟩
theorem ok_cloth_of (T : Txt w K mg t) : FnOk P w K mg base (CXr P w) 1 t.f_cloth_of t.d_cloth_of ["place"] sp_cloth_of := by
 refine T.p_cloth_of.F.okR sc_cloth_of (fun vs H Q E h => ?_) (fun cdv A outer s H vs Q E hr h => ?_)
 ·obtain ⟨p, rfl, _⟩ := h
  rfl
 ·obtain ⟨p, rfl, k⟩ := h
  refine ⟨_, (pss_one (ps_ret (pe_op op_fdiv (pv 0) pe_int))), ?_⟩
  exact ⟨_, rfl, _, _, rfl, rfl, ⟨by decide, by decide⟩, k⟩
theorem sc_Tent_rows : FnScope ["self"] ["self"] (defScope s_Tent_rows) := ⟨rfl, rfl, rfl, by decide +kernel, rfl, by decide +kernel, by decide +kernel⟩
theorem ok_Tent_rows (T : Txt w K mg t) : FnOk P w K mg base (CXr P w) 1 t.f_Tent_rows t.d_Tent_rows ["self"] (sp_Tent_rows t.C_Tent) := by
 refine T.p_Tent_rows.F.okR sc_Tent_rows (fun vs H Q E h => ?_) (fun cdv A outer s H vs Q E hr h => ?_)
 ·obtain ⟨p, M, ns, rfl, _⟩ := h
  rfl
 ·obtain ⟨p, M, ns, rfl, ⟨dx, cl, na, sp, mt, o, f, b⟩, k⟩ := h
  refine ⟨_, (pss_one (ps_ret (pe_callTy call_list_of (by rfl) T.n_list PySem.Pv.boot_list (pa_cons (pe_fld (pv 0) rfl) pa_nil)))), ?_⟩
  obtain ⟨ts, h1, h2, h3⟩ := b.rows
  exact ⟨_, rfl, p, _, dx, _, _, rfl, b.ins, T.cl_Tent, T.a_Tent_cloths, fl_cloths .., cl, _, rfl, .inl (SqL.of h1), fun l hl => k l ts hl h2 h3⟩
theorem sc_Tent_size : FnScope ["self"] ["self"] (defScope s_Tent_size) := ⟨rfl, rfl, rfl, by decide +kernel, rfl, by decide +kernel, by decide +kernel⟩
theorem ok_Tent_size (T : Txt w K mg t) : FnOk P w K mg base (CXr P w) 1 t.f_Tent_size t.d_Tent_size ["self"] (sp_Tent_size t.C_Tent) := by
 refine T.p_Tent_size.F.okR sc_Tent_size (fun vs H Q E h => ?_) (fun cdv A outer s H vs Q E hr h => ?_)
 ·obtain ⟨p, M, ns, n, rfl, _⟩ := h
  rfl
 ·obtain ⟨p, M, ns, n, rfl, ⟨dx, cl, na, sp, mt, o, f, b⟩, hn, k⟩ := h
  refine ⟨_, (pss_one (ps_ret (pe_callB call_len_seq (by rfl) T.n_len PySem.boot_len (pa_cons (pe_fld (pv 0) rfl) pa_nil)))), ?_⟩
  obtain ⟨ts, h1, h2, h3⟩ := b.rows
  refine ⟨_, rfl, p, _, dx, _, _, rfl, b.ins, T.cl_Tent, T.a_Tent_cloths, fl_cloths .., cl, _, rfl, .inl (SqL.of h1), ?_⟩
  have : (ts.map V.ref).length = n := by rw [List.length_map]; omega
  rw [this]; exact k
theorem sc_Tent_seams : FnScope ["self"] ["self"] (defScope s_Tent_seams) := ⟨rfl, rfl, rfl, by decide +kernel, rfl, by decide +kernel, by decide +kernel⟩
theorem ok_Tent_seams (T : Txt w K mg t) : FnOk P w K mg base (CXr P w) 1 t.f_Tent_seams t.d_Tent_seams ["self"] (sp_Tent_seams t.C_Tent) := by
 refine T.p_Tent_seams.F.okR sc_Tent_seams (fun vs H Q E h => ?_) (fun cdv A outer s H vs Q E hr h => ?_)
 ·obtain ⟨p, M, ns, rfl, _⟩ := h
  rfl
 ·obtain ⟨p, M, ns, rfl, ⟨dx, cl, na, sp, mt, o, f, b⟩, h64, k⟩ := h
  refine ⟨_, (pss_one (ps_ret (pe_callB (call_sortedD rfl) (by rfl) T.n_sorted PyProof.Rows.boot_sorted (pa_cons (pe_fld (pv 0) rfl) pa_nil)))), ?_⟩
  refine ⟨_, rfl, p, _, dx, _, _, rfl, b.ins, T.cl_Tent, T.a_Tent_spots, fl_spots .., sp, _, keys ns ns.length, rfl, .inr ⟨o, b.spots⟩, ?_, by have := keys_len ns ns.length; omega, k⟩
  unfold spk; rw [List.map_map]; rfl
theorem sc_Tent_has_place : FnScope ["self", "place"] ["self", "place"] (defScope s_Tent_has_place) := ⟨rfl, rfl, rfl, by decide +kernel, rfl, by decide +kernel, by decide +kernel⟩
theorem ok_Tent_has_place (T : Txt w K mg t) : FnOk P w K mg base (CXr P w) 1 t.f_Tent_has_place t.d_Tent_has_place ["self", "place"] (sp_Tent_has_place t.C_Tent) := by
 refine T.p_Tent_has_place.F.okR sc_Tent_has_place (fun vs H Q E h => ?_) (fun cdv A outer s H vs Q E hr h => ?_)
 ·obtain ⟨p, M, ns, x, rfl, _⟩ := h
  rfl
 ·obtain ⟨p, M, ns, x, rfl, ⟨dx, cl, na, sp, mt, o, f, b⟩, k⟩ := h
  refine ⟨_, (pss_one (ps_ret (pe_chain op_le op_lt pe_int (pv 1) (pe_callB call_len_seq (by rfl) T.n_len PySem.boot_len (pa_cons (pe_fld (pv 0) rfl) pa_nil))))), ?_⟩
  refine ⟨_, rfl, _, _, rfl, rfl, _, rfl, ?_⟩
  refine ite2 (fun h => ?_) (fun h => ?_)
  ·have h : 0 ≤ x := of_decide_eq_true h
   refine ⟨_, rfl, p, _, dx, _, _, rfl, b.ins, T.cl_Tent, T.a_Tent_names_at, fl_names .., na, _, rfl, .inl (SqL.of b.names), _, _, rfl, rfl, ?_⟩
   have : decide (x < (((ns.map V.int).length : Nat) : Int)) = decide (0 ≤ x ∧ x < (ns.length : Int)) := by rw [List.length_map]; simp [h]
   show Q (V.bl (decide (x < (((ns.map V.int).length : Nat) : Int)))) H
   rw [this]; exact k
  ·have h : ¬ 0 ≤ x := fun z => h (decide_eq_true z)
   have : decide (0 ≤ x ∧ x < (ns.length : Int)) = false := decide_eq_false fun z => h z.1
   rw [this] at k; exact k
theorem sc_Tent_look_place : FnScope ["self", "place"] ["self", "place"] (defScope s_Tent_look_place) := ⟨rfl, rfl, rfl, by decide +kernel, rfl, by decide +kernel, by decide +kernel⟩
theorem ok_Tent_look_place (T : Txt w K mg t) : FnOk P w K mg base (CXr P w) 2 t.f_Tent_look_place t.d_Tent_look_place ["self", "place"] (sp_Tent_look_place t.C_Tent t.E_NoPlace) := by
 refine T.p_Tent_look_place.F.okX sc_Tent_look_place (fun vs H Q E h => ?_) (fun cdv A outer s H vs Q E hr h => ?_)
 ·obtain ⟨p, M, ns, x, rfl, _⟩ := h
  rfl
 ·obtain ⟨p, M, ns, x, rfl, ta, k1, k2⟩ := h
  obtain ⟨dx, cl, na, sp, mt, o, f, b⟩ := id ta
  refine ⟨_, (pssx_one (psx_if (pt_not (pt_val (pe_meth (pv 0) T.cl_Tent T.p_Tent_has_place.m (ok_Tent_has_place T) (hr.mono (by decide)) T.p_Tent_has_place.b .nil passR (pa_cons (pv 1) pa_nil)))) (pssx_one (psx_raise T.x_NoPlace FBV rfl T.gx_NoPlace rfl (pa_cons pe_str pa_nil))) pssx_nil)), ?_⟩
  refine ⟨_, rfl, p, dx, _, rfl, b.ins, fl_none _ _ _ _, _, rfl, p, M, ns, x, rfl, ta, _, rfl, ?_⟩
  by_cases c : 0 ≤ x ∧ x < (ns.length : Int)
  ·rw [decide_eq_true c]
   exact iteF (k1 c)
  ·rw [decide_eq_false c]
   exact iteT ⟨by decide, k2 c⟩
theorem sc_Tent_mate : FnScope ["self", "place"] ["self", "place"] (defScope s_Tent_mate) := ⟨rfl, rfl, rfl, by decide +kernel, rfl, by decide +kernel, by decide +kernel⟩
theorem ok_Tent_mate (T : Txt w K mg t) : FnOk P w K mg base (CXr P w) 3 t.f_Tent_mate t.d_Tent_mate ["self", "place"] (sp_Tent_mate t.C_Tent t.E_NoPlace) := by
 refine T.p_Tent_mate.F.okX sc_Tent_mate (fun vs H Q E h => ?_) (fun cdv A outer s H vs Q E hr h => ?_)
 ·obtain ⟨p, M, ns, x, rfl, _⟩ := h
  rfl
 ·obtain ⟨p, M, ns, x, rfl, ta, hlen, k1, k2⟩ := h
  obtain ⟨dx, cl, na, sp, mt, o, f, b⟩ := id ta
  refine ⟨_, (pssx_cons (psx_expr (pex_meth (pv 0) T.cl_Tent T.p_Tent_look_place.m (ok_Tent_look_place T) (hr.mono (by decide)) T.p_Tent_look_place.b .nil (pa_cons (pv 1) pa_nil)))
   (pssx_one (psx_of (ps_ret (pe_ix ix_list (pe_fld (pv 0) rfl) (pv 1) (fun _ _ => rfl)))))), ?_⟩
  refine ⟨_, rfl, p, dx, _, rfl, b.ins, fl_none _ _ _ _, _, rfl, p, M, ns, x, rfl, ta, fun c => ?_, k2⟩
  have hi : x.toNat < M.length := by omega
  obtain ⟨y, hy⟩ : ∃ y, M[x.toNat]? = some y := ⟨_, List.getElem?_eq_getElem hi⟩
  have ex : x = (x.toNat : Int) := by omega
  refine ⟨_, rfl, p, _, dx, _, _, rfl, b.ins, T.cl_Tent, T.a_Tent_mates, fl_mates .., _, rfl, mt, _, _, _, rfl, rfl, SqL.of b.mates, (by rw [ex]; exact map_at hy), k1 _ _ ex hy⟩
theorem sc_Tent_places : FnScope ["self", "seam"] ["self", "seam"] (defScope s_Tent_places) := ⟨rfl, rfl, rfl, by decide +kernel, rfl, by decide +kernel, by decide +kernel⟩
theorem ok_Tent_places (T : Txt w K mg t) : FnOk P w K mg base (CXr P w) 1 t.f_Tent_places t.d_Tent_places ["self", "seam"] (sp_Tent_places t.C_Tent t.E_NoSeam) := by
 refine T.p_Tent_places.F.okX sc_Tent_places (fun vs H Q E h => ?_) (fun cdv A outer s H vs Q E hr h => ?_)
 ·obtain ⟨p, M, ns, x, rfl, _⟩ := h
  rfl
 ·obtain ⟨p, M, ns, x, rfl, ta, k1, k2⟩ := h
  obtain ⟨dx, cl, na, sp, mt, o, f, b⟩ := id ta
  have hu := hu_of hr
  refine ⟨_, (pssx_cons (psx_if (pt_cmp (pc_dnotin hu (pv 1) (pe_fld (pv 0) rfl)) (by with_unfolding_all rfl)) (pssx_one (psx_raise T.x_NoSeam FBV rfl T.gx_NoSeam rfl (pa_cons pe_str pa_nil))) pssx_nil)
   (pssx_one (psx_of (ps_ret (pe_callTy call_list_of (by rfl) T.n_list PySem.Pv.boot_list (pa_cons (pe_dget hu (pe_fld (pv 0) rfl) (pv 1) (fun _ _ => rfl)) pa_nil)))))), ?_⟩
  have hg : DGet H sp (.int x) (if x ∈ keys ns ns.length then some (V.ref (f x)) else none) := .inl ⟨_, Sum.inl x, .inr ⟨o, b.spots⟩, rfl, by unfold spk; rw [val_map]⟩
  refine ⟨_, rfl, _, rfl, p, _, dx, _, _, rfl, b.ins, T.cl_Tent, T.a_Tent_spots, fl_spots .., sp, _, rfl, hg, _, rfl, ?_⟩
  by_cases c : x ∈ keys ns ns.length
  ·rw [if_pos c] at hg ⊢
   refine iteF ?_
   exact ⟨_, rfl, p, _, dx, _, _, rfl, b.ins, T.cl_Tent, T.a_Tent_spots, fl_spots .., _, rfl, sp, _, rfl, hg, f x, _, rfl, .inl (SqL.of (b.at' x c)), k1 c⟩
  ·rw [if_neg c] at hg ⊢
   exact iteT ⟨by decide, k2 c⟩
theorem sc_Tent_sort_of : FnScope ["self", "seam", "spots"] ["self", "seam"] (defScope s_Tent_sort_of) := ⟨rfl, rfl, rfl, by decide +kernel, rfl, by decide +kernel, by decide +kernel⟩
theorem ok_Tent_sort_of (T : Txt w K mg t) : FnOk P w K mg base (CXr P w) 2 t.f_Tent_sort_of t.d_Tent_sort_of ["self", "seam"] (sp_Tent_sort_of t.C_Tent t.E_NoSeam) := by
 refine T.p_Tent_sort_of.F.okX sc_Tent_sort_of (fun vs H Q E h => ?_) (fun cdv A outer s H vs Q E hr h => ?_)
 ·obtain ⟨p, M, ns, x, rfl, _⟩ := h
  rfl
 ·obtain ⟨p, M, ns, x, rfl, ta, td, k1, k2⟩ := h
  obtain ⟨dx, cl, na, sp, mt, o, f, b⟩ := id ta
  refine ⟨_, (pssx_cons (psx_set (i := 2) sc_Tent_sort_of.nd rfl (Or.inl rfl) (pex_meth (pv 0) T.cl_Tent T.p_Tent_places.m (ok_Tent_places T) (hr.mono (by decide)) T.p_Tent_places.b .nil (pa_cons (pv 1) pa_nil)))
   (pssx_cons (psx_of (ps_if (pt_cmpR op_eq (pe_callB call_len_seq (by rfl) T.n_len PySem.boot_len (pa_cons (pv 2) pa_nil)) pe_int (nomark _)) (pss_one (ps_ret pe_str)) pss_nil))
   (pssx_cons (psx_of (ps_if (pt_cmpR op_eq (pe_call (ok_cloth_of T) (hr.mono (by decide)) rfl T.p_cloth_of.g T.p_cloth_of.F.kp T.p_cloth_of.b .nil passR (pa_cons (pe_ix ix_list (pv 2) pe_int (fun _ _ => rfl)) pa_nil)) (pe_call (ok_cloth_of T) (hr.mono (by decide)) rfl T.p_cloth_of.g T.p_cloth_of.F.kp T.p_cloth_of.b .nil passR (pa_cons (pe_ix ix_list (pv 2) pe_int (fun _ _ => rfl)) pa_nil)) (nomark _)) (pss_one (ps_ret pe_str)) pss_nil))
   (pssx_one (psx_of (ps_ret pe_str)))))), ?_⟩
  refine ⟨_, rfl, p, dx, _, rfl, b.ins, fl_none _ _ _ _, _, rfl, p, M, ns, x, rfl, ta, fun c l hl => ?_, k2⟩
  have k1' := k1 c _ (Same.new (o := .lst ((pl ns ns.length x).map nV)) hl)
  refine ⟨_, rfl, l, _, rfl, .inl (SqL.of upd_same), rfl, _, rfl, ?_⟩
  rcases pl_cases td c with ⟨a, e, _⟩ | ⟨a, b', hab, e, _⟩
  ·rw [e] at k1' ⊢
   refine iteT ?_
   have : sortOf ns x = "rim" := by unfold sortOf; rw [e]
   rw [this] at k1'
   exact k1'
  ·rw [e] at k1' ⊢
   refine iteF ?_
   refine ⟨_, rfl, l, _, _, _, rfl, rfl, SqL.of upd_same, rfl, _, rfl, _, rfl, l, _, _, _, rfl, rfl, SqL.of upd_same, rfl, _, rfl, rfl, _, rfl, ?_⟩
   by_cases q : a / 3 = b' / 3
   ·have : sortOf ns x = "locked" := by unfold sortOf; rw [e]; exact if_pos q
    rw [this] at k1'
    rw [decide_eq_true (by congr 1; omega)]
    exact iteT k1'
   ·have : sortOf ns x = "free" := by unfold sortOf; rw [e]; exact if_neg q
    rw [this] at k1'
    rw [decide_eq_false (fun z => q (by injection z; omega))]
    exact iteF k1'
end
end KT
set_option maxHeartbeats 4000000
namespace KT
open PySem L2
noncomputable def sp_look_free (C ES ER EL : Addr) : Sp := fun vs H Q E => ∃ (p : Addr) (M : List (Option Nat)) (ns : List Int) (x : Int), vs = [.ref p, .int x] ∧ TentAt C H p M ns ∧ TD M ns ∧
 (x ∈ keys ns ns.length → ∀ H', Same H H' → (sortOf ns x = "rim" → E (.ref ER) none H') ∧ (sortOf ns x = "locked" → E (.ref EL) none H') ∧ (sortOf ns x = "free" → Q .non H')) ∧ (x ∉ keys ns ns.length → E (.ref ES) none H)
noncomputable def sqr (a b : Nat) : List V := [.int (after a), .int (before a), .int (after b), .int (before b)]
noncomputable def sp_square (C ES ER EL : Addr) : Sp := fun vs H Q E => ∃ (p : Addr) (M : List (Option Nat)) (ns : List Int) (x : Int), vs = [.ref p, .int x] ∧ TentAt C H p M ns ∧ TD M ns ∧
 (x ∈ keys ns ns.length → ∀ H', Same H H' → (sortOf ns x = "rim" → E (.ref ER) none H') ∧ (sortOf ns x = "locked" → E (.ref EL) none H') ∧ (∀ a b l, pl ns ns.length x = [a, b] → a < b → M[a]? = some (some b) → a / 3 ≠ b / 3 → H l = none → H' l = some (.tup (sqr a b)) → Q (.ref l) H')) ∧ (x ∉ keys ns ns.length → E (.ref ES) none H)
theorem sort_cases {M : List (Option Nat)} {ns : List Int} (td : TD M ns) {x : Int} (hx : x ∈ keys ns ns.length) :
  (sortOf ns x = "rim" ∧ ∃ a, pl ns ns.length x = [a] ∧ M[a]? = some none) ∨ (sortOf ns x = "locked" ∧ ∃ a b, a < b ∧ pl ns ns.length x = [a, b] ∧ M[a]? = some (some b) ∧ a / 3 = b / 3) ∨ (sortOf ns x = "free" ∧ ∃ a b, a < b ∧ pl ns ns.length x = [a, b] ∧ M[a]? = some (some b) ∧ a / 3 ≠ b / 3) := by
 rcases pl_cases td hx with ⟨a, e, _, ma⟩ | ⟨a, b, hab, e, _, _, ma, _⟩
 ·exact .inl ⟨by unfold sortOf; rw [e], a, e, ma⟩
 ·by_cases c : a / 3 = b / 3
  ·exact .inr (.inl ⟨by unfold sortOf; rw [e]; exact if_pos c, a, b, hab, e, ma, c⟩)
  ·exact .inr (.inr ⟨by unfold sortOf; rw [e]; exact if_neg c, a, b, hab, e, ma, c⟩)
theorem t_rf : ¬ (("rim" : Str)) = "free" := by decide
theorem t_lf : ¬ (("locked" : Str)) = "free" := by decide
theorem t_lr : ¬ (("locked" : Str)) = "rim" := by decide
theorem t_fr : ¬ (("free" : Str)) = "rim" := by decide
theorem t_fl : ¬ (("free" : Str)) = "locked" := by decide
theorem str_ne {x y : Str} (h : ¬ x = y) : decide (V.str x = V.str y) = false := decide_eq_false fun z => h (by injection z)
theorem str_eq {x : Str} : decide (V.str x = V.str x) = true := decide_eq_true rfl
section
variable {P : Program} {w : World} {K : PySem.W.Frag} {mg : Str → Option Value} {base : Heap} {t : Adr}
theorem sc_look_free : FnScope ["tent", "seam", "sort"] ["tent", "seam"] (defScope s_look_free) := ⟨rfl, rfl, rfl, by decide +kernel, rfl, by decide +kernel, by decide +kernel⟩
theorem ok_look_free (T : Txt w K mg t) : FnOk P w K mg base (CXr P w) 3 t.f_look_free t.d_look_free ["tent", "seam"] (sp_look_free t.C_Tent t.E_NoSeam t.E_Rim t.E_Locked) := by
 refine T.p_look_free.F.okX sc_look_free (fun vs H Q E h => ?_) (fun cdv A outer s H vs Q E hr h => ?_)
 ·obtain ⟨p, M, ns, x, rfl, _⟩ := h
  rfl
 ·obtain ⟨p, M, ns, x, rfl, ta, td, k1, k2⟩ := h
  obtain ⟨dx, cl, na, sp, mt, o, f, b⟩ := id ta
  refine ⟨_, (pssx_cons (psx_set (i := 2) sc_look_free.nd rfl (Or.inl rfl) (pex_meth (pv 0) T.cl_Tent T.p_Tent_sort_of.m (ok_Tent_sort_of T) (hr.mono (by decide)) T.p_Tent_sort_of.b .nil (pa_cons (pv 1) pa_nil)))
   (pssx_cons (psx_if (pt_cmpR op_eq (pv 2) pe_str (nomark _)) (pssx_one (psx_raise T.x_Rim FBV rfl T.gx_Rim rfl (pa_cons pe_str pa_nil))) pssx_nil)
   (pssx_one (psx_if (pt_cmpR op_eq (pv 2) pe_str (nomark _)) (pssx_one (psx_raise T.x_Locked FBV rfl T.gx_Locked rfl (pa_cons pe_str pa_nil))) pssx_nil)))), ?_⟩
  refine ⟨_, rfl, p, dx, _, rfl, b.ins, fl_none _ _ _ _, _, rfl, p, M, ns, x, rfl, ta, td, fun c H' sm => ?_, k2⟩
  obtain ⟨j1, j2, j3⟩ := k1 c H' sm
  refine ⟨_, rfl, rfl, _, rfl, ?_⟩
  rcases sort_cases td c with ⟨e, _⟩ | ⟨e, _⟩ | ⟨e, _⟩
  ·rw [e, str_eq]
   exact iteT ⟨by decide, j1 e⟩
  ·rw [e, str_ne t_lr]
   refine iteF ⟨_, rfl, rfl, _, rfl, ?_⟩
   rw [str_eq]
   exact iteT ⟨by decide, j2 e⟩
  ·rw [e, str_ne t_fr]
   refine iteF ⟨_, rfl, rfl, _, rfl, ?_⟩
   rw [str_ne t_fl]
   exact iteF (j3 e)
theorem sc_square : FnScope ["tent", "seam", "lesser", "greater"] ["tent", "seam"] (defScope s_square) := ⟨rfl, rfl, rfl, by decide +kernel, rfl, by decide +kernel, by decide +kernel⟩
theorem ok_square (T : Txt w K mg t) : FnOk P w K mg base (CXr P w) 4 t.f_square t.d_square ["tent", "seam"] (sp_square t.C_Tent t.E_NoSeam t.E_Rim t.E_Locked) := by
 refine T.p_square.F.okX sc_square (fun vs H Q E h => ?_) (fun cdv A outer s H vs Q E hr h => ?_)
 ·obtain ⟨p, M, ns, x, rfl, _⟩ := h
  rfl
 ·obtain ⟨p, M, ns, x, rfl, ta, td, k1, k2⟩ := h
  refine ⟨_, (pssx_cons (psx_expr (pex_call (ok_look_free T) (hr.mono (by decide)) rfl T.p_look_free.g T.p_look_free.F.kp T.p_look_free.b .nil (pa_cons (pv 0) (pa_cons (pv 1) pa_nil))))
   (pssx_cons (psx_of (ps_asg (pe_meth (pv 0) T.cl_Tent T.p_Tent_places.m (ok_Tent_places T) (hr.mono (by decide)) T.p_Tent_places.b .nil passR (pa_cons (pv 1) pa_nil)) (pg_lst rfl (pgs_cons (pg_name (i := 2) sc_square.nd rfl (Or.inl rfl)) (pgs_cons (pg_name (i := 3) sc_square.nd rfl (Or.inl rfl)) pgs_nil)))))
   (pssx_one (psx_of (ps_ret (pe_tup (pa_cons (pe_call (ok_after T) (hr.mono (by decide)) rfl T.p_after.g T.p_after.F.kp T.p_after.b .nil passR (pa_cons (pv 2) pa_nil)) (pa_cons (pe_call (ok_before T) (hr.mono (by decide)) rfl T.p_before.g T.p_before.F.kp T.p_before.b .nil passR (pa_cons (pv 2) pa_nil)) (pa_cons (pe_call (ok_after T) (hr.mono (by decide)) rfl T.p_after.g T.p_after.F.kp T.p_after.b .nil passR (pa_cons (pv 3) pa_nil)) (pa_cons (pe_call (ok_before T) (hr.mono (by decide)) rfl T.p_before.g T.p_before.F.kp T.p_before.b .nil passR (pa_cons (pv 3) pa_nil)) pa_nil)))))))))), ?_⟩
  refine ⟨_, rfl, _, rfl, p, M, ns, x, rfl, ta, td, fun c H' sm => ⟨(k1 c H' sm).1, (k1 c H' sm).2.1, fun e => ?_⟩, k2⟩
  obtain ⟨a, b, hab, ep, em, ne⟩ : ∃ a b, a < b ∧ pl ns ns.length x = [a, b] ∧ M[a]? = some (some b) ∧ a / 3 ≠ b / 3 := by
   rcases sort_cases td c with ⟨e', _⟩ | ⟨e', _⟩ | ⟨e', q⟩
   ·exact absurd (e'.symm.trans e) t_rf
   ·exact absurd (e'.symm.trans e) t_lf
   ·exact q
  have ta' := ta.same sm
  obtain ⟨dx, cl, na, sp, mt, o, f, B⟩ := id ta'
  refine ⟨_, rfl, p, dx, _, rfl, B.ins, fl_none _ _ _ _, _, rfl, p, M, ns, x, rfl, ta', fun _ l hl => ?_, fun z => absurd c z⟩
  rw [ep]
  refine ⟨l, _, rfl, SqL.of upd_same, rfl, _, _, rfl, _, _, rfl, rfl, ?_⟩
  refine ⟨_, rfl, _, rfl, ?_⟩
  refine ⟨_, rfl, _, rfl, ?_⟩
  refine ⟨_, rfl, _, rfl, ?_⟩
  refine ⟨_, rfl, _, rfl, ?_⟩
  refine ⟨(by show 4 ≤ sizeLine; decide), fun q hq => ?_⟩
  obtain ⟨hql, hq'⟩ := upd_none hq
  exact (k1 c _ (Same.add (Same.add sm (sm.free hl)) (sm.free hq'))).2.2 a b q ep hab em ne (sm.free hq') upd_same
end
end KT
set_option maxHeartbeats 4000000
namespace KT
open PySem L2
noncomputable def sp_seam : Sp := fun vs H Q _ => ∃ (r : Addr) (ns : List Int) (i : Nat) (x : Int), vs = [.ref r, .int i] ∧ RowsAt H r ns ∧ ns[i]? = some x ∧ Q (.int x) H
theorem row_at {H : Hp} {r : Addr} {ns : List Int} {i : Nat} {x : Int} (h : RowsAt H r ns) (hx : ns[i]? = some x) : ∃ ts : List Addr, ∃ q, H r = some (.lst (ts.map V.ref)) ∧ ts[i / 3]? = some q ∧ H q = some (.tup (row3 ns (i / 3))) ∧ (row3 ns (i / 3))[i % 3]? = some (V.int x) := by
 obtain ⟨ts, h1, h2, h3⟩ := h
 have hi : i < ns.length := (List.getElem?_eq_some_iff.mp hx).1
 have hk : i / 3 < ts.length := by omega
 refine ⟨ts, ts[i / 3], h1, List.getElem?_eq_getElem hk, h3 _ _ (List.getElem?_eq_getElem hk), ?_⟩
 have g : ∀ j, ns[j]? = some x → ns.getD j 0 = x := fun j hj => by rw [List.getD_eq_getElem?_getD, hj]; rfl
 have hm : i % 3 = 0 ∨ i % 3 = 1 ∨ i % 3 = 2 := by omega
 rcases hm with m | m | m
 ·have : 3 * (i / 3) = i := by omega
  rw [m]; show some (V.int (ns.getD (3 * (i / 3)) 0)) = _; rw [this, g i hx]
 ·have : 3 * (i / 3) + 1 = i := by omega
  rw [m]; show some (V.int (ns.getD (3 * (i / 3) + 1) 0)) = _; rw [this, g i hx]
 ·have : 3 * (i / 3) + 2 = i := by omega
  rw [m]; show some (V.int (ns.getD (3 * (i / 3) + 2) 0)) = _; rw [this, g i hx]
theorem div3 (i : Nat) : (i : Int) / 3 = ((i / 3 : Nat) : Int) := by omega
theorem mod3 (i : Nat) : (i : Int) % 3 = ((i % 3 : Nat) : Int) := by omega
noncomputable def sp_law (K : PySem.W.Frag) : Sp := fun vs H Q _ => ∃ (a : Addr) (ns : List Int), vs = [.ref a] ∧ SqL K H a (ns.map V.int) ∧ ns.length ≤ 63 ∧ ∀ H', Q (.bl true) H'
theorem sp_law_start {K : PySem.W.Frag} {H : Hp} {a : Addr} {ns : List Int} (hl : ns.length ≤ 63) (hS : SqL K H a (ns.map V.int)) : sp_law K [.ref a] H (fun v _ => v = .bl true) fun _ _ _ => False := ⟨a, ns, rfl, hS, hl, fun _ => rfl⟩
theorem RowsAt.copy {H : Hp} {r l : Addr} {ns : List Int} {ts : List Addr} (h1 : H r = some (.lst (ts.map V.ref))) (h2 : ns.length = 3 * ts.length) (h3 : ∀ (k : Nat) (t : Addr), ts[k]? = some t → H t = some (.tup (row3 ns k))) (hl : H l = none) : RowsAt (upd H l (.lst (ts.map V.ref))) l ns :=
 ⟨ts, upd_same, h2, fun k q e => by rw [upd_ne (ne_of_none (h3 k q e) hl)]; exact h3 k q e⟩
theorem tent_new {H1 : Hp} {r l x dx C : Addr} {ns : List Int} {ts : List Addr} (g1 : H1 r = some (.lst (ts.map V.ref))) (g2 : ns.length = 3 * ts.length) (g3 : ∀ (k : Nat) (t : Addr), ts[k]? = some t → H1 t = some (.tup (row3 ns k)))
  (hl1 : H1 l = none) (hx : upd H1 l (.lst (ts.map V.ref)) x = none) (hdx : upd H1 l (.lst (ts.map V.ref)) dx = none) :
  RowsAt (upd (upd (upd H1 l (.lst (ts.map V.ref))) dx (.own x)) x (.ins C dx [])) l ns ∧ Same (upd H1 l (.lst (ts.map V.ref))) (upd (upd (upd H1 l (.lst (ts.map V.ref))) dx (.own x)) x (.ins C dx [])) := by
 have s : Same (upd H1 l (.lst (ts.map V.ref))) (upd (upd (upd H1 l (.lst (ts.map V.ref))) dx (.own x)) x (.ins C dx [])) := Same.add (Same.new hdx) hx
 exact ⟨(RowsAt.copy g1 g2 g3 hl1).same s, s⟩
theorem sorted_eq {a b c : List Int} (h1 : a.Perm c) (h2 : b.Perm c) (s1 : a.Pairwise (· ≤ ·)) (s2 : b.Pairwise (· ≤ ·)) : a = b :=
 (h1.trans h2.symm).eq_of_pairwise (fun x y _ _ h1 h2 => Int.le_antisymm h1 h2) s1 s2
section
variable {P : Program} {w : World} {K : PySem.W.Frag} {mg : Str → Option Value} {base : Heap} {t : Adr}
theorem sc_l_seam : FnScope ["_law_rows_here", "_law_place"] ["_law_rows_here", "_law_place"] (defScope s_l_seam) := ⟨rfl, rfl, rfl, by decide +kernel, rfl, by decide +kernel, by decide +kernel⟩
theorem ok_l_seam (T : Txt w K mg t) : FnOk P w K mg base (CXr P w) 1 t.f_l_seam t.d_l_seam ["_law_rows_here", "_law_place"] sp_seam := by
 refine T.p_l_seam.F.okR sc_l_seam (fun vs H Q E h => ?_) (fun cdv A outer s H vs Q E hr h => ?_)
 ·obtain ⟨r, ns, i, x, rfl, _⟩ := h
  rfl
 ·obtain ⟨r, ns, i, x, rfl, hr1, hx, k⟩ := h
  refine ⟨_, (pss_one (ps_ret (pe_ix ix_tup (pe_ix ix_list (pv 0) (pe_op op_fdiv (pv 1) pe_int) (fun _ _ => rfl)) (pe_op op_mod (pv 1) pe_int) (fun _ _ => rfl)))), ?_⟩
  obtain ⟨ts, q, e1, e2, e3, e4⟩ := row_at hr1 hx
  refine ⟨_, rfl, _, rfl, _, _, rfl, rfl, ⟨by decide, by decide⟩, r, _, _, _, rfl, rfl, SqL.of e1, (by rw [div3]; exact map_at e2), _, rfl, _, _, rfl, rfl, (by show (0 : Int) < 3; decide), q, _, _, _, rfl, rfl, SqT.of e3, (by rw [mod3]; exact atI_nat e4), k⟩
end
end KT
set_option maxHeartbeats 4000000
namespace KT
open PySem L2
noncomputable def isL (way : Str) : Bool := decide (way = "left")
noncomputable def sp_look_way (EW : Addr) : Sp := fun vs H Q E => ∃ way : Str, vs = [.str way] ∧ (way = "left" ∨ way = "right" → Q .non H) ∧ (¬ (way = "left" ∨ way = "right") → E (.ref EW) none H)
structure Wrong (EW ES ER EL : Addr) (M : List (Option Nat)) (ns : List Int) (x : Int) (way : Str) (H : Hp) (E : XK) (G : Nat → Nat → Hp → Prop) : Prop where
 noway : ¬ (way = "left" ∨ way = "right") → E (.ref EW) none H
 seam : way = "left" ∨ way = "right" → x ∉ keys ns ns.length → E (.ref ES) none H
 rim : way = "left" ∨ way = "right" → ∀ H', Same H H' → x ∈ keys ns ns.length → sortOf ns x = "rim" → E (.ref ER) none H'
 lock : way = "left" ∨ way = "right" → ∀ H', Same H H' → x ∈ keys ns ns.length → sortOf ns x = "locked" → E (.ref EL) none H'
 go : way = "left" ∨ way = "right" → ∀ a b H', Same H H' → pl ns ns.length x = [a, b] → a < b → M[a]? = some (some b) → a / 3 ≠ b / 3 → G a b H'
noncomputable def sp_shifts (C EW ES ER EL : Addr) : Sp := fun vs H Q E => ∃ (p : Addr) (M : List (Option Nat)) (ns : List Int) (x : Int) (way : Str), vs = [.ref p, .int x, .str way] ∧ TentAt C H p M ns ∧ TD M ns ∧
 Wrong EW ES ER EL M ns x way H E fun a b H' => ∀ l, H l = none → H' l = some (.dK (glV (isL way) a b)) → Q (.ref l) H'
noncomputable def sp_moved (C EP EW ES ER EL : Addr) : Sp := fun vs H Q E => ∃ (p : Addr) (M : List (Option Nat)) (ns : List Int) (x : Int) (way : Str) (z : Int), vs = [.ref p, .int x, .str way, .int z] ∧ TentAt C H p M ns ∧ TD M ns ∧
 Wrong EW ES ER EL M ns x way H E fun a b H' => (0 ≤ z ∧ z < ns.length → Q (.int (mvI (isL way) a b z)) H') ∧ (¬ (0 ≤ z ∧ z < ns.length) → E (.ref EP) none H')
theorem ways_val (way : Str) : (valV [((Sum.inr "left" : Key), V.str "right"), (Sum.inr "right", V.str "left")] (Sum.inr way)).isSome = true ↔ way = "left" ∨ way = "right" := by
 unfold valV
 by_cases c1 : way = "left"
 ·subst c1; simp
 ·by_cases c2 : way = "right"
  ·subst c2
   simp [List.find?_cons]
   split <;> simp
  ·have n1 : ¬ (Sum.inr "left" : Key) = Sum.inr way := fun z => c1 (by injection z with z; exact z.symm)
   have n2 : ¬ (Sum.inr "right" : Key) = Sum.inr way := fun z => c2 (by injection z with z; exact z.symm)
   simp [List.find?_cons, n1, n2, c1, c2]
section
variable {P : Program} {w : World} {K : PySem.W.Frag} {mg : Str → Option Value} {base : Heap} {t : Adr}
theorem sc_look_way : FnScope ["way"] ["way"] (defScope s_look_way) := ⟨rfl, rfl, rfl, by decide +kernel, rfl, by decide +kernel, by decide +kernel⟩
theorem ok_look_way (T : Txt w K mg t) : FnOk P w K mg base (CXr P w) 1 t.f_look_way t.d_look_way ["way"] (sp_look_way t.E_NoWay) := by
 refine T.p_look_way.F.okX sc_look_way (fun vs H Q E h => ?_) (fun cdv A outer s H vs Q E hr h => ?_)
 ·obtain ⟨way, rfl, _⟩ := h
  rfl
 ·obtain ⟨way, rfl, k1, k2⟩ := h
  refine ⟨_, (pssx_one (psx_if (pt_cmp (pc_knotin (pv 0) (pe_glob (v := .ref t.g_CONTRARY_WAYS) rfl T.gd_CONTRARY_WAYS rfl)) (by with_unfolding_all rfl)) (pssx_one (psx_raise T.x_NoWay FBV rfl T.gx_NoWay rfl (pa_cons pe_str pa_nil))) pssx_nil)), ?_⟩
  refine ⟨_, rfl, t.g_CONTRARY_WAYS, _, Sum.inr way, rfl, T.kd_CONTRARY_WAYS, rfl, _, rfl, ?_⟩
  by_cases c : way = "left" ∨ way = "right"
  ·rw [(ways_val way).mpr c]
   exact iteF (k1 c)
  ·have : (valV [((Sum.inr "left" : Key), V.str "right"), (Sum.inr "right", V.str "left")] (Sum.inr way)).isSome = false := by
    rw [Bool.eq_false_iff]; exact fun z => c ((ways_val way).mp z)
   rw [this]
   exact iteT ⟨by decide, k2 c⟩
theorem sc_shifts : FnScope ["tent", "seam", "way", "a", "b", "c", "d"] ["tent", "seam", "way"] (defScope s_shifts) := ⟨rfl, rfl, rfl, by decide +kernel, rfl, by decide +kernel, by decide +kernel⟩
theorem ok_shifts (T : Txt w K mg t) : FnOk P w K mg base (CXr P w) 5 t.f_shifts t.d_shifts ["tent", "seam", "way"] (sp_shifts t.C_Tent t.E_NoWay t.E_NoSeam t.E_Rim t.E_Locked) := by
 refine T.p_shifts.F.okX sc_shifts (fun vs H Q E h => ?_) (fun cdv A outer s H vs Q E hr h => ?_)
 ·obtain ⟨p, M, ns, x, way, rfl, _⟩ := h
  rfl
 ·obtain ⟨p, M, ns, x, way, rfl, ta, td, W⟩ := h
  refine ⟨_, (pssx_cons (psx_expr (pex_call (ok_look_way T) (hr.mono (by decide)) rfl T.p_look_way.g T.p_look_way.F.kp T.p_look_way.b .nil (pa_cons (pv 2) pa_nil)))
   (pssx_cons (psx_asg (pex_call (ok_square T) (hr.mono (by decide)) rfl T.p_square.g T.p_square.F.kp T.p_square.b .nil (pa_cons (pv 0) (pa_cons (pv 1) pa_nil))) (pg_tup rfl (pgs_cons (pg_name (i := 3) sc_shifts.nd rfl (Or.inl rfl)) (pgs_cons (pg_name (i := 4) sc_shifts.nd rfl (Or.inl rfl)) (pgs_cons (pg_name (i := 5) sc_shifts.nd rfl (Or.inl rfl)) (pgs_cons (pg_name (i := 6) sc_shifts.nd rfl (Or.inl rfl)) pgs_nil))))))
   (pssx_cons (psx_of (ps_if (pt_cmpR op_eq (pv 2) pe_str (nomark _)) (pss_one (ps_ret (pe_disp (pps_cons (pv 3) (pv 6) (pps_cons (pv 6) (pv 5) (pps_cons (pv 5) (pv 4) (pps_cons (pv 4) (pv 3) pps_nil)))) rfl rfl (List.cons_ne_nil _ _) (by decide)))) pss_nil))
   (pssx_one (psx_of (ps_ret (pe_disp (pps_cons (pv 3) (pv 4) (pps_cons (pv 4) (pv 5) (pps_cons (pv 5) (pv 6) (pps_cons (pv 6) (pv 3) pps_nil)))) rfl rfl (List.cons_ne_nil _ _) (by decide)))))))), ?_⟩
  refine ⟨_, rfl, way, rfl, fun hw => ?_, W.noway⟩
  refine ⟨_, rfl, _, rfl, p, M, ns, x, rfl, ta, td, fun c H' sm => ⟨fun e => W.rim hw H' sm c e, fun e => W.lock hw H' sm c e, fun a b l e1 e2 e3 e4 e5 e6 => ?_⟩, fun c => W.seam hw c⟩
  refine ⟨l, _, rfl, SqT.of e6, rfl, _, _, rfl, _, _, rfl, _, _, rfl, _, _, rfl, rfl, ?_⟩
  refine ⟨_, rfl, rfl, _, rfl, ?_⟩
  by_cases c : way = "left"
  ·have cl : isL way = true := decide_eq_true c
   have := fun H'' s'' => W.go hw a b H'' s'' e1 e2 e3 e4
   rw [cl] at this
   rw [decide_eq_true (show V.str way = V.str "left" by rw [c])]
   refine iteT ?_
   intro d hd
   refine ⟨_, rfl, _, rfl, _, rfl, _, rfl, _, rfl, _, rfl, _, rfl, _, rfl, upd_same, glV true a b, ?_, ?_, ?_⟩
   ·rw [glV_left e4]; rfl
   ·rw [glV_left e4]; show 4 ≤ 15; decide
   ·rw [merge_gl e4]
    exact this _ (Same.add (Same.add sm (sm.free hd)) (sm.free hd)) d (sm.free hd) upd_same
  ·have cl : isL way = false := decide_eq_false c
   have := fun H'' s'' => W.go hw a b H'' s'' e1 e2 e3 e4
   rw [cl] at this
   rw [str_ne c]
   refine iteF ?_
   intro d hd
   refine ⟨_, rfl, _, rfl, _, rfl, _, rfl, _, rfl, _, rfl, _, rfl, _, rfl, upd_same, glV false a b, ?_, ?_, ?_⟩
   ·rw [glV_right e4]; rfl
   ·rw [glV_right e4]; show 4 ≤ 15; decide
   ·rw [merge_gl e4]
    exact this _ (Same.add (Same.add sm (sm.free hd)) (sm.free hd)) d (sm.free hd) upd_same
theorem sc_moved : FnScope ["tent", "seam", "way", "place", "goals"] ["tent", "seam", "way", "place"] (defScope s_moved) := ⟨rfl, rfl, rfl, by decide +kernel, rfl, by decide +kernel, by decide +kernel⟩
theorem ok_moved (T : Txt w K mg t) : FnOk P w K mg base (CXr P w) 6 t.f_moved t.d_moved ["tent", "seam", "way", "place"] (sp_moved t.C_Tent t.E_NoPlace t.E_NoWay t.E_NoSeam t.E_Rim t.E_Locked) := by
 refine T.p_moved.F.okX sc_moved (fun vs H Q E h => ?_) (fun cdv A outer s H vs Q E hr h => ?_)
 ·obtain ⟨p, M, ns, x, way, z, rfl, _⟩ := h
  rfl
 ·obtain ⟨p, M, ns, x, way, z, rfl, ta, td, W⟩ := h
  have hu := hu_of hr
  refine ⟨_, (pssx_cons (psx_set (i := 4) sc_moved.nd rfl (Or.inl rfl) (pex_call (ok_shifts T) (hr.mono (by decide)) rfl T.p_shifts.g T.p_shifts.F.kp T.p_shifts.b .nil (pa_cons (pv 0) (pa_cons (pv 1) (pa_cons (pv 2) pa_nil)))))
   (pssx_cons (psx_expr (pex_meth (pv 0) T.cl_Tent T.p_Tent_look_place.m (ok_Tent_look_place T) (hr.mono (by decide)) T.p_Tent_look_place.b .nil (pa_cons (pv 3) pa_nil)))
   (pssx_one (psx_of (ps_ret (pe_dget2 hu (pv 4) (pv 3) (pv 3) ⟨rfl, rfl, rfl, rfl⟩)))))), ?_⟩
  refine ⟨_, rfl, _, rfl, _, rfl, p, M, ns, x, way, rfl, ta, td, ⟨W.noway, W.seam, W.rim, W.lock, fun hw a b H' sm e1 e2 e3 e4 l hl hd => ?_⟩⟩
  obtain ⟨g1, g2⟩ := W.go hw a b H' sm e1 e2 e3 e4
  have ta' := ta.same sm
  obtain ⟨dx, cl, na, sp, mt, o, f, B⟩ := id ta'
  refine ⟨_, rfl, p, dx, _, rfl, B.ins, fl_none _ _ _ _, _, rfl, p, M, ns, z, rfl, ta', fun c => ?_, g2⟩
  refine ⟨_, rfl, l, rfl, .inl ⟨_, .inl hd⟩, _, rfl, _, rfl, _, DGet.k (k := Sum.inl z) hd, ?_⟩
  rw [val_gl]
  exact g1 c
end
end KT
set_option maxHeartbeats 4000000
namespace KT
open PySem L2
theorem len_word {ws : List Int} : (((ws.map V.int).length : Nat) : Int) = ws.length := by rw [List.length_map]
end KT
set_option maxHeartbeats 4000000
namespace KT
open PySem L2
noncomputable def turnI (ws : List Int) (by' : Int) : List Int := rot ws (by' % ws.length).toNat
noncomputable def sp_turned : Sp := fun vs H Q _ => ∃ (a : Addr) (ws : List Int) (b : Int), vs = [.ref a, .int b] ∧ H a = some (.lst (ws.map V.int)) ∧ ws.length ≤ 100000 ∧ ∀ (l : Addr) (H' : Hp), Same H H' → H l = none → H' l = some (.lst ((turnI ws b).map V.int)) → Q (.ref l) H'
noncomputable def sp_crossable (C : Addr) : Sp := fun vs H Q _ => ∃ (p : Addr) (M : List (Option Nat)) (ns : List Int) (x : Int), vs = [.ref p, .int x] ∧ TentAt C H p M ns ∧ M.length = ns.length ∧ Q (.bl (crossB M x)) H
noncomputable def sp_follows (C : Addr) : Sp := fun vs H Q _ => ∃ (p : Addr) (M : List (Option Nat)) (ns : List Int) (a x : Int), vs = [.ref p, .int a, .int x] ∧ TentAt C H p M ns ∧ M.length = ns.length ∧ crossB M a = true ∧ Q (.bl (followB M a x)) H
noncomputable def sp_plain (C : Addr) : Sp := fun vs H Q _ => ∃ (p a : Addr) (M : List (Option Nat)) (ns ws : List Int), vs = [.ref p, .ref a] ∧ TentAt C H p M ns ∧ M.length = ns.length ∧ H a = some (.lst (ws.map V.int)) ∧ ws.length ≤ 100000 ∧ ∀ H', Same H H' → Q (.bl (plainB M ws)) H'
noncomputable def sp_look_thread (C EN : Addr) : Sp := fun vs H Q E => ∃ (p a : Addr) (M : List (Option Nat)) (ns ws : List Int), vs = [.ref p, .ref a] ∧ TentAt C H p M ns ∧ M.length = ns.length ∧ H a = some (.lst (ws.map V.int)) ∧ ws.length ≤ 100000 ∧ ∀ H', Same H H' → (plainB M ws = true → Q .non H') ∧ (plainB M ws = false → E (.ref EN) none H')
theorem small_word {n : Nat} (h : n ≤ 100000) : n ≤ sizeLine := by rw [sizeLine_eq]; omega
theorem cut_from {ws : List Int} {s : Nat} (h : s ≤ ws.length) : cutV (ws.map V.int) (some (s : Int)) none = (ws.drop s).map V.int := by
 unfold cutV
 rw [HT.sIx_nat, HT.sIx_none, List.length_map, Nat.min_eq_left h, List.map_drop, List.take_of_length_le]
 rw [List.length_drop, List.length_map]
 exact Nat.le_refl _
theorem cut_to {ws : List Int} {s : Nat} (h : s ≤ ws.length) : cutV (ws.map V.int) none (some (s : Int)) = (ws.take s).map V.int := by
 unfold cutV
 rw [HT.sIx_none, HT.sIx_nat, List.length_map, Nat.min_eq_left h, List.drop_zero, Nat.sub_zero, List.map_take]
section
variable {P : Program} {w : World} {K : PySem.W.Frag} {mg : Str → Option Value} {base : Heap} {t : Adr}
theorem sc_turned : FnScope ["word", "by", "start"] ["word", "by"] (defScope s_turned) := ⟨rfl, rfl, rfl, by decide +kernel, rfl, by decide +kernel, by decide +kernel⟩
theorem ok_turned (T : Txt w K mg t) : FnOk P w K mg base (CXr P w) 1 t.f_turned t.d_turned ["word", "by"] sp_turned := by
 refine T.p_turned.F.okR sc_turned (fun vs H Q E h => ?_) (fun cdv A outer s H vs Q E hr h => ?_)
 ·obtain ⟨a, ws, b, rfl, _⟩ := h
  rfl
 ·obtain ⟨a, ws, b, rfl, ha, hl, k⟩ := h
  refine ⟨_, (pss_cons (ps_if (pt_not (pt_truth (pv 0) (fun _ => rfl))) (pss_one (ps_ret (pe_lst pa_nil))) pss_nil)
   (pss_cons (ps_set (i := 2) sc_turned.nd rfl (Or.inl rfl) (pe_op op_mod (pv 1) (pe_callB call_len_seq (by rfl) T.n_len PySem.boot_len (pa_cons (pv 0) pa_nil))))
   (pss_one (ps_ret (pe_op op_cat (pe_slice sl_list (pv 0) (po_some (pv 2)) po_none) (pe_slice sl_list (pv 0) po_none (po_some (pv 2)))))))), ?_⟩
  refine seq_cut fun nxC hnxC => ?_
  refine ⟨_, rfl, _, .inl ⟨_, SqL.of ha, rfl⟩, ?_⟩
  by_cases hne : ws = []
  ·subst hne
   exact iteT ⟨Nat.zero_le _, fun l hl' => k l _ (Same.new hl') hl' (by rw [upd_same]; unfold turnI rot; simp)⟩
  ·have e : (!(ws.map V.int).isEmpty) = true := by cases ws with | nil => exact absurd rfl hne | cons _ _ => rfl
   have hp : 0 < ws.length := by cases ws with | nil => exact absurd rfl hne | cons _ _ => simp
   rw [e]
   refine iteF ?_
   dsimp only [tNext]
   refine hnxC _ _ ?_
   have k0 := Int.emod_nonneg b (show (ws.length : Int) ≠ 0 by omega)
   have k1 := Int.emod_lt_of_pos b (show (0 : Int) < ws.length by omega)
   obtain ⟨st, hst⟩ : ∃ st : Nat, b % (ws.length : Int) = st := ⟨_, (Int.toNat_of_nonneg k0).symm⟩
   have hsl : st ≤ ws.length := by omega
   have et : turnI ws b = ws.drop st ++ ws.take st := by unfold turnI rot; rw [hst, Int.toNat_natCast]
   refine ⟨_, rfl, _, rfl, a, _, rfl, .inl (SqL.of ha), _, _, rfl, rfl, (by rw [List.length_map]; omega), ?_⟩
   dsimp only [gName]
   rw [len_word, hst]
   refine ⟨_, rfl, _, rfl, _, rfl, a, _, rfl, SqL.of ha, fun l1 h1 => ?_⟩
   rw [cut_from hsl]
   have s1 : Same H (upd H l1 (.lst ((ws.drop st).map V.int))) := Same.new h1
   refine ⟨_, rfl, _, rfl, _, rfl, a, _, rfl, SqL.of (s1 _ _ ha), fun l2 h2 => ?_⟩
   rw [cut_to hsl]
   obtain ⟨hne2, h2'⟩ := upd_none h2
   refine ⟨l1, l2, _, _, rfl, rfl, by rw [upd_ne (Ne.symm hne2), upd_same], upd_same, ?_, fun l3 h3 => ?_⟩
   ·rw [List.length_map, List.length_map, List.length_drop, List.length_take]; exact small_word (by omega)
   ·have s3 := Same.add (o := .lst ((ws.take st).map V.int)) s1 h2'
    refine k l3 _ (Same.add s3 (s3.free h3)) (s3.free h3) ?_
    rw [upd_same, et, List.map_append]
theorem sc_crossable : FnScope ["tent", "place"] ["tent", "place"] (defScope s_crossable) := ⟨rfl, rfl, rfl, by decide +kernel, rfl, by decide +kernel, by decide +kernel⟩
theorem ok_crossable (T : Txt w K mg t) : FnOk P w K mg base (CXr P w) 4 t.f_crossable t.d_crossable ["tent", "place"] (sp_crossable t.C_Tent) := by
 refine T.p_crossable.F.okR sc_crossable (fun vs H Q E h => ?_) (fun cdv A outer s H vs Q E hr h => ?_)
 ·obtain ⟨p, M, ns, x, rfl, _⟩ := h
  rfl
 ·obtain ⟨p, M, ns, x, rfl, ta, hMl, k⟩ := h
  obtain ⟨dx, cl, na, sp, mt, o, f, b⟩ := id ta
  refine ⟨_, (pss_one (ps_ret (pe_and (pe_meth (pv 0) T.cl_Tent T.p_Tent_has_place.m (ok_Tent_has_place T) (hr.mono (by decide)) T.p_Tent_has_place.b .nil passR (pa_cons (pv 1) pa_nil)) (pe_one (pe_cmpR op_notN (pe_meth (pv 0) T.cl_Tent T.p_Tent_mate.m (ok_Tent_mate T) (hr.mono (by decide)) T.p_Tent_mate.b .nil passR (pa_cons (pv 1) pa_nil)) pe_non (nomark _)))))), ?_⟩
  refine ⟨_, rfl, p, dx, _, rfl, b.ins, fl_none _ _ _ _, _, rfl, p, M, ns, x, rfl, ta, _, rfl, ?_⟩
  by_cases c : 0 ≤ x ∧ x < (ns.length : Int)
  ·rw [decide_eq_true c]
   refine iteT ⟨_, rfl, p, dx, _, rfl, b.ins, fl_none _ _ _ _, _, rfl, p, M, ns, x, rfl, ta, hMl, fun i y e1 e2 => ?_, fun z => absurd c z⟩
   refine ⟨rfl, ?_⟩
   have : crossB M x = !decide (mV y = .non) := by
    unfold crossB
    rw [e1, Int.toNat_natCast, List.getD_eq_getElem?_getD, e2, decide_eq_true (show (0 : Int) ≤ i ∧ (i : Int) < M.length by omega)]
    cases y <;> rfl
   rw [this] at k
   exact k
  ·rw [decide_eq_false c]
   have : crossB M x = false := by unfold crossB; rw [decide_eq_false (by omega)]; rfl
   rw [this] at k
   exact iteF k
theorem sc_follows : FnScope ["tent", "ahead", "place", "entry"] ["tent", "ahead", "place"] (defScope s_follows) := ⟨rfl, rfl, rfl, by decide +kernel, rfl, by decide +kernel, by decide +kernel⟩
theorem ok_follows (T : Txt w K mg t) : FnOk P w K mg base (CXr P w) 4 t.f_follows t.d_follows ["tent", "ahead", "place"] (sp_follows t.C_Tent) := by
 refine T.p_follows.F.okR sc_follows (fun vs H Q E h => ?_) (fun cdv A outer s H vs Q E hr h => ?_)
 ·obtain ⟨p, M, ns, a, x, rfl, _⟩ := h
  rfl
 ·obtain ⟨p, M, ns, a, x, rfl, ta, hMl, hc, k⟩ := h
  obtain ⟨dx, cl, na, sp, mt, o, f, b⟩ := id ta
  refine ⟨_, (pss_cons (ps_set (i := 3) sc_follows.nd rfl (Or.inl rfl) (pe_meth (pv 0) T.cl_Tent T.p_Tent_mate.m (ok_Tent_mate T) (hr.mono (by decide)) T.p_Tent_mate.b .nil passR (pa_cons (pv 1) pa_nil)))
   (pss_one (ps_ret (pe_and (pe_cmpR op_eq (pe_call (ok_cloth_of T) (hr.mono (by decide)) rfl T.p_cloth_of.g T.p_cloth_of.F.kp T.p_cloth_of.b .nil passR (pa_cons (pv 2) pa_nil)) (pe_call (ok_cloth_of T) (hr.mono (by decide)) rfl T.p_cloth_of.g T.p_cloth_of.F.kp T.p_cloth_of.b .nil passR (pa_cons (pv 3) pa_nil)) (nomark _)) (pe_one (pe_cmpR op_ne (pv 2) (pv 3) (nomark _))))))), ?_⟩
  obtain ⟨hr1, hs1⟩ := Bool.and_eq_true_iff.mp hc
  have hr1 := of_decide_eq_true hr1
  obtain ⟨m, hm⟩ := Option.isSome_iff_exists.mp hs1
  have hal : a.toNat < M.length := by omega
  have ha : M[a.toNat]? = some (some m) := by rw [List.getD_eq_getElem?_getD, List.getElem?_eq_getElem hal] at hm; rw [List.getElem?_eq_getElem hal]; exact congrArg some hm
  have ef : followB M a x = (decide (x / 3 = (m : Int) / 3) && !decide (x = (m : Int))) := by unfold followB; rw [hm]
  rw [ef] at k
  refine ⟨_, rfl, p, dx, _, rfl, b.ins, fl_none _ _ _ _, _, rfl, p, M, ns, a, rfl, ta, hMl, fun i y e1 e2 => ?_, fun z => absurd (show 0 ≤ a ∧ a < (ns.length : Int) by omega) z⟩
  have : i = a.toNat := by omega
  subst this
  rw [ha] at e2
  cases e2
  refine ⟨_, rfl, _, rfl, _, rfl, _, rfl, rfl, _, rfl, ?_⟩
  have dI : ∀ u v : Int, decide (V.int u = V.int v) = decide (u = v) := fun u v => by
   by_cases z : u = v
   ·subst z; simp
   ·rw [decide_eq_false z, decide_eq_false (fun y => z (by injection y))]
  rw [dI]
  by_cases z : x / 3 = (m : Int) / 3
  ·rw [decide_eq_true z] at k ⊢
   refine iteT ⟨_, rfl, _, rfl, rfl, ?_⟩
   show Q (.bl (!decide (V.int x = V.int (m : Int)))) H
   rw [dI]
   exact k
  ·rw [decide_eq_false z] at k ⊢
   exact iteF k
theorem sc_plain : FnScope ["tent", "word"] ["tent", "word"] (defScope s_plain) := ⟨rfl, rfl, rfl, by decide +kernel, rfl, by decide +kernel, by decide +kernel⟩
theorem ok_plain (T : Txt w K mg t) : FnOk P w K mg base (CXr P w) 5 t.f_plain t.d_plain ["tent", "word"] (sp_plain t.C_Tent) := by
  refine T.p_plain.F.okR sc_plain (fun vs H Q E h => ?_) (fun cdv A outer s H vs Q E hr h => ?_)
  · obtain ⟨p, a, M, ns, ws, rfl, _⟩ := h
    rfl
  · obtain ⟨p, a, M, ns, ws, rfl, ta, hMl, ha, hl, k⟩ := h
    refine ⟨_, (pss_cons (ps_if (PW.pt (pw_or (pt_not (pt_truth (pv 1) (fun _ => rfl))) (pw_or1 (pt_not (pt_val (pe_callB (call_all rfl) (by rfl) T.n_all PyProof.Rows.boot_all (pa_cons (pe_compG (ts := ["place"]) (fv := [("tent", 0)]) ⟨rfl, by decide +kernel, by decide +kernel, blkFree (by rfl), ⟨⟨rfl, rfl, Or.inl rfl⟩, trivial⟩⟩ rfl (pi_list (pv 1)) (fun _ _ _ _ => (pg_name (i := 0) (show List.Nodup (["place", "tent"] : List Str) from by decide +kernel) rfl (Or.inl rfl) (Or.inr rfl))) (fun _ _ _ _ => pts_nil) (fun _ _ _ => rfl) (fun _ _ _ _ _ _ => pb_emit (pe_call (ok_crossable T) (hr.mono (by decide)) rfl T.p_crossable.g T.p_crossable.F.kp T.p_crossable.b .nil passR (pa_cons (pv 1) (pa_cons (pv 0) pa_nil))))) pa_nil))))))) (pss_one (ps_ret pe_bl)) pss_nil)
      (pss_one (ps_ret (pe_callB (call_all rfl) (by rfl) T.n_all PyProof.Rows.boot_all (pa_cons (pe_compG (ts := ["ahead", "place"]) (fv := [("tent", 0)]) ⟨rfl, by decide +kernel, by decide +kernel, blkFree (by rfl), ⟨⟨rfl, rfl, Or.inl rfl⟩, trivial⟩⟩ rfl (pi_zip rfl T.n_zip (pa_cons (pv 1) (pa_cons (pe_call (ok_turned T) (hr.mono (by decide)) rfl T.p_turned.g T.p_turned.F.kp T.p_turned.b .nil passR (pa_cons (pv 1) (pa_cons pe_int pa_nil))) pa_nil))) (fun _ _ _ _ => (pg_tupK (n := 2) K rfl (pgs_cons (pg_name (i := 0) (show List.Nodup (["ahead", "place", "tent"] : List Str) from by decide +kernel) rfl (Or.inl rfl) (Or.inr rfl)) (pgs_cons (pg_name (i := 1) (show List.Nodup (["ahead", "place", "tent"] : List Str) from by decide +kernel) rfl (Or.inl rfl) (Or.inr rfl)) pgs_nil)))) (fun _ _ _ _ => pts_nil) (fun _ _ _ => rfl) (fun _ _ _ _ _ _ => pb_emit (pe_call (ok_follows T) (hr.mono (by decide)) rfl T.p_follows.g T.p_follows.F.kp T.p_follows.b .nil passR (pa_cons (pv 2) (pa_cons (pv 0) (pa_cons (pv 1) pa_nil)))))) pa_nil))))), ?_⟩
    refine seq_cut fun nxC hnxC => ?_
    refine ⟨_, rfl, _, .inl ⟨_, SqL.of ha, rfl⟩, ?_⟩
    by_cases hne : ws = []
    · subst hne
      exact iteT (k _ (Same.refl _))
    · have e : (!(ws.map V.int).isEmpty) = true := by cases ws with | nil => exact absurd rfl hne | cons _ _ => rfl
      have e' : (!ws.isEmpty) = true := by cases ws with | nil => exact absurd rfl hne | cons _ _ => rfl
      have hp : 0 < ws.length := by cases ws with | nil => exact absurd rfl hne | cons _ _ => simp
      rw [e]
      refine iteF ?_
      refine ⟨_, rfl, a, rfl, ⟨_, SqL.of ha⟩, fun D hD => ?_⟩
      refine loop_list (xs := ws.map V.int) (fun i σ H1 => ∃ v, σ = [v, some (.ref p)] ∧ Same H H1 ∧ H1 D = some (.lst (((ws.take i).map (crossB M)).map V.bl))) ⟨none, rfl, Same.new hD, upd_same⟩ ?_ ?_ ?_
      · rintro i σ H1 _ ⟨v, rfl, sm, h1⟩
        exact SqL.of (sm _ _ ha)
      · rintro i x σ H1 hx ⟨v, rfl, sm, h1⟩
        obtain ⟨y, hy, rfl⟩ := map_some hx
        dsimp only [gName, tYes]
        rw [if_pos rfl]
        refine ⟨_, rfl, _, rfl, p, M, ns, y, rfl, ta.same sm, hMl, _, h1, ?_, _, rfl, Same.add sm hD, ?_⟩
        · rw [List.length_map, List.length_map, List.length_take, sizeLine_eq]; omega
        · rw [upd_same, List.take_add_one, hy, List.map_append, List.map_append]; rfl
      rintro σ H1 ⟨v, rfl, s1, h1⟩
      rw [List.length_map, List.take_length] at h1
      refine ⟨D, _, rfl, SqL.of h1, _, rfl, ?_⟩
      by_cases hc : (ws.map (crossB M)).all id = true
      · rw [hc]
        refine iteF ?_
        dsimp only [tNext]
        refine hnxC _ _ ?_
        refine ⟨_, rfl, _, rfl, a, ws, 1, rfl, s1 _ _ ha, hl, fun tl H2 s2 htl h2 => ?_⟩
        have s02 := s1.trans s2
        have et : turnI ws 1 = rot ws (1 % ws.length) := by
          unfold turnI
          congr 1
        rw [et] at h2
        have hrl : (rot ws (1 % ws.length)).length = ws.length := rot_len ws (Nat.le_of_lt (Nat.mod_lt _ hp))
        have hcr : ∀ y ∈ ws, crossB M y = true := fun y hy => List.all_eq_true.mp hc _ (List.mem_map.mpr ⟨y, hy, rfl⟩)
        have ep : plainB M ws = (pairB M ws (rot ws (1 % ws.length))).all id := by unfold plainB; rw [e', hc]; rfl
        have k' := fun H' s' => k H' s'
        rw [ep] at k'
        generalize rot ws (1 % ws.length) = vs at h2 hrl k'
        refine ⟨a, tl, _, _, rfl, SqL.of (s02 _ _ ha), SqL.of h2, fun D2 hD2 => ?_⟩
        refine loop_zip (xs := ws.map V.int) (ys := vs.map V.int) (by rw [List.length_map, List.length_map, hrl]) (fun i σ H3 => ∃ v v', σ = [v, v', some (.ref p)] ∧ Same H2 H3 ∧ H3 D2 = some (.lst (((pairB M ws vs).take i).map V.bl))) ⟨none, none, rfl, Same.new hD2, upd_same⟩ ?_ ?_ ?_
        · rintro i σ H3 _ ⟨v, v', rfl, s3, h3⟩
          exact ⟨SqL.of (s3 _ _ (s02 _ _ ha)), SqL.of (s3 _ _ h2)⟩
        · rintro i x y σ H3 q hx hy hq ⟨v, v', rfl, s3, h3⟩
          obtain ⟨x', hx', rfl⟩ := map_some hx
          obtain ⟨y', hy', rfl⟩ := map_some hy
          have s4 : Same H3 (upd H3 q (.tup [V.int x', V.int y'])) := Same.new hq
          refine ⟨q, _, rfl, SqT.of upd_same, rfl, _, _, rfl, _, _, rfl, rfl, ?_⟩
          dsimp only [tYes]
          rw [if_pos rfl]
          refine ⟨_, rfl, _, rfl, _, rfl, p, M, ns, x', y', rfl, ((ta.same s02).same s3).same s4, hMl, hcr x' (List.mem_of_getElem? hx'), _, s4 _ _ h3, ?_, _, _, rfl, Same.add (s3.trans s4) hD2, ?_⟩
          · rw [List.length_map, List.length_take]
            have : (pairB M ws vs).length ≤ ws.length := by unfold pairB; rw [List.length_map, List.length_zip]; omega
            rw [sizeLine_eq]; omega
          · have : (pairB M ws vs)[i]? = some (followB M x' y') := by
              unfold pairB
              rw [List.getElem?_map, List.getElem?_zip_eq_some (z := (x', y')) |>.mpr ⟨hx', hy'⟩]
              rfl
            rw [upd_same, List.take_add_one, this, List.map_append]
            rfl
        rintro σ H3 ⟨v, v', rfl, s3, h3⟩
        have hpl : (pairB M ws vs).length = ws.length := by unfold pairB; rw [List.length_map, List.length_zip]; omega
        rw [List.length_map, List.take_of_length_le (Nat.le_of_eq hpl)] at h3
        exact ⟨D2, _, rfl, SqL.of h3, k' _ (s02.trans s3)⟩
      · have hc : (ws.map (crossB M)).all id = false := by rw [Bool.eq_false_iff]; exact hc
        rw [hc]
        have ep : plainB M ws = false := by unfold plainB; rw [hc]; simp
        have := k _ s1
        rw [ep] at this
        exact iteT this
theorem sc_look_thread : FnScope ["tent", "word"] ["tent", "word"] (defScope s_look_thread) := ⟨rfl, rfl, rfl, by decide +kernel, rfl, by decide +kernel, by decide +kernel⟩
theorem ok_look_thread (T : Txt w K mg t) : FnOk P w K mg base (CXr P w) 6 t.f_look_thread t.d_look_thread ["tent", "word"] (sp_look_thread t.C_Tent t.E_NoThread) := by
 refine T.p_look_thread.F.okX sc_look_thread (fun vs H Q E h => ?_) (fun cdv A outer s H vs Q E hr h => ?_)
 ·obtain ⟨p, a, M, ns, ws, rfl, _⟩ := h
  rfl
 ·obtain ⟨p, a, M, ns, ws, rfl, ta, hMl, ha, hl, k⟩ := h
  refine ⟨_, (pssx_one (psx_if (pt_not (pt_val (pe_call (ok_plain T) (hr.mono (by decide)) rfl T.p_plain.g T.p_plain.F.kp T.p_plain.b .nil passR (pa_cons (pv 0) (pa_cons (pv 1) pa_nil))))) (pssx_one (psx_raise T.x_NoThread FBV rfl T.gx_NoThread rfl (pa_cons pe_str pa_nil))) pssx_nil)), ?_⟩
  refine ⟨_, rfl, _, rfl, p, a, M, ns, ws, rfl, ta, hMl, ha, hl, fun H' s' => ⟨_, rfl, ?_⟩⟩
  obtain ⟨k1, k2⟩ := k H' s'
  cases e : plainB M ws with
  | true => exact iteF (k1 e)
  | false => exact iteT ⟨by decide, k2 e⟩
end
end KT
set_option maxHeartbeats 4000000
namespace KT
open PySem L2
noncomputable def tp (v : Nat × Nat) : HO := .tup [V.int v.1, V.int v.2]
noncomputable def wD (ks : List Int) (ad : Int → Addr) : List (Key × V) := ks.map fun x => ((Sum.inl x : Key), V.ref (ad x))
noncomputable def WAt (H : Hp) (d : Addr) (ks : List Int) (g : Int → Nat × Nat) : Prop := ∃ ad : Int → Addr, H d = some (.dK (wD ks ad)) ∧ ∀ x ∈ ks, H (ad x) = some (tp (g x))
theorem WAt.same {H H' : Hp} {d : Addr} {ks : List Int} {g : Int → Nat × Nat} (h : WAt H d ks g) (s : Same H H') : WAt H' d ks g := by
 obtain ⟨ad, h1, h2⟩ := h
 exact ⟨ad, s _ _ h1, fun x hx => s _ _ (h2 x hx)⟩
theorem WAt.congr {H : Hp} {d : Addr} {ks : List Int} {g g' : Int → Nat × Nat} (h : WAt H d ks g) (e : ∀ x ∈ ks, g x = g' x) : WAt H d ks g' := by
 obtain ⟨ad, h1, h2⟩ := h
 exact ⟨ad, h1, fun x hx => by rw [← e x hx]; exact h2 x hx⟩
theorem wD_len (ks : List Int) (ad : Int → Addr) : (wD ks ad).length = ks.length := by unfold wD; rw [List.length_map]
theorem WAt.new {H : Hp} {d q : Addr} {ks : List Int} {g : Int → Nat × Nat} {ad : Int → Addr} {y : Int} {v : Nat × Nat} (h1 : H d = some (.dK (wD ks ad))) (h2 : ∀ x ∈ ks, H (ad x) = some (tp (g x))) (hq : H q = some (tp v)) (hy : y ∉ ks) :
  WAt (upd H d (.dK (putK (wD ks ad) (Sum.inl y) (V.ref q)))) d (ks ++ [y]) (putG g y v) := by
 have nd : ∀ r u, H r = some (tp u) → r ≠ d := fun r u h z => by rw [z, h1] at h; cases h
 refine ⟨fun x => if x = y then q else ad x, ?_, fun x hx => ?_⟩
 ·rw [upd_same]
  unfold wD
  rw [put_new hy, List.map_append]
  congr 3
  ·apply List.map_congr_left
   intro x hx
   have : x ≠ y := fun z => hy (z ▸ hx)
   simp [this]
  ·simp
 ·unfold putG
  show upd H d _ (if x = y then q else ad x) = some (tp (if x = y then v else g x))
  by_cases c : x = y
  ·rw [if_pos c, if_pos c, upd_ne (nd _ _ hq)]; exact hq
  ·rw [if_neg c, if_neg c]
   have hx' : x ∈ ks := by
    rcases List.mem_append.mp hx with z | z
    ·exact z
    ·exact absurd (List.mem_singleton.mp z) c
   rw [upd_ne (nd _ _ (h2 x hx'))]; exact h2 x hx'
noncomputable def sp_sewn_seams (C : Addr) : Sp := fun vs H Q _ => ∃ (p : Addr) (M : List (Option Nat)) (ns : List Int), vs = [.ref p] ∧ TentAt C H p M ns ∧ TD M ns ∧ ns.length < 64 ∧ ∀ (l : Addr) (H' : Hp) (out : List Int), Same H H' → H l = none → H' l = some (.lst (out.map V.int)) → out.Pairwise (· ≤ ·) → SwK M ns out → Q (.ref l) H'
noncomputable def sp_even_worths (C : Addr) : Sp := fun vs H Q _ => ∃ (p : Addr) (M : List (Option Nat)) (ns : List Int), vs = [.ref p] ∧ TentAt C H p M ns ∧ TD M ns ∧ ns.length < 64 ∧ ∀ (d : Addr) (H' : Hp) (ks : List Int), Same H H' → H d = none → WAt H' d ks (fun _ => (1, 1)) → SwK M ns ks → Q (.ref d) H'
theorem sewn_iff {M : List (Option Nat)} {ns : List Int} (td : TD M ns) {x : Int} (hx : x ∈ keys ns ns.length) : SwN M ns x ↔ sortOf ns x ≠ "rim" := by
 constructor
 ·rintro ⟨p, j, h1, h2⟩ e
  rcases sort_cases td hx with ⟨_, a, e1, ma⟩ | ⟨e', _⟩ | ⟨e', _⟩
  ·have hp : p ∈ pl ns ns.length x := pl_mem.mpr ⟨(List.getElem?_eq_some_iff.mp h2).1, h2⟩
   rw [e1, List.mem_singleton] at hp
   rw [hp, ma] at h1
   cases h1
  ·exact t_lr (e'.symm.trans e)
  ·exact t_fr (e'.symm.trans e)
 ·intro e
  rcases sort_cases td hx with ⟨e', _⟩ | ⟨_, a, b, _, e1, ma, _⟩ | ⟨_, a, b, _, e1, ma, _⟩
  ·exact absurd e' e
  ·have hp : a ∈ pl ns ns.length x := by rw [e1]; exact List.mem_cons_self
   exact ⟨a, b, ma, (pl_mem.mp hp).2⟩
  ·have hp : a ∈ pl ns ns.length x := by rw [e1]; exact List.mem_cons_self
   exact ⟨a, b, ma, (pl_mem.mp hp).2⟩
theorem SwK.len {M : List (Option Nat)} {ns ks : List Int} (sw : SwK M ns ks) (td : TD M ns) : ks.length ≤ ns.length := by
 have e : ks.Perm ((keys ns ns.length).filter fun x => decide (x ∈ ks)) := (List.perm_ext_iff_of_nodup sw.nd ((keys_nodup ns ns.length).filter _)).mpr fun x => by
  rw [List.mem_filter, decide_eq_true_eq]
  exact ⟨fun h => ⟨((sw.mem x).mp h).key td, h⟩, fun h => h.2⟩
 have h1 := e.length_eq
 have h2 := List.length_filter_le (fun x => decide (x ∈ ks)) (keys ns ns.length)
 have h3 := keys_len ns ns.length
 omega
noncomputable def swB (ns : List Int) (x : Int) : Bool := !decide (V.str (sortOf ns x) = V.str "rim")
theorem swB_iff {ns : List Int} {x : Int} : swB ns x = true ↔ sortOf ns x ≠ "rim" := by
 unfold swB
 rw [Bool.not_eq_true', decide_eq_false_iff_not]
 exact ⟨fun h e => h (by rw [e]), fun h e => h (by injection e)⟩
theorem take_filter {α : Type} {f : α → Bool} {l : List α} {i : Nat} {x : α} (h : l[i]? = some x) : (l.take (i + 1)).filter f = if f x = true then (l.take i).filter f ++ [x] else (l.take i).filter f := by
 rw [List.take_add_one, h, List.filter_append]
 by_cases c : f x = true
 ·simp [c]
 ·simp [c]
section
variable {P : Program} {w : World} {K : PySem.W.Frag} {mg : Str → Option Value} {base : Heap} {t : Adr}
theorem sc_sewn_seams : FnScope ["tent"] ["tent"] (defScope s_sewn_seams) := ⟨rfl, rfl, rfl, by decide +kernel, rfl, by decide +kernel, by decide +kernel⟩
theorem ok_sewn_seams (T : Txt w K mg t) : FnOk P w K mg base (CXr P w) 3 t.f_sewn_seams t.d_sewn_seams ["tent"] (sp_sewn_seams t.C_Tent) := by
 refine T.p_sewn_seams.F.okR sc_sewn_seams (fun vs H Q E h => ?_) (fun cdv A outer s H vs Q E hr h => ?_)
 ·obtain ⟨p, M, ns, rfl, _⟩ := h
  rfl
 ·obtain ⟨p, M, ns, rfl, ta, td, h64, k⟩ := h
  refine ⟨_, (pss_one (ps_ret (pe_compG (ts := ["seam"]) (fv := [("tent", 0)]) ⟨rfl, by decide +kernel, by decide +kernel, blkFree (by rfl), ⟨⟨rfl, rfl, Or.inl rfl⟩, trivial⟩⟩ rfl (pi_list (pe_meth0 (pv 0) T.cl_Tent T.p_Tent_seams.m (ok_Tent_seams T) (hr.mono (by decide)) T.p_Tent_seams.b .nil passR)) (fun _ _ _ _ => (pg_name (i := 0) (show List.Nodup (["seam", "tent"] : List Str) from by decide +kernel) rfl (Or.inl rfl) (Or.inr rfl))) (fun _ _ _ _ => (pts_one (pt_cmpR op_ne (pe_meth (pv 1) T.cl_Tent T.p_Tent_sort_of.m (ok_Tent_sort_of T) (hr.mono (by decide)) T.p_Tent_sort_of.b .nil passR (pa_cons (pv 0) pa_nil)) pe_str (nomark _)))) (fun _ _ _ => rfl) (fun _ _ _ _ _ _ => pb_emit (pv 0))))), ?_⟩
  obtain ⟨dx, cl, na, sp, mt, o, ff, b⟩ := id ta
  refine ⟨_, rfl, p, dx, _, rfl, b.ins, fl_none _ _ _ _, p, M, ns, rfl, ta, h64, fun l ks hl1 hpm hst => ?_⟩
  have s1 : Same H (upd H l (.lst (ks.map V.int))) := Same.new hl1
  have h1 : (upd H l (.lst (ks.map V.int))) l = some (.lst (ks.map V.int)) := upd_same
  generalize upd H l (.lst (ks.map V.int)) = H1 at s1 h1 ⊢
  have hkl : ks.length ≤ 64 := by rw [hpm.length_eq]; have := keys_len ns ns.length; omega
  refine ⟨l, rfl, ⟨_, SqL.of h1⟩, fun D hD => ?_⟩
  refine loop_list (xs := ks.map V.int) (fun i σ H3 => ∃ v, σ = [v, some (.ref p)] ∧ Same H1 H3 ∧ H3 D = some (.lst (((ks.take i).filter (swB ns)).map V.int))) ⟨none, rfl, Same.new hD, upd_same⟩ ?_ ?_ ?_
  ·rintro i σ H3 _ ⟨v, rfl, s3, h3⟩
   exact SqL.of (s3 _ _ h1)
  ·rintro i x σ H3 hx ⟨v, rfl, s3, h3⟩
   obtain ⟨y, hy, rfl⟩ := map_some hx
   have hyk : y ∈ keys ns ns.length := hpm.mem_iff.mp (List.mem_of_getElem? hy)
   have ta3 := (ta.same s1).same s3
   obtain ⟨dx, cl, na, sp, mt, o, ff, b⟩ := id ta3
   dsimp only [gName]
   refine ⟨_, rfl, p, dx, _, rfl, b.ins, fl_none _ _ _ _, _, rfl, p, M, ns, y, rfl, ta3, td, fun _ H4 s4 => ?_, fun z => absurd hyk z⟩
   refine ⟨rfl, _, rfl, ?_⟩
   show if swB ns y = true then _ else _
   have lt : (((ks.take i).filter (swB ns)).map V.int).length < sizeLine := by
    rw [List.length_map]
    have := List.length_filter_le (swB ns) (ks.take i)
    rw [List.length_take] at this
    exact small1000 (by omega)
   by_cases c : swB ns y = true
   ·rw [if_pos c]
    refine ⟨_, rfl, _, s4 _ _ h3, lt, _, rfl, Same.add (s3.trans s4) hD, ?_⟩
    rw [upd_same, take_filter hy, if_pos c, List.map_append]
    rfl
   ·rw [if_neg c]
    refine ⟨_, rfl, s3.trans s4, ?_⟩
    rw [s4 _ _ h3, take_filter hy, if_neg c]
  ·rintro σ H3 ⟨v, rfl, s3, h3⟩
   rw [List.length_map, List.take_length] at h3
   refine k D H3 _ (s1.trans s3) (s1.free hD) h3 (hst.filter _) ⟨(hpm.nodup_iff.mpr (keys_nodup ns ns.length)).filter _, fun x => ?_⟩
   rw [List.mem_filter, hpm.mem_iff, swB_iff]
   refine ⟨fun zz38 => ?_, fun h => ⟨h.key td, (sewn_iff td (h.key td)).mp h⟩⟩
   obtain ⟨h1, h2⟩ := zz38
   exact (sewn_iff td h1).mpr h2
theorem sc_even_worths : FnScope ["tent"] ["tent"] (defScope s_even_worths) := ⟨rfl, rfl, rfl, by decide +kernel, rfl, by decide +kernel, by decide +kernel⟩
theorem ok_even_worths (T : Txt w K mg t) : FnOk P w K mg base (CXr P w) 4 t.f_even_worths t.d_even_worths ["tent"] (sp_even_worths t.C_Tent) := by
 refine T.p_even_worths.F.okR sc_even_worths (fun vs H Q E h => ?_) (fun cdv A outer s H vs Q E hr h => ?_)
 ·obtain ⟨p, M, ns, rfl, _⟩ := h
  rfl
 ·obtain ⟨p, M, ns, rfl, ta, td, h64, k⟩ := h
  have hu := hu_of hr
  refine ⟨_, (pss_one (ps_ret (pe_dcompG (ts := ["seam"]) (fv := []) ⟨rfl, by decide +kernel, by decide +kernel, blkFree (by rfl), trivial⟩ rfl (pi_list (pe_call (ok_sewn_seams T) (hr.mono (by decide)) rfl T.p_sewn_seams.g T.p_sewn_seams.F.kp T.p_sewn_seams.b .nil passR (pa_cons (pv 0) pa_nil))) (fun _ _ _ _ => (pg_name (i := 0) (show List.Nodup (["seam"] : List Str) from by decide +kernel) rfl (Or.inl rfl) (Or.inr rfl))) (fun _ _ _ _ => pts_nil) (fun _ _ _ => rfl) (fun _ _ _ _ _ _ => pb_demit (pv 0) (pe_tup (pa_cons pe_int (pa_cons pe_int pa_nil))))))), ?_⟩
  refine ⟨_, rfl, p, M, ns, rfl, ta, td, h64, fun l H1 ks s1 hl1 h1 _ sw => ?_⟩
  have hkl : ks.length ≤ 64 := by
   have := sw.len td
   omega
  refine ⟨l, rfl, ⟨_, SqL.of h1⟩, fun D hD => ?_⟩
  refine loop_list (xs := ks.map V.int) (fun i σ H3 => ∃ v, σ = [v] ∧ Same H1 H3 ∧ WAt H3 D (ks.take i) fun _ => (1, 1)) ⟨none, rfl, Same.new hD, fun _ => 0, upd_same, fun x hx => by simp at hx⟩ ?_ ?_ ?_
  ·rintro i σ H3 _ ⟨v, rfl, s3, h3⟩
   exact SqL.of (s3 _ _ h1)
  ·rintro i x σ H3 hx ⟨v, rfl, s3, ad, h3, h4⟩
   obtain ⟨y, hy, rfl⟩ := map_some hx
   dsimp only [gName, tYes]
   rw [if_pos rfl]
   refine ⟨_, rfl, (by show 2 ≤ sizeLine; rw [sizeLine_eq]; decide), fun q hq => ?_⟩
   have sq : Same H3 (upd H3 q (.tup [V.int 1, V.int 1])) := Same.new hq
   have hq' : (upd H3 q (.tup [V.int 1, V.int 1])) q = some (tp (1, 1)) := upd_same
   have hny : y ∉ ks.take i := fun z => by
    have hi : i < ks.length := (List.getElem?_eq_some_iff.mp hy).1
    have nd := sw.nd
    rw [← List.take_append_drop i ks, List.nodup_append] at nd
    refine nd.2.2 y z y ?_ rfl
    rw [List.drop_eq_getElem_cons hi, (List.getElem?_eq_some_iff.mp hy).2]
    exact List.mem_cons_self
   refine ⟨_, Sum.inl y, rfl, sq _ _ h3, (by rw [wD_len, List.length_take]; exact small1000 (by omega)), _, rfl, Same.add (s3.trans sq) hD, ?_⟩
   rw [List.take_add_one, hy]
   have := WAt.new (g := fun _ => (1, 1)) (v := (1, 1)) (sq _ _ h3) (fun x hx => sq _ _ (h4 x hx)) hq' hny
   exact this.congr fun x _ => by unfold putG; split <;> rfl
  ·rintro σ H3 ⟨v, rfl, s3, h3⟩
   rw [List.length_map, List.take_length] at h3
   exact k D H3 ks (s1.trans s3) (s1.free hD) h3 sw
end
end KT
set_option maxHeartbeats 4000000
namespace KT
open PySem L2
theorem seq_postX {t u : TSX} {D : Ends} {R : Value → St → Hp → Prop} {σ : St} {H : Hp} (Post : St → Hp → Prop) (ht : ∀ nx : St → Hp → Prop, (∀ σ H, Post σ H → nx σ H) → t { D with nx := nx } R σ H) (hu : ∀ σ H, Post σ H → u D R σ H) : tSeqX t u D R σ H := ht (u D R) hu
end KT
set_option maxHeartbeats 4000000
namespace KT
open PySem L2
theorem upd_again {H : Hp} {p : Addr} {a b : HO} : upd (upd H p a) p b = upd H p b := by
 funext c
 by_cases z : c = p
 ·subst z; rw [upd_same, upd_same]
 ·rw [upd_ne z, upd_ne z, upd_ne z]
noncomputable def sflds (te th po wo : V) : List (Str × V) := putF "worths" wo (putF "pools" po (putF "threads" th (putF "tent" te [])))
noncomputable def hflds (be sc st un : Addr) : List (Str × V) := putF "undone" (.ref un) (putF "standing" (.ref st) (putF "scene" (.ref sc) (putF "began" (.ref be) [])))
structure HallNew (CT CS CH : Addr) (H : Hp) (p : Addr) (M : List (Option Nat)) (ns : List Int) (dx be sc st un dxs th po wo : Addr) (ks : List Int) : Prop where
 ins : H p = some (.ins CH dx (hflds be sc st un))
 tent : TentAt CT H be M ns
 scn : H sc = some (.ins CS dxs (sflds (.ref be) (.ref th) (.ref po) (.ref wo)))
 thr : H th = some (.dK [])
 poo : H po = some (.dK [])
 wor : WAt H wo ks fun _ => (1, 1)
 sw : SwK M ns ks
 sta : H st = some (.lst [])
 und : H un = some (.lst [])
noncomputable def OthP (p : Addr) (H H' : Hp) : Prop := ∀ b u, b ≠ p → H b = some u → H' b = some u
theorem OthP.trans {p : Addr} {H H1 H' : Hp} (s : OthP p H H1) (s1 : OthP p H1 H') : OthP p H H' := fun b u hb e => s1 b u hb (s b u hb e)
theorem OthP.of {p : Addr} {H H' : Hp} (s : Same H H') : OthP p H H' := fun b u _ e => s b u e
theorem OthP.upd {p : Addr} {H : Hp} {o : HO} : OthP p H (upd H p o) := fun b u hb e => by rw [upd_ne hb]; exact e
theorem oth_at {H H' : Hp} {p C dx : Addr} {fs : List (Str × V)} (hp : H p = some (.ins C dx fs)) (s : OthP p H H') {b : Addr} {u : HO} (e : H b = some u) (hu : ∀ C dx fs, u ≠ .ins C dx fs) : H' b = some u :=
 s b u (fun z => by rw [z, hp] at e; exact hu _ _ _ (Option.some.inj e).symm) e
theorem RowsAt.oth {H H' : Hp} {p C dx r : Addr} {fs : List (Str × V)} {ns : List Int} (h : RowsAt H r ns) (hp : H p = some (.ins C dx fs)) (s : OthP p H H') : RowsAt H' r ns := by
 obtain ⟨ts, h1, h2, h3⟩ := h
 exact ⟨ts, oth_at hp s h1 (fun _ _ _ z => nomatch z), h2, fun k q e => oth_at hp s (h3 k q e) (fun _ _ _ z => nomatch z)⟩
theorem TentAt.oth {C0 : Addr} {H H' : Hp} {p C dx x : Addr} {fs : List (Str × V)} {M : List (Option Nat)} {ns : List Int} (h : TentAt C0 H x M ns) (hp : H p = some (.ins C dx fs)) (hx : x ≠ p) (s : OthP p H H') : TentAt C0 H' x M ns := by
 obtain ⟨dt, cl, na, sp, mt, o, f, b⟩ := h
 exact ⟨dt, cl, na, sp, mt, o, f, s _ _ hx b.ins, b.rows.oth hp s, oth_at hp s b.names (fun _ _ _ z => nomatch z), oth_at hp s b.spots (fun _ _ _ z => nomatch z), oth_at hp s b.mates (fun _ _ _ z => nomatch z), fun y hy => oth_at hp s (b.at' y hy) (fun _ _ _ z => nomatch z)⟩
theorem WAt.oth {H H' : Hp} {p C dx d : Addr} {fs : List (Str × V)} {ks : List Int} {g : Int → Nat × Nat} (h : WAt H d ks g) (hp : H p = some (.ins C dx fs)) (s : OthP p H H') : WAt H' d ks g := by
 obtain ⟨ad, h1, h2⟩ := h
 exact ⟨ad, oth_at hp s h1 (fun _ _ _ z => nomatch z), fun x hx => oth_at hp s (h2 x hx) (fun _ _ _ z => nomatch z)⟩
noncomputable def sp_Scene_init (C : Addr) : Sp := fun vs H Q _ => ∃ (p dx : Addr) (te th po wo : V), vs = [.ref p, te, th, po, wo] ∧ H p = some (.ins C dx []) ∧ Q .non (upd H p (.ins C dx (sflds te th po wo)))
noncomputable def sp_Hall_init (CT CS CH : Addr) : Sp := fun vs H Q _ => ∃ (p r dx : Addr) (M : List (Option Nat)) (ns : List Int), vs = [.ref p, .ref r] ∧ H p = some (.ins CH dx []) ∧ RowsAt H r ns ∧ TD M ns ∧ ns.length < 64 ∧
 ∀ (H' : Hp), OthP p H H' → (∃ be sc st un dxs th po wo ks, HallNew CT CS CH H' p M ns dx be sc st un dxs th po wo ks ∧ H st = none) → Q .non H'
section
variable {P : Program} {w : World} {K : PySem.W.Frag} {mg : Str → Option Value} {base : Heap} {t : Adr}
theorem sc_Scene_init : FnScope ["self", "tent", "threads", "pools", "worths"] ["self", "tent", "threads", "pools", "worths"] (defScope s_Scene_init) := ⟨rfl, rfl, rfl, by decide +kernel, rfl, by decide +kernel, by decide +kernel⟩
theorem ok_Scene_init (T : Txt w K mg t) : FnOk P w K mg base (CXr P w) 1 t.f_Scene_init t.d_Scene_init ["self", "tent", "threads", "pools", "worths"] (sp_Scene_init t.C_Scene) := by
 refine T.p_Scene_init.F.okR sc_Scene_init (fun vs H Q E h => ?_) (fun cdv A outer s H vs Q E hr h => ?_)
 ·obtain ⟨p, dx, te, th, po, wo, rfl, _⟩ := h
  rfl
 ·obtain ⟨p, dx, te, th, po, wo, rfl, hp, k⟩ := h
  refine ⟨_, (pss_cons (ps_fld (pv 0) (pv 1) rfl)
   (pss_cons (ps_fld (pv 0) (pv 2) rfl)
   (pss_cons (ps_fld (pv 0) (pv 3) rfl)
   (pss_one (ps_fld (pv 0) (pv 4) rfl))))), ?_⟩
  have l1 := len_putF "tent" te []
  have l2 := len_putF "threads" th (putF "tent" te [])
  have l3 := len_putF "pools" po (putF "threads" th (putF "tent" te []))
  rw [List.length_nil] at l1
  refine ⟨_, rfl, _, rfl, p, _, dx, _, rfl, hp, T.cl_Scene, T.a_Scene_tent, by decide, ?_⟩
  refine ⟨_, rfl, _, rfl, p, _, dx, _, rfl, upd_same, T.cl_Scene, T.a_Scene_threads, by omega, ?_⟩
  refine ⟨_, rfl, _, rfl, p, _, dx, _, rfl, upd_same, T.cl_Scene, T.a_Scene_pools, by omega, ?_⟩
  refine ⟨_, rfl, _, rfl, p, _, dx, _, rfl, upd_same, T.cl_Scene, T.a_Scene_worths, by omega, ?_⟩
  rw [upd_again, upd_again, upd_again]
  exact k
theorem sc_Hall_init : FnScope ["self", "rows"] ["self", "rows"] (defScope s_Hall_init) := ⟨rfl, rfl, rfl, by decide +kernel, rfl, by decide +kernel, by decide +kernel⟩
theorem ok_Hall_init (T : Txt w K mg t) : FnOk P w K mg base (CXr P w) 5 t.f_Hall_init t.d_Hall_init ["self", "rows"] (sp_Hall_init t.C_Tent t.C_Scene t.C_Hall) := by
 refine T.p_Hall_init.F.okR sc_Hall_init (fun vs H Q E h => ?_) (fun cdv A outer s H vs Q E hr h => ?_)
 ·obtain ⟨p, r, dx, M, ns, rfl, _⟩ := h
  rfl
 ·obtain ⟨p, r, dx, M, ns, rfl, hp, hr1, td, h64, k⟩ := h
  refine ⟨_, (pss_cons (ps_fld (pv 0) (pe_make T.mk_Tent (ok_Tent_init T) (hr.mono (by decide)) rfl T.gC_Tent T.p_Tent_init.b .nil passR (pa_cons (pv 1) pa_nil)) rfl)
   (pss_cons (ps_fld (pv 0) (pe_make T.mk_Scene (ok_Scene_init T) (hr.mono (by decide)) rfl T.gC_Scene T.p_Scene_init.b .nil passR (pa_cons (pe_fld (pv 0) rfl) (pa_cons pe_dnewK (pa_cons pe_dnewK (pa_cons (pe_call (ok_even_worths T) (hr.mono (by decide)) rfl T.p_even_worths.g T.p_even_worths.F.kp T.p_even_worths.b .nil passR (pa_cons (pe_fld (pv 0) rfl) pa_nil)) pa_nil))))) rfl)
   (pss_cons (ps_fld (pv 0) (pe_lst pa_nil) rfl)
   (pss_one (ps_fld (pv 0) (pe_lst pa_nil) rfl))))), ?_⟩
  refine ⟨_, rfl, ?_⟩
  intro x dt hx hdt hne
  have s0 : Same H (upd (upd H dt (.own x)) x (.ins t.C_Tent dt [])) := Same.add (Same.new hdt) hx
  refine ⟨x, r, dt, M, ns, rfl, upd_same, hr1.same s0, td, by omega, fun H1 old ta => ⟨rfl, ?_⟩⟩
  have s1 : Same H H1 := fun b u e => old b u (ne_of_none e hx) (s0 b u e)
  refine ⟨_, rfl, p, _, dx, _, rfl, s1 _ _ hp, T.cl_Hall, T.a_Hall_began, by decide, ?_⟩
  have l1 := len_putF "began" (.ref x) []
  rw [List.length_nil] at l1
  have hp1 := s1 _ _ hp
  have nx : x ≠ p := fun z => by rw [z, hp] at hx; cases hx
  have o2 : OthP p H1 (upd H1 p (.ins t.C_Hall dx (putF "began" (.ref x) []))) := .upd
  have hp2 : (upd H1 p (.ins t.C_Hall dx (putF "began" (.ref x) []))) p = some (.ins t.C_Hall dx (putF "began" (.ref x) [])) := upd_same
  have ta2 := ta.oth hp1 nx o2
  have o02 : OthP p H _ := (OthP.of s1).trans o2
  generalize upd H1 p (.ins t.C_Hall dx (putF "began" (.ref x) [])) = H2 at o2 hp2 ta2 o02 ⊢
  clear o2 ta old s1 s0 hp1 hdt hne hr1
  have lk1 : (putF "began" (.ref x) []).lookup ("began" : Str) = some (.ref x) := by rw [lookup_putF, if_pos rfl]
  refine ⟨_, rfl, p, _, dx, _, _, rfl, hp2, T.cl_Hall, T.a_Hall_began, lk1, ?_⟩
  intro th hth po hpo
  obtain ⟨hpt, hpo'⟩ := upd_none hpo
  have s3 : Same H2 (upd (upd H2 th (.dK [])) po (.dK [])) := Same.add (Same.new hth) hpo'
  have ht3 : (upd (upd H2 th (.dK [])) po (.dK [])) th = some (.dK []) := by rw [upd_ne (Ne.symm hpt), upd_same]
  have hq3 : (upd (upd H2 th (.dK [])) po (.dK [])) po = some (.dK []) := upd_same
  generalize upd (upd H2 th (.dK [])) po (.dK []) = H3 at s3 ht3 hq3 ⊢
  refine ⟨_, rfl, p, _, dx, _, _, rfl, s3 _ _ hp2, T.cl_Hall, T.a_Hall_began, lk1, x, M, ns, rfl, ta2.same s3, td, h64, fun wo H4 ks s4 hwo w4 sw => ?_⟩
  intro sc dxs hsc hdxs hne2
  have s5 : Same H4 (upd (upd H4 dxs (.own sc)) sc (.ins t.C_Scene dxs [])) := Same.add (Same.new hdxs) hsc
  refine ⟨sc, dxs, _, _, _, _, rfl, upd_same, rfl, ?_⟩
  rw [upd_again]
  have s6 : Same H4 (upd (upd H4 dxs (.own sc)) sc (.ins t.C_Scene dxs (sflds (.ref x) (.ref th) (.ref po) (.ref wo)))) := Same.add (Same.new hdxs) hsc
  have hc6 : (upd (upd H4 dxs (.own sc)) sc (.ins t.C_Scene dxs (sflds (.ref x) (.ref th) (.ref po) (.ref wo)))) sc = some (.ins t.C_Scene dxs (sflds (.ref x) (.ref th) (.ref po) (.ref wo))) := upd_same
  generalize upd (upd H4 dxs (.own sc)) sc (.ins t.C_Scene dxs (sflds (.ref x) (.ref th) (.ref po) (.ref wo))) = H6 at s6 hc6 ⊢
  clear s5
  have s46 := s4.trans s6
  have s26 := s3.trans s46
  have hp6 := s26 _ _ hp2
  have nsc : sc ≠ p := fun z => by rw [z, (s3.trans s4) _ _ hp2] at hsc; cases hsc
  refine ⟨_, rfl, p, _, dx, _, rfl, hp6, T.cl_Hall, T.a_Hall_scene, by omega, ?_⟩
  have l2 := len_putF "scene" (.ref sc) (putF "began" (.ref x) [])
  have o7 : OthP p H6 (upd H6 p (.ins t.C_Hall dx (putF "scene" (.ref sc) (putF "began" (.ref x) [])))) := .upd
  have hp7 : (upd H6 p (.ins t.C_Hall dx (putF "scene" (.ref sc) (putF "began" (.ref x) [])))) p = some (.ins t.C_Hall dx (putF "scene" (.ref sc) (putF "began" (.ref x) []))) := upd_same
  have ta7 := (ta2.same s26).oth hp6 nx o7
  have ht7 := oth_at hp6 o7 (s46 _ _ ht3) (fun _ _ _ z => nomatch z)
  have hq7 := oth_at hp6 o7 (s46 _ _ hq3) (fun _ _ _ z => nomatch z)
  have w7 := (w4.same s6).oth hp6 o7
  have hc7 := o7 _ _ nsc hc6
  have o07 : OthP p H _ := (o02.trans (.of s26)).trans o7
  generalize upd H6 p (.ins t.C_Hall dx (putF "scene" (.ref sc) (putF "began" (.ref x) []))) = H7 at o7 hp7 ta7 ht7 hq7 w7 hc7 o07 ⊢
  clear o7 hp6 s26 s46 s6 hc6 s4 w4 s3 ht3 hq3 ta2 hp2 o02 hth hpo hpo' hwo hsc hdxs
  refine ⟨Nat.zero_le _, fun st hst => ?_⟩
  have hst0 : H st = none := by
   cases e : H st with
   | none => rfl
   | some u =>
    rw [o07 _ _ (fun z => by rw [z, hp7] at hst; cases hst) e] at hst
    cases hst
  have s8 : Same H7 (upd H7 st (.lst [])) := Same.new hst
  have hs8 : (upd H7 st (.lst [])) st = some (.lst []) := upd_same
  generalize upd H7 st (.lst []) = H8 at s8 hs8 ⊢
  have hp8 := s8 _ _ hp7
  refine ⟨_, rfl, p, _, dx, _, rfl, hp8, T.cl_Hall, T.a_Hall_standing, by omega, ?_⟩
  have l3 := len_putF "standing" (.ref st) (putF "scene" (.ref sc) (putF "began" (.ref x) []))
  have o9 : OthP p H8 (upd H8 p (.ins t.C_Hall dx (putF "standing" (.ref st) (putF "scene" (.ref sc) (putF "began" (.ref x) []))))) := .upd
  have hp9 : (upd H8 p (.ins t.C_Hall dx (putF "standing" (.ref st) (putF "scene" (.ref sc) (putF "began" (.ref x) []))))) p = some (.ins t.C_Hall dx (putF "standing" (.ref st) (putF "scene" (.ref sc) (putF "began" (.ref x) [])))) := upd_same
  have ta9 := (ta7.same s8).oth hp8 nx o9
  have ht9 := oth_at hp8 o9 (s8 _ _ ht7) (fun _ _ _ z => nomatch z)
  have hq9 := oth_at hp8 o9 (s8 _ _ hq7) (fun _ _ _ z => nomatch z)
  have hs9 := oth_at hp8 o9 hs8 (fun _ _ _ z => nomatch z)
  have w9 := (w7.same s8).oth hp8 o9
  have hc9 := o9 _ _ nsc (s8 _ _ hc7)
  have o09 : OthP p H _ := (o07.trans (.of s8)).trans o9
  generalize upd H8 p (.ins t.C_Hall dx (putF "standing" (.ref st) (putF "scene" (.ref sc) (putF "began" (.ref x) [])))) = H9 at o9 hp9 ta9 ht9 hq9 hs9 w9 hc9 o09 ⊢
  clear o9 hp8 s8 hs8 hp7 ta7 ht7 hq7 w7 hc7 o07 hst
  refine ⟨Nat.zero_le _, fun un hun => ?_⟩
  have sA : Same H9 (upd H9 un (.lst [])) := Same.new hun
  have hsA : (upd H9 un (.lst [])) un = some (.lst []) := upd_same
  generalize upd H9 un (.lst []) = HA at sA hsA ⊢
  have hpA := sA _ _ hp9
  refine ⟨_, rfl, p, _, dx, _, rfl, hpA, T.cl_Hall, T.a_Hall_undone, by omega, ?_⟩
  have oB : OthP p HA (upd HA p (.ins t.C_Hall dx (hflds x sc st un))) := .upd
  refine k _ ((o09.trans (.of sA)).trans oB) ⟨x, sc, st, un, dxs, th, po, wo, ks, ⟨upd_same, (ta9.same sA).oth hpA nx oB, oB _ _ nsc (sA _ _ hc9), oth_at hpA oB (sA _ _ ht9) (fun _ _ _ z => nomatch z), oth_at hpA oB (sA _ _ hq9) (fun _ _ _ z => nomatch z), (w9.same sA).oth hpA oB, sw, oth_at hpA oB (sA _ _ hs9) (fun _ _ _ z => nomatch z), oth_at hpA oB hsA (fun _ _ _ z => nomatch z)⟩, hst0⟩
end
end KT
set_option maxHeartbeats 4000000
namespace KT
open PySem L2
noncomputable def mdL (x y : Str) : List Bool := x.cps.toList.map fun c => Txt.contains y ⟨#[c]⟩
noncomputable def sp_made_of : Sp := fun vs H Q _ => ∃ x y : Str, vs = [.str x, .str y] ∧ x.cps.all (· < 128) = true ∧ x.cps.size ≤ 900 ∧ ∀ H', Same H H' → Q (.bl ((mdL x y).all id)) H'
theorem loop_str {x : Str} {g : TG} {tt : TT} {tb : TB} {R : St → Hp → Prop} {σ : St} {H : Hp} (Pv : Nat → St → Hp → Prop) (h0 : Pv 0 σ H)
  (hs : ∀ (i : Nat) c σ H, x.cps[i]? = some c → Pv i σ H → g (.str ⟨#[c]⟩) σ H fun σ2 H2 => tt σ2 H2 fun b H3 => if b = true then tb σ2 H3 (Pv (i + 1)) else Pv (i + 1) σ2 H3) (hd : ∀ σ H, Pv x.cps.size σ H → R σ H) : LoopR (Its x) g tt tb R σ H := by
 refine ⟨fun i m σ H => m = x.cps.size - i ∧ i ≤ x.cps.size ∧ Pv i σ H, ⟨x.cps.size, by simp, Nat.zero_le _, h0⟩, ?_⟩
 rintro i m σ H ⟨rfl, hi, p⟩
 by_cases hlt : i < x.cps.size
 ·refine .inr ⟨hlt, Pv (i + 1), fun σ' H' p' => ⟨x.cps.size - (i + 1), by omega, rfl, hlt, p'⟩, fun y H' z => ?_⟩
  obtain ⟨e, c, hc, ec⟩ := z
  subst e ec
  exact hs i c σ _ hc p
 ·have e : i = x.cps.size := by omega
  subst e
  exact .inl ⟨Nat.le_refl _, hd σ H p⟩
section
variable {P : Program} {w : World} {K : PySem.W.Frag} {mg : Str → Option Value} {base : Heap} {t : Adr}
theorem sc_made_of : FnScope ["text", "signs"] ["text", "signs"] (defScope s_made_of) := ⟨rfl, rfl, rfl, by decide +kernel, rfl, by decide +kernel, by decide +kernel⟩
theorem ok_made_of (T : Txt w K mg t) : FnOk P w K mg base (CXr P w) 1 t.f_made_of t.d_made_of ["text", "signs"] sp_made_of := by
 refine T.p_made_of.F.okR sc_made_of (fun vs H Q E h => ?_) (fun cdv A outer s H vs Q E hr h => ?_)
 ·obtain ⟨x, y, rfl, _⟩ := h
  rfl
 ·obtain ⟨x, y, rfl, hx, hz, k⟩ := h
  refine ⟨_, (pss_one (ps_ret (pe_callB (call_all rfl) (by rfl) T.n_all PyProof.Rows.boot_all (pa_cons (pe_compG (ts := ["sign"]) (fv := [("signs", 1)]) ⟨rfl, by decide +kernel, by decide +kernel, blkFree (by rfl), ⟨⟨rfl, rfl, Or.inl rfl⟩, trivial⟩⟩ rfl (pi_str (pv 0)) (fun _ _ _ _ => (pg_name (i := 0) (show List.Nodup (["sign", "signs"] : List Str) from by decide +kernel) rfl (Or.inl rfl) (Or.inr rfl))) (fun _ _ _ _ => pts_nil) (fun _ _ _ => rfl) (fun _ _ _ _ _ _ => pb_emit (pe_cmpR op_inS (pv 0) (pv 1) (by with_unfolding_all rfl)))) pa_nil)))), ?_⟩
  refine ⟨_, rfl, x, rfl, hx, fun D hD => ?_⟩
  refine loop_str (fun i σ H6 => ∃ v, σ = [v, some (.str y)] ∧ Same H H6 ∧ H6 D = some (.lst (((mdL x y).take i).map V.bl))) ⟨none, rfl, Same.new hD, upd_same⟩ ?_ ?_
  ·rintro i c σ H6 hc ⟨v, rfl, s6, h6⟩
   have hil : i < x.cps.size := (Array.getElem?_eq_some_iff.mp hc).1
   have hm : (mdL x y)[i]? = some (Txt.contains y ⟨#[c]⟩) := by
    unfold mdL
    rw [List.getElem?_map, Array.getElem?_toList, hc]
    rfl
   dsimp only [gName, tYes]
   rw [if_pos rfl]
   refine ⟨_, rfl, _, rfl, _, _, rfl, rfl, _, h6, by rw [List.length_map, List.length_take]; exact small1000 (by omega), _, rfl, Same.add s6 hD, ?_⟩
   rw [upd_same, List.take_add_one, hm, List.map_append]
   rfl
  ·rintro σ H6 ⟨v, rfl, s6, h6⟩
   have hl : (mdL x y).length = x.cps.size := by unfold mdL; rw [List.length_map, Array.length_toList]
   rw [← hl, List.take_length] at h6
   exact ⟨D, _, rfl, SqL.of h6, k _ s6⟩
end
end KT
set_option maxHeartbeats 4000000
namespace KT
open PySem L2
noncomputable def isN (x : Str) : Bool := decide (1 ≤ (x.length : Int)) && decide ((x.length : Int) ≤ 8) && (mdL x (Str.ofString "abcdefghijklmnopqrstuvwxyz")).all id
noncomputable def sp_is_name : Sp := fun vs H Q _ => ∃ x : Str, vs = [.str x] ∧ x.cps.all (· < 128) = true ∧ x.cps.size ≤ 900 ∧ ∀ H', Same H H' → Q (.bl (isN x)) H'
section
variable {P : Program} {w : World} {K : PySem.W.Frag} {mg : Str → Option Value} {base : Heap} {t : Adr}
theorem sc_is_name : FnScope ["text"] ["text"] (defScope s_is_name) := ⟨rfl, rfl, rfl, by decide +kernel, rfl, by decide +kernel, by decide +kernel⟩
theorem ok_is_name (T : Txt w K mg t) : FnOk P w K mg base (CXr P w) 2 t.f_is_name t.d_is_name ["text"] sp_is_name := by
 refine T.p_is_name.F.okR sc_is_name (fun vs H Q E h => ?_) (fun cdv A outer s H vs Q E hr h => ?_)
 ·obtain ⟨x, rfl, _⟩ := h
  rfl
 ·obtain ⟨x, rfl, hx, hz, k⟩ := h
  refine ⟨_, (pss_one (ps_ret (pe_and (pe_chain op_le op_le pe_int (pe_callB call_len_str (by rfl) T.n_len PySem.boot_len (pa_cons (pv 0) pa_nil)) (pe_glob (v := .int 8) rfl T.c_LONGEST_NAME ⟨_, rfl⟩)) (pe_one (pe_call (ok_made_of T) (hr.mono (by decide)) rfl T.p_made_of.g T.p_made_of.F.kp T.p_made_of.b .nil passR (pa_cons (pv 0) (pa_cons (pe_glob (v := .str (Str.ofString "abcdefghijklmnopqrstuvwxyz")) rfl T.c_SMALL_LETTERS ⟨_, rfl⟩) pa_nil))))))), ?_⟩
  have hs : x.length = x.cps.size := rfl
  refine ⟨_, rfl, x, rfl, by rw [sizeLine_eq]; omega, _, _, rfl, rfl, _, rfl, ?_⟩
  unfold isN at k
  refine ite2 (fun z => ?_) (fun z => ?_)
  ·refine ⟨_, _, rfl, rfl, _, rfl, ?_⟩
   refine ite2 (fun z2 => ?_) (fun z2 => ?_)
   ·refine ⟨_, rfl, x, _, rfl, hx, hz, fun H' s' => ?_⟩
    have := k H' s'
    rw [z, z2, Bool.true_and, Bool.true_and] at this
    exact this
   ·have := k H (Same.refl _)
    rw [Bool.eq_false_iff.mpr z2, Bool.and_false, Bool.false_and] at this
    exact this
  ·refine ⟨_, rfl, iteF ?_⟩
   have := k H (Same.refl _)
   rw [Bool.eq_false_iff.mpr z, Bool.false_and, Bool.false_and] at this
   exact this
end
end KT
set_option maxHeartbeats 4000000
namespace KT
open PySem L2
noncomputable def dS (l : List (Str × V)) : List (Key × V) := l.map fun kv => ((Sum.inr kv.1 : Key), kv.2)
noncomputable def hasS (l : List (Str × V)) (x : Str) : Bool := l.any fun kv => decide (kv.1 = x)
end KT
set_option maxHeartbeats 4000000
namespace KT
open PySem L2
theorem dS_val {l : List (Str × V)} {x : Str} : (valV (dS l) (Sum.inr x)).isSome = hasS l x := by
 unfold valV hasS dS
 induction l with
 | nil => rfl
 | cons kv l ih =>
  rw [List.map_cons, List.find?_cons, List.any_cons]
  by_cases z : kv.1 = x
  ·rw [decide_eq_true z, decide_eq_true (show (Sum.inr kv.1 : Key) = Sum.inr x by rw [z])]; rfl
  ·rw [decide_eq_false z, decide_eq_false (show ¬ (Sum.inr kv.1 : Key) = Sum.inr x from fun y => z (by injection y)), Bool.false_or]
   exact ih
noncomputable def sp_look_new_name (CS EB ET : Addr) : Sp := fun vs H Q E => ∃ (sc dxs th po : Addr) (te wo : V) (x : Str) (l1 l2 : List (Str × V)), vs = [.ref sc, .str x] ∧ H sc = some (.ins CS dxs (sflds te (.ref th) (.ref po) wo)) ∧ H th = some (.dK (dS l1)) ∧ H po = some (.dK (dS l2)) ∧ x.cps.all (· < 128) = true ∧ x.cps.size ≤ 900 ∧
 (isN x = false → ∀ H', Same H H' → E (.ref EB) none H') ∧ (isN x = true → (hasS l1 x || hasS l2 x) = true → ∀ H', Same H H' → E (.ref ET) none H') ∧ (isN x = true → (hasS l1 x || hasS l2 x) = false → ∀ H', Same H H' → Q .non H')
section
variable {P : Program} {w : World} {K : PySem.W.Frag} {mg : Str → Option Value} {base : Heap} {t : Adr}
theorem sc_look_new_name : FnScope ["scene", "name"] ["scene", "name"] (defScope s_look_new_name) := ⟨rfl, rfl, rfl, by decide +kernel, rfl, by decide +kernel, by decide +kernel⟩
theorem ok_look_new_name (T : Txt w K mg t) : FnOk P w K mg base (CXr P w) 3 t.f_look_new_name t.d_look_new_name ["scene", "name"] (sp_look_new_name t.C_Scene t.E_BadName t.E_Taken) := by
 refine T.p_look_new_name.F.okX sc_look_new_name (fun vs H Q E h => ?_) (fun cdv A outer s H vs Q E hr h => ?_)
 ·obtain ⟨sc, dxs, th, po, te, wo, x, l1, l2, rfl, _⟩ := h
  rfl
 ·obtain ⟨sc, dxs, th, po, te, wo, x, l1, l2, rfl, hsc, hth, hpo, hx, hz, kB, kT, kQ⟩ := h
  have hu := hu_of hr
  refine ⟨_, (pssx_cons (psx_if (pt_not (pt_val (pe_call (ok_is_name T) (hr.mono (by decide)) rfl T.p_is_name.g T.p_is_name.F.kp T.p_is_name.b .nil passR (pa_cons (pv 1) pa_nil)))) (pssx_one (psx_raise T.x_BadName FBV rfl T.gx_BadName rfl (pa_cons pe_str pa_nil))) pssx_nil)
   (pssx_one (psx_if (PW.pt (pw_or (pt_cmp (pc_din hu (pv 1) (pe_fld (pv 0) rfl)) (by with_unfolding_all rfl)) (pw_or1 (pt_cmp (pc_din hu (pv 1) (pe_fld (pv 0) rfl)) (by with_unfolding_all rfl))))) (pssx_one (psx_raise T.x_Taken FBV rfl T.gx_Taken rfl (pa_cons pe_str pa_nil))) pssx_nil))), ?_⟩
  refine ⟨_, rfl, x, rfl, hx, hz, fun H1 s1 => ⟨_, rfl, ?_⟩⟩
  cases e : isN x with
  | false => exact iteT ⟨by decide, kB e H1 s1⟩
  | true =>
   refine iteF ?_
   have hsc1 := s1 _ _ hsc
   refine ⟨_, rfl, _, rfl, sc, _, dxs, _, .ref th, rfl, hsc1, T.cl_Scene, T.a_Scene_threads, rfl, th, _, rfl, .inl ⟨_, Sum.inr x, .inl (s1 _ _ hth), rfl, rfl⟩, _, rfl, ?_⟩
   rw [dS_val]
   cases e1 : hasS l1 x with
   | true => exact iteT (iteT ⟨by decide, kT e (by rw [e1]; rfl) H1 s1⟩)
   | false =>
    refine iteF ?_
    refine ⟨_, rfl, _, rfl, sc, _, dxs, _, .ref po, rfl, hsc1, T.cl_Scene, T.a_Scene_pools, rfl, po, _, rfl, .inl ⟨_, Sum.inr x, .inl (s1 _ _ hpo), rfl, rfl⟩, _, rfl, ?_⟩
    rw [dS_val]
    cases e2 : hasS l2 x with
    | true => exact iteT ⟨by decide, kT e (by rw [e1, e2]; rfl) H1 s1⟩
    | false => exact iteF (kQ e (by rw [e1, e2]; rfl) H1 s1)
end
end KT
set_option maxHeartbeats 4000000
namespace KT
open PySem L2
noncomputable def dI (ks : List Int) (f : Int → Int) : List (Key × V) := ks.map fun x => ((Sum.inl x : Key), V.int (f x))
theorem dI_val {ks : List Int} {f : Int → Int} {y : Int} (h : y ∈ ks) : valV (dI ks f) (Sum.inl y) = some (V.int (f y)) := by unfold dI; rw [val_map, if_pos h]
theorem dI_old {ks : List Int} {f : Int → Int} {y v : Int} (h : y ∈ ks) : putK (dI ks f) (Sum.inl y) (V.int v) = dI ks fun x => if x = y then v else f x := by
 unfold dI
 rw [put_old h]
 apply List.map_congr_left
 intro x _
 by_cases c : x = y
 ·simp [c]
 ·simp [c]
theorem dI_new {ks : List Int} {f : Int → Int} {y v : Int} (h : y ∉ ks) : putK (dI ks f) (Sum.inl y) (V.int v) = dI (ks ++ [y]) fun x => if x = y then v else f x := by
 unfold dI
 rw [put_new h, List.map_append]
 congr 1
 ·apply List.map_congr_left
  intro x hx
  have : x ≠ y := fun z => h (z ▸ hx)
  simp [this]
 ·simp
theorem dI_len {ks : List Int} {f : Int → Int} : (dI ks f).length = ks.length := by unfold dI; simp
theorem dI_congr {ks : List Int} {f g : Int → Int} (h : ∀ x ∈ ks, f x = g x) : dI ks f = dI ks g := by
 unfold dI
 exact List.map_congr_left fun x hx => by rw [h x hx]
theorem keys_le (ns : List Int) : ∀ n, (keys ns n).length ≤ n
 | 0 => Nat.le_refl _
 | n + 1 => by
  have ih := keys_le ns n
  cases h : ns[n]? with
  | none =>
   have : keys ns (n + 1) = keys ns n := by
    show (match ns[n]? with | some x => if x ∈ keys ns n then keys ns n else keys ns n ++ [x] | none => keys ns n) = _
    rw [h]
   rw [this]; omega
  | some x =>
   rw [keys_step h]
   split
   ·omega
   ·rw [List.length_append, List.length_singleton]; omega
end KT
set_option maxHeartbeats 4000000
namespace KT
open PySem L2
noncomputable def SameD (H H' : Hp) : Prop := ∀ b u, (∀ kvs, u ≠ .dK kvs) → H b = some u → H' b = some u
theorem TentAt.sameD {C : Addr} {H H' : Hp} {p : Addr} {M : List (Option Nat)} {ns : List Int} (h : TentAt C H p M ns) (s : SameD H H') : TentAt C H' p M ns := by
 obtain ⟨dx, cl, na, sp, mt, o, f, b⟩ := h
 obtain ⟨ts, r1, r2, r3⟩ := b.rows
 exact ⟨dx, cl, na, sp, mt, o, f, s _ _ (fun _ z => nomatch z) b.ins, ⟨ts, s _ _ (fun _ z => nomatch z) r1, r2, fun k t e => s _ _ (fun _ z => nomatch z) (r3 k t e)⟩, s _ _ (fun _ z => nomatch z) b.names, s _ _ (fun _ z => nomatch z) b.spots, s _ _ (fun _ z => nomatch z) b.mates, fun x hx => s _ _ (fun _ z => nomatch z) (b.at' x hx)⟩
noncomputable def CntAt (H : Hp) (c : Addr) (ns : List Int) (g : Int → Int) : Prop := ∃ ks : List Int, H c = some (.dK (dI ks g)) ∧ ks.Perm (keys ns ns.length)
theorem CntAt.same {H H' : Hp} {c : Addr} {ns : List Int} {g : Int → Int} (h : CntAt H c ns g) (s : Same H H') : CntAt H' c ns g := by
 obtain ⟨ks, h1, h2⟩ := h
 exact ⟨ks, s _ _ h1, h2⟩
theorem rim_of {M : List (Option Nat)} {ns : List Int} (td : TD M ns) {x : Int} (hx : x ∈ keys ns ns.length) (h : sortOf ns x = "rim") : ∃ a : Nat, M[a]? = some none ∧ ns[a]? = some x := by
 rcases sort_cases td hx with ⟨_, a, e, ma⟩ | ⟨e, _⟩ | ⟨e, _⟩
 ·refine ⟨a, ma, ?_⟩
  have : a ∈ pl ns ns.length x := by rw [e]; exact List.mem_singleton.mpr rfl
  unfold pl at this
  exact of_decide_eq_true (List.mem_filter.mp this).2
 ·rw [h] at e; exact absurd e (by decide)
 ·rw [h] at e; exact absurd e (by decide)
noncomputable def g3 (ns : List Int) (g : Int → Int) (k : Nat) : List Int := [g (ns.getD (3 * k) 0), g (ns.getD (3 * k + 1) 0), g (ns.getD (3 * k + 2) 0)]
theorem key_at {ns : List Int} {i : Nat} (h : i < ns.length) : ns.getD i 0 ∈ keys ns ns.length := by
 have e : ns[i]? = some (ns.getD i 0) := by rw [List.getD_eq_getElem?_getD, List.getElem?_eq_getElem h]; rfl
 exact keys_mem.mpr ⟨i, h, e⟩
theorem g3_at {ns : List Int} {g : Int → Int} {i j : Nat} {x : V} (h : (row3 ns i)[j]? = some x) : ∃ z, (3 * i + 2 < ns.length → z ∈ keys ns ns.length) ∧ x = V.int z ∧ (g3 ns g i)[j]? = some (g z) := by
 match j, h with
 | 0, h => cases h; exact ⟨_, fun h => key_at (by omega), rfl, rfl⟩
 | 1, h => cases h; exact ⟨_, fun h => key_at (by omega), rfl, rfl⟩
 | 2, h => cases h; exact ⟨_, fun h => key_at h, rfl, rfl⟩
 | j + 3, h => simp [row3] at h
theorem g3_ref {ns : List Int} {g : Int → Int} {k : Nat} {us : List Addr} (h : some (HO.lst (us.map V.ref)) = some (HO.lst ((g3 ns g k).map V.int))) : False := by
 injection h with h
 injection h with h
 cases us with
 | nil => cases h
 | cons a r => injection h with h _; cases h
theorem cnt_get {H : Hp} {c : Addr} {ks : List Int} {g : Int → Int} {z : Int} (h : H c = some (.dK (dI ks g))) (hz : z ∈ ks) : DGet H c (.int z) (some (.int (g z))) := .inl ⟨_, Sum.inl z, .inl h, rfl, (dI_val hz).symm⟩
structure OkN (M : List (Option Nat)) (ns : List Int) (g : Int → Int) : Prop where
 nn : ∀ x ∈ keys ns ns.length, 0 ≤ g x
 rim : ∀ (i : Nat) (x : Int), M[i]? = some none → ns[i]? = some x → g x = 0
noncomputable def sp_look_num (C : Addr) : Sp := fun vs H Q _ => ∃ (p c : Addr) (M : List (Option Nat)) (ns : List Int) (g : Int → Int), vs = [.ref p, .ref c] ∧ TentAt C H p M ns ∧ TD M ns ∧ ns.length < 64 ∧ CntAt H c ns g ∧ OkN M ns g ∧ ∀ H', Same H H' → Q .non H'
section
variable {P : Program} {w : World} {K : PySem.W.Frag} {mg : Str → Option Value} {base : Heap} {t : Adr}
theorem sc_look_numbers : FnScope ["tent", "counts", "seam", "number"] ["tent", "counts"] (defScope s_look_numbers) := ⟨rfl, rfl, rfl, by decide +kernel, rfl, by decide +kernel, by decide +kernel⟩
theorem ok_look_numbers (T : Txt w K mg t) : FnOk P w K mg base (CXr P w) 3 t.f_look_numbers t.d_look_numbers ["tent", "counts"] (sp_look_num t.C_Tent) := by
 refine T.p_look_numbers.F.okR sc_look_numbers (fun vs H Q E h => ?_) (fun cdv A outer s H vs Q E hr h => ?_)
 ·obtain ⟨p, c, M, ns, g, rfl, _⟩ := h
  rfl
 ·obtain ⟨p, c, M, ns, g, rfl, ta, td, h64, ⟨ks, hc, hperm⟩, ok, k⟩ := h
  refine ⟨_, (pss_cons (ps_if (pt_cmpR (op_neL hr.units) (pe_callB (call_sortedD rfl) (by rfl) T.n_sorted PyProof.Rows.boot_sorted (pa_cons (pv 1) pa_nil)) (pe_meth0 (pv 0) T.cl_Tent T.p_Tent_seams.m (ok_Tent_seams T) (hr.mono (by decide)) T.p_Tent_seams.b .nil passR) (nomark _)) pss_never pss_nil)
   (pss_one (ps_thaw (ps_for PassesOwn.never rfl (pi_items (pv 1) ⟨rfl, rfl, rfl⟩) (pg_tup rfl (pgs_cons (pg_name (i := 2) sc_look_numbers.nd rfl (Or.inl rfl)) (pgs_cons (pg_name (i := 3) sc_look_numbers.nd rfl (Or.inl rfl)) pgs_nil))) (pss_cons (ps_if (pt_cmpR op_lt (pv 3) pe_int (nomark _)) pss_never pss_nil)
   (pss_one (ps_if (PW.pt (pw_and (pt_cmpR op_gt (pv 3) pe_int (nomark _)) (pw_and1 (pt_cmpR op_eq (pe_meth (pv 0) T.cl_Tent T.p_Tent_sort_of.m (ok_Tent_sort_of T) (hr.mono (by decide)) T.p_Tent_sort_of.b .nil passR (pa_cons (pv 2) pa_nil)) pe_str (nomark _))))) pss_never pss_nil))))))), ?_⟩
  refine seq_cut fun nxC hnxC => ?_
  have hkl : ks.length < 64 := by have h1 := hperm.length_eq; have h2 := keys_le ns ns.length; omega
  refine ⟨_, rfl, c, _, ks, rfl, .inl hc, (by unfold dI; rw [List.map_map]; rfl), hkl, fun l1 out1 hl1 pm1 st1 => ?_⟩
  have s1 : Same H (upd H l1 (.lst (out1.map V.int))) := Same.new hl1
  have ta1 := ta.same s1
  obtain ⟨dx, cl, na, sp, mt, o, f, B⟩ := id ta1
  refine ⟨_, rfl, p, dx, _, rfl, B.ins, fl_none _ _ _ _, p, M, ns, rfl, ta1, h64, fun l2 out2 hl2 pm2 st2 => ?_⟩
  have s2 : Same (upd H l1 (.lst (out1.map V.int))) (upd (upd H l1 (.lst (out1.map V.int))) l2 (.lst (out2.map V.int))) := Same.new hl2
  refine ⟨l1, l2, out1, out2, rfl, rfl, SqL.of (s2 _ _ upd_same), SqL.of upd_same, _, rfl, ?_⟩
  obtain rfl := sorted_eq (pm1.trans hperm) pm2 st1 st2
  rw [decide_eq_true rfl]
  refine iteF ?_
  have s12 := s1.trans s2
  generalize upd (upd H l1 (.lst (out1.map V.int))) l2 (.lst (out1.map V.int)) = H2 at s12 ⊢
  clear B ta1 s1 s2 pm1 st1 pm2 st2 hl1 hl2
  try dsimp only [tNext]
  refine hnxC _ _ ?_
  have hc2 := s12 _ _ hc
  have ta2 := ta.same s12
  refine ⟨_, rfl, c, _, rfl, .inl ⟨hc2, fun o => ?_⟩⟩
  refine for_items (fun i σ H9 => ∃ v2 v3 : Option V, σ = [some (.ref p), some (.ref c), v2, v3] ∧ (∀ b u, b ≠ c → H2 b = some u → H9 b = some u) ∧ H9 c = some (.frz o (.dK (dI ks g)))) ⟨none, none, rfl, fun b u hb e => by rw [upd_ne hb]; exact e, upd_same⟩ ?_ ?_ ?_
  ·rintro i σ H9 _ ⟨v2, v3, rfl, _, e⟩
   exact e
  ·rintro i k0 x0 σ H9 q hk0 hq ⟨v2, v3, rfl, s9, h9⟩
   obtain ⟨y, hy, rfl, rfl⟩ : ∃ y, y ∈ ks ∧ k0 = Sum.inl y ∧ x0 = V.int (g y) := by
    unfold dI at hk0
    rw [List.getElem?_map] at hk0
    cases e : ks[i]? with
    | none => rw [e] at hk0; cases hk0
    | some z => rw [e] at hk0; cases hk0; exact ⟨z, List.mem_of_getElem? e, rfl, rfl⟩
   have hy' : y ∈ keys ns ns.length := hperm.mem_iff.mp hy
   have sq : Same H9 (upd H9 q (.tup [kV (Sum.inl y), V.int (g y)])) := Same.new hq
   have taq : TentAt t.C_Tent (upd H9 q (.tup [kV (Sum.inl y), V.int (g y)])) p M ns := (ta2.sameD (fun b u hu e => s9 b u (fun z => by rw [z, hc2] at e; cases e; exact hu _ rfl) e)).same sq
   refine ⟨q, _, rfl, SqT.of upd_same, rfl, _, _, rfl, _, _, rfl, rfl, ?_⟩
   refine seq_cut fun nxC hnxC => ?_
   refine ⟨_, rfl, _, _, rfl, rfl, _, rfl, ?_⟩
   rw [decide_eq_false (show ¬ g y < 0 from by have := ok.nn y hy'; omega)]
   refine iteF ?_
   try dsimp only [tNext]
   refine hnxC _ _ ?_
   refine ⟨_, rfl, _, _, rfl, rfl, _, rfl, ?_⟩
   have nx9 : ∀ H', Same (upd H9 q (.tup [kV (Sum.inl y), V.int (g y)])) H' → ∃ v2 v3 : Option V, [some (.ref p), some (.ref c), some (V.int y), some (V.int (g y))] = [some (.ref p), some (.ref c), v2, v3] ∧ (∀ b u, b ≠ c → H2 b = some u → H' b = some u) ∧ H' c = some (.frz o (.dK (dI ks g))) := fun H' s' => ⟨_, _, rfl, fun b u hb e => s' _ _ (sq _ _ (s9 b u hb e)), s' _ _ (sq _ _ h9)⟩
   refine ite2 (fun z => ?_) (fun _ => iteF (nx9 _ (Same.refl _)))
   have hg0 : 0 < g y := of_decide_eq_true z
   obtain ⟨dx, cl, na, sp, mt, o', f, B⟩ := id taq
   refine ⟨_, rfl, p, dx, _, rfl, B.ins, fl_none _ _ _ _, _, rfl, p, M, ns, y, rfl, taq, td, fun _ H' s' => ?_, fun z => absurd hy' z⟩
   refine ⟨rfl, _, rfl, ?_⟩
   by_cases e : sortOf ns y = "rim"
   ·obtain ⟨a, ma, na⟩ := rim_of td hy' e
    have := ok.rim a y ma na
    omega
   ·rw [str_ne e]
    exact iteF (nx9 H' s')
  ·rintro σ H9 ⟨v2, v3, rfl, s9, h9⟩
   refine ⟨c, o, _, h9, fun o' u z => ?_, ?_⟩
   ·have z : H c = some (.frz o' u) := z
    rw [hc] at z; cases z
   ·refine k _ fun b u e => ?_
    by_cases hb : b = c
    ·subst hb
     rw [upd_same]
     rw [hc] at e; exact e
    ·rw [upd_ne hb]
     exact s9 b u hb (s12 b u e)
theorem sc_look_counts : FnScope ["tent", "counts", "triples"] ["tent", "counts"] (defScope s_look_counts) := ⟨rfl, rfl, rfl, by decide +kernel, rfl, by decide +kernel, by decide +kernel⟩
end
end KT
set_option maxHeartbeats 4000000
namespace KT
open PySem L2
noncomputable def sp_look_cX (C EN : Addr) : Sp := fun vs H Q E => ∃ (p c : Addr) (M : List (Option Nat)) (ns : List Int) (kvs : List (Key × V)) (ks : List Int), vs = [.ref p, .ref c] ∧ TentAt C H p M ns ∧ ns.length < 64 ∧ H c = some (.dK kvs) ∧ kvs.map (·.1) = ks.map Sum.inl ∧ ks.length < 64 ∧ ¬ ks.Perm (keys ns ns.length) ∧ ∀ H', Same H H' → E (.ref EN) none H'
section
variable {P : Program} {w : World} {K : PySem.W.Frag} {mg : Str → Option Value} {base : Heap} {t : Adr}
theorem ok_look_numbersX (T : Txt w K mg t) : FnOk P w K mg base (CXr P w) 3 t.f_look_numbers t.d_look_numbers ["tent", "counts"] (sp_look_cX t.C_Tent t.E_NoCounts) := by
 refine T.p_look_numbers.F.okX sc_look_numbers (fun vs H Q E h => ?_) (fun cdv A outer s H vs Q E hr h => ?_)
 ·obtain ⟨p, c, M, ns, kvs, ks, rfl, _⟩ := h
  rfl
 ·obtain ⟨p, c, M, ns, kvs, ks, rfl, ta, h64, hc, hk, hkl, np, k⟩ := h
  refine ⟨_, (pssx_cons (psx_if (pt_cmpR (op_neL hr.units) (pe_callB (call_sortedD rfl) (by rfl) T.n_sorted PyProof.Rows.boot_sorted (pa_cons (pv 1) pa_nil)) (pe_meth0 (pv 0) T.cl_Tent T.p_Tent_seams.m (ok_Tent_seams T) (hr.mono (by decide)) T.p_Tent_seams.b .nil passR) (nomark _)) (pssx_one (psx_raise T.x_NoCounts FBV rfl T.gx_NoCounts rfl (pa_cons pe_str pa_nil))) pssx_nil)
   (pssx_of pss_never)), ?_⟩
  refine ⟨_, rfl, c, _, ks, rfl, .inl hc, hk, hkl, fun l1 out1 hl1 pm1 st1 => ?_⟩
  have s1 : Same H (upd H l1 (.lst (out1.map V.int))) := Same.new hl1
  have ta1 := ta.same s1
  obtain ⟨dx, cl, na, sp, mt, o, f, B⟩ := id ta1
  refine ⟨_, rfl, p, dx, _, rfl, B.ins, fl_none _ _ _ _, p, M, ns, rfl, ta1, h64, fun l2 out2 hl2 pm2 st2 => ?_⟩
  have s2 : Same (upd H l1 (.lst (out1.map V.int))) (upd (upd H l1 (.lst (out1.map V.int))) l2 (.lst (out2.map V.int))) := Same.new hl2
  refine ⟨l1, l2, out1, out2, rfl, rfl, SqL.of (s2 _ _ upd_same), SqL.of upd_same, _, rfl, ?_⟩
  have hne : ¬ out1 = out2 := fun e => np (by rw [← e] at pm2; exact pm1.symm.trans pm2)
  rw [decide_eq_false hne]
  exact iteT ⟨by decide, k _ (s1.trans s2)⟩
theorem ok_look_countsX (T : Txt w K mg t) : FnOk P w K mg base (CXr P w) 4 t.f_look_counts t.d_look_counts ["tent", "counts"] (sp_look_cX t.C_Tent t.E_NoCounts) := by
 refine T.p_look_counts.F.okX sc_look_counts (fun vs H Q E h => ?_) (fun cdv A outer s H vs Q E hr h => ?_)
 ·obtain ⟨p, c, M, ns, kvs, ks, rfl, _⟩ := h
  rfl
 ·obtain ⟨p, c, M, ns, kvs, ks, rfl, h⟩ := h
  refine ⟨_, (pssx_cons (psx_expr (pex_call (ok_look_numbersX T) (hr.mono (by decide)) rfl T.p_look_numbers.g T.p_look_numbers.F.kp T.p_look_numbers.b .nil (pa_cons (pv 0) (pa_cons (pv 1) pa_nil))))
   (pssx_of pss_never)), ?_⟩
  exact ⟨_, rfl, _, rfl, p, c, M, ns, kvs, ks, rfl, h⟩
end
end KT
set_option maxHeartbeats 4000000
namespace KT
open PySem L2
noncomputable def okD (m n : Nat) : Prop := Nat.gcd m n < 2 ^ 8900
theorem okD_div {m n : Nat} (hm : 1 ≤ m) (h : okD m n) : CDivB (m : Int) (Nat.gcd m n : Nat) ∧ CDivB (n : Int) (Nat.gcd m n : Nat) := by
 have h1 : 0 < Nat.gcd m n := Nat.gcd_pos_of_pos_left _ hm
 have h3 : (((Nat.gcd m n : Nat) : Int)).natAbs.log2 < 9000 := by
  refine Nat.lt_of_lt_of_le (log2_lt (k := 8900) ?_ (by decide)) (by decide)
  rw [Int.natAbs_natCast]
  exact h
 exact ⟨⟨by omega, h3⟩, ⟨by omega, h3⟩⟩
theorem okD_of {m n : Nat} (hm : 1 ≤ m) (h : m < 2 ^ 8900) : okD m n := Nat.lt_of_le_of_lt (Nat.le_of_dvd hm (Nat.gcd_dvd_left _ _)) h
noncomputable def sp_common : Sp := fun vs H Q _ => ∃ a b : Nat, vs = [.int a, .int b] ∧ Q (.int (Nat.gcd a b : Nat)) H
noncomputable def sp_look_fraction (EF : Addr) : Sp := fun vs H Q E => ∃ a b : Int, vs = [.int a, .int b] ∧ (1 ≤ a → 1 ≤ b → Q .non H) ∧ (a < 1 ∨ b < 1 → E (.ref EF) none H)
noncomputable def sp_fraction (EF : Addr) : Sp := fun vs H Q E => ∃ a b : Int, vs = [.int a, .int b] ∧ (∀ m n : Nat, a = m → b = n → 1 ≤ m → 1 ≤ n → okD m n ∧ ∀ p, H p = none → Q (.ref p) (upd H p (tp (lowN m n)))) ∧ (a < 1 ∨ b < 1 → E (.ref EF) none H)
section
variable {P : Program} {w : World} {K : PySem.W.Frag} {mg : Str → Option Value} {base : Heap} {t : Adr}
theorem sc_common_measure : FnScope ["one", "other"] ["one", "other"] (defScope s_common_measure) := ⟨rfl, rfl, rfl, by decide +kernel, rfl, by decide +kernel, by decide +kernel⟩
theorem ok_common_measure (T : Txt w K mg t) : FnOk P w K mg base (CXr P w) 1 t.f_common_measure t.d_common_measure ["one", "other"] sp_common := by
 refine T.p_common_measure.F.okR sc_common_measure (fun vs H Q E h => ?_) (fun cdv A outer s H vs Q E hr h => ?_)
 ·obtain ⟨a, b, rfl, _⟩ := h
  rfl
 ·obtain ⟨a, b, rfl, k⟩ := h
  refine ⟨_, (pss_cons (ps_while PassesOwn.never (pt_truth (pv 1) (fun _ => rfl)) (pss_one (ps_par (i := 0) (j := 1) rfl sc_common_measure.nd rfl rfl (by decide) rfl rfl (pa_cons (pv 1) (pa_cons (pe_op op_mod (pv 0) (pv 1)) pa_nil)) (by rfl))))
   (pss_one (ps_ret (pv 0)))), ?_⟩
  refine ⟨fun m σ H1 => ∃ a' b' : Nat, b' = m ∧ H1 = H ∧ σ = [some (.int a'), some (.int b')] ∧ Nat.gcd a' b' = Nat.gcd a b, ⟨b, a, b, rfl, rfl, rfl, rfl⟩, ?_⟩
  rintro m σ H1 ⟨a', b', rfl, rfl, rfl, e⟩
  refine ⟨_, rfl, _, rfl, ?_⟩
  by_cases z : b' = 0
  ·subst z
   refine iteF ⟨_, rfl, ?_⟩
   rw [Nat.gcd_zero_right] at e
   rw [e]
   exact k
  ·have hz : ((b' : Int) != 0) = true := by simp; omega
   rw [hz]
   refine iteT ⟨_, fun σ' H' h => h, ?_⟩
   refine ⟨_, rfl, _, rfl, _, rfl, _, _, rfl, rfl, (by show (0 : Int) < b'; omega), _, _, rfl, ?_⟩
   refine ⟨a' % b', Nat.mod_lt _ (by omega), b', a' % b', rfl, rfl, ?_, ?_⟩
   ·rw [Int.natCast_emod]; rfl
   ·rw [← e, Nat.gcd_comm a' b', Nat.gcd_rec b' a', Nat.gcd_comm]
theorem sc_look_fraction : FnScope ["top", "bottom"] ["top", "bottom"] (defScope s_look_fraction) := ⟨rfl, rfl, rfl, by decide +kernel, rfl, by decide +kernel, by decide +kernel⟩
theorem ok_look_fraction (T : Txt w K mg t) : FnOk P w K mg base (CXr P w) 1 t.f_look_fraction t.d_look_fraction ["top", "bottom"] (sp_look_fraction t.E_NoFraction) := by
 refine T.p_look_fraction.F.okX sc_look_fraction (fun vs H Q E h => ?_) (fun cdv A outer s H vs Q E hr h => ?_)
 ·obtain ⟨a, b, rfl, _⟩ := h
  rfl
 ·obtain ⟨a, b, rfl, k1, k2⟩ := h
  refine ⟨_, (pssx_one (psx_if (PW.pt (pw_or (pt_cmpR op_lt (pv 0) pe_int (nomark _)) (pw_or1 (pt_cmpR op_lt (pv 1) pe_int (nomark _))))) (pssx_one (psx_raise T.x_NoFraction FBV rfl T.gx_NoFraction rfl (pa_cons pe_str pa_nil))) pssx_nil)), ?_⟩
  refine ⟨_, rfl, _, _, rfl, rfl, _, rfl, ?_⟩
  refine ite2 (fun c => ?_) (fun c => ?_)
  ·have c : a < 1 := by simpa using c
   exact iteT ⟨by decide, k2 (.inl c)⟩
  ·have c : ¬ a < 1 := by simpa using c
   refine ⟨_, rfl, _, _, rfl, rfl, _, rfl, ?_⟩
   refine ite2 (fun d => ?_) (fun d => ?_)
   ·have d : b < 1 := by simpa using d
    exact ⟨by decide, k2 (.inr d)⟩
   ·have d : ¬ b < 1 := by simpa using d
    exact k1 (by omega) (by omega)
theorem sc_fraction : FnScope ["top", "bottom", "measure"] ["top", "bottom"] (defScope s_fraction) := ⟨rfl, rfl, rfl, by decide +kernel, rfl, by decide +kernel, by decide +kernel⟩
theorem ok_fraction (T : Txt w K mg t) : FnOk P w K mg base (CXr P w) 2 t.f_fraction t.d_fraction ["top", "bottom"] (sp_fraction t.E_NoFraction) := by
 refine T.p_fraction.F.okX sc_fraction (fun vs H Q E h => ?_) (fun cdv A outer s H vs Q E hr h => ?_)
 ·obtain ⟨a, b, rfl, _⟩ := h
  rfl
 ·obtain ⟨a, b, rfl, k1, k2⟩ := h
  refine ⟨_, (pssx_cons (psx_expr (pex_call (ok_look_fraction T) (hr.mono (by decide)) rfl T.p_look_fraction.g T.p_look_fraction.F.kp T.p_look_fraction.b .nil (pa_cons (pv 0) (pa_cons (pv 1) pa_nil))))
   (pssx_cons (psx_of (ps_set (i := 2) sc_fraction.nd rfl (Or.inl rfl) (pe_call (ok_common_measure T) (hr.mono (by decide)) rfl T.p_common_measure.g T.p_common_measure.F.kp T.p_common_measure.b .nil passR (pa_cons (pv 0) (pa_cons (pv 1) pa_nil)))))
   (pssx_one (psx_of (ps_ret (pe_tup (pa_cons (pe_op op_fdivB (pv 0) (pv 2)) (pa_cons (pe_op op_fdivB (pv 1) (pv 2)) pa_nil)))))))), ?_⟩
  refine ⟨_, rfl, _, rfl, a, b, rfl, fun ha hb => ?_, k2⟩
  obtain ⟨m, rfl⟩ : ∃ m : Nat, a = m := ⟨a.toNat, by omega⟩
  obtain ⟨n, rfl⟩ : ∃ n : Nat, b = n := ⟨b.toNat, by omega⟩
  obtain ⟨hbg, k⟩ := k1 m n rfl rfl (by omega) (by omega)
  obtain ⟨g1, g2⟩ := okD_div (m := m) (n := n) (by omega) hbg
  refine ⟨_, rfl, _, rfl, m, n, rfl, ?_⟩
  dsimp only [gName]
  refine ⟨_, rfl, _, rfl, _, _, rfl, rfl, g1, _, rfl, _, rfl, _, _, rfl, rfl, g2, (by show 2 ≤ sizeLine; rw [sizeLine_eq]; decide), fun p hp => ?_⟩
  exact k p hp
end
end KT
set_option maxHeartbeats 4000000
namespace KT
open PySem L2
theorem for_itemsX {d : Addr} {kvs : List (Key × V)} {o : Obj} {g : TG} {tb : TSX} {R : Value → St → Hp → Prop} {D : Ends} {σ : St} {H : Hp} (Pv : Nat → St → Hp → Prop) (h0 : Pv 0 σ H) (hl : ∀ i σ H, i ≤ kvs.length → Pv i σ H → H d = some (.frz o (.dK kvs)))
  (hs : ∀ i k x σ H q, kvs[i]? = some (k, x) → H q = none → Pv i σ H → g (.ref q) σ (upd H q (.tup [kV k, x])) fun σ2 H2 => tb { D with nx := Pv (i + 1), ct := Pv (i + 1), bk := D.nx } R σ2 H2) (hd : ∀ σ H, Pv kvs.length σ H → D.nx σ H) :
  ∃ W : Nat → Nat → St → Hp → Prop, (∃ m, W 0 m σ H) ∧ ∀ i m σ H, W i m σ H →
   ((Itm2 d kvs o).stop i H ∧ D.nx σ H) ∨ ((Itm2 d kvs o).go i H ∧ ∃ N : St → Hp → Prop, (∀ σ' H', N σ' H' → ∃ m', m' < m ∧ W (i + 1) m' σ' H') ∧ ∀ x H', (Itm2 d kvs o).yld i H x H' → g x σ H' fun σ2 H2 => tb { D with nx := N, ct := N, bk := D.nx } R σ2 H2) :=
 for_items (tb := fun D' σ' H' => tb D' R σ' H') Pv h0 hl hs hd
noncomputable def OthC (c : Addr) (H H' : Hp) : Prop := ∀ b u, b ≠ c → H b = some u → H' b = some u
noncomputable def sp_look_cR (C EN : Addr) : Sp := fun vs H Q E => ∃ (p c : Addr) (M : List (Option Nat)) (ns : List Int) (g : Int → Int), vs = [.ref p, .ref c] ∧ TentAt C H p M ns ∧ TD M ns ∧ ns.length < 64 ∧ CntAt H c ns g ∧ (∀ x ∈ keys ns ns.length, 0 < g x) ∧ (∃ x ∈ keys ns ns.length, sortOf ns x = "rim") ∧ ∀ H', OthC c H H' → E (.ref EN) none H'
noncomputable def sp_look_cU (C EU : Addr) : Sp := fun vs H Q E => ∃ (p c : Addr) (M : List (Option Nat)) (ns : List Int) (g : Int → Int), vs = [.ref p, .ref c] ∧ TentAt C H p M ns ∧ TD M ns ∧ ns.length < 64 ∧ CntAt H c ns g ∧ OkN M ns g ∧ (∃ k, 3 * k + 2 < ns.length ∧ (g3 ns g k).sum % 2 = 1) ∧ ∀ H', Same H H' → E (.ref EU) none H'
noncomputable def sp_cbad (C EN EU : Addr) : Sp := fun vs H Q E => sp_look_cX C EN vs H Q E ∨ sp_look_cR C EN vs H Q E ∨ sp_look_cU C EU vs H Q E
theorem sp_cbad.len {C EN EU : Addr} {vs : List V} {H : Hp} {Q : VK} {E : XK} (h : sp_cbad C EN EU vs H Q E) : ∃ p c : Addr, vs = [.ref p, .ref c] := by
 rcases h with ⟨p, c, _, _, _, _, rfl, _⟩ | ⟨p, c, _, _, _, rfl, _⟩ | ⟨p, c, _, _, _, rfl, _⟩ <;> exact ⟨p, c, rfl⟩
section
variable {P : Program} {w : World} {K : PySem.W.Frag} {mg : Str → Option Value} {base : Heap} {t : Adr}
theorem ok_look_numbersR (T : Txt w K mg t) : FnOk P w K mg base (CXr P w) 3 t.f_look_numbers t.d_look_numbers ["tent", "counts"] (sp_look_cR t.C_Tent t.E_NoCounts) := by
 refine T.p_look_numbers.F.okL sc_look_numbers (fun vs H Q E h => ?_) (fun cdv A outer s H vs Q E hr h => ?_)
 ·obtain ⟨p, c, M, ns, g, rfl, _⟩ := h
  rfl
 ·obtain ⟨p, c, M, ns, g, rfl, ta, td, h64, ⟨ks, hc, hperm⟩, gp, ⟨rx, hrx, hrim⟩, k⟩ := h
  refine ⟨_, (fun _ L => (pssl_cons (psl_of L (psx_if (pt_cmpR (op_neL hr.units) (pe_callB (call_sortedD rfl) (by rfl) T.n_sorted PyProof.Rows.boot_sorted (pa_cons (pv 1) pa_nil)) (pe_meth0 (pv 0) T.cl_Tent T.p_Tent_seams.m (ok_Tent_seams T) (hr.mono (by decide)) T.p_Tent_seams.b .nil passR) (nomark _)) (pssx_one (psx_raise T.x_NoCounts FBV rfl T.gx_NoCounts rfl (pa_cons pe_str pa_nil))) pssx_nil))
   (pssl_one (psl_for L rfl (pi_items (pv 1) ⟨rfl, rfl, rfl⟩) (pg_tup rfl (pgs_cons (pg_name (i := 2) sc_look_numbers.nd rfl (Or.inl rfl)) (pgs_cons (pg_name (i := 3) sc_look_numbers.nd rfl (Or.inl rfl)) pgs_nil))) (pssl_cons (psl_of L (psx_if (pt_cmpR op_lt (pv 3) pe_int (nomark _)) (pssx_one (psx_raise T.x_NoCounts FBV rfl T.gx_NoCounts rfl (pa_cons pe_str pa_nil))) pssx_nil))
   (pssl_one (psl_of L (psx_if (PW.pt (pw_and (pt_cmpR op_gt (pv 3) pe_int (nomark _)) (pw_and1 (pt_cmpR op_eq (pe_meth (pv 0) T.cl_Tent T.p_Tent_sort_of.m (ok_Tent_sort_of T) (hr.mono (by decide)) T.p_Tent_sort_of.b .nil passR (pa_cons (pv 2) pa_nil)) pe_str (nomark _))))) (pssx_one (psx_raise T.x_NoCounts FBV rfl T.gx_NoCounts rfl (pa_cons pe_str pa_nil))) pssx_nil)))))))), ?_⟩
  have hkl : ks.length < 64 := by have h1 := hperm.length_eq; have h2 := keys_le ns ns.length; omega
  refine seq_postX (fun σ H' => σ = [some (.ref p), some (.ref c), none, none] ∧ Same H H') (fun nx hnx => ?_) ?_
  ·refine ⟨_, rfl, c, _, ks, rfl, .inl hc, (by unfold dI; rw [List.map_map]; rfl), hkl, fun l1 out1 hl1 pm1 st1 => ?_⟩
   have s1 : Same H (upd H l1 (.lst (out1.map V.int))) := Same.new hl1
   have ta1 := ta.same s1
   obtain ⟨dx, cl, na, sp, mt, o, f, B⟩ := id ta1
   refine ⟨_, rfl, p, dx, _, rfl, B.ins, fl_none _ _ _ _, p, M, ns, rfl, ta1, h64, fun l2 out2 hl2 pm2 st2 => ?_⟩
   have s2 : Same (upd H l1 (.lst (out1.map V.int))) (upd (upd H l1 (.lst (out1.map V.int))) l2 (.lst (out2.map V.int))) := Same.new hl2
   refine ⟨l1, l2, out1, out2, rfl, rfl, SqL.of (s2 _ _ upd_same), SqL.of upd_same, _, rfl, ?_⟩
   obtain rfl := sorted_eq (pm1.trans hperm) pm2 st1 st2
   rw [decide_eq_true rfl]
   exact iteF (hnx _ _ ⟨rfl, s1.trans s2⟩)
  rintro σ H2 ⟨rfl, s2⟩
  have hc2 := s2 _ _ hc
  have ta2 := ta.same s2
  refine ⟨_, rfl, c, _, rfl, .inl ⟨hc2, fun o => ?_⟩⟩
  refine for_itemsX (fun i σ H9 => ∃ v2 v3 : Option V, σ = [some (.ref p), some (.ref c), v2, v3] ∧ (∀ b u, b ≠ c → H2 b = some u → H9 b = some u) ∧ H9 c = some (.frz o (.dK (dI ks g))) ∧ ∀ y ∈ ks.take i, sortOf ns y ≠ "rim") ⟨none, none, rfl, fun b u hb e => by rw [upd_ne hb]; exact e, upd_same, fun y hy => by cases hy⟩ ?_ ?_ ?_
  ·rintro i σ H9 _ ⟨v2, v3, rfl, _, e, _⟩
   exact e
  ·rintro i k0 x0 σ H9 q hk0 hq ⟨v2, v3, rfl, s9, h9, hn⟩
   obtain ⟨y, hy, hyi, rfl, rfl⟩ : ∃ y, y ∈ ks ∧ ks[i]? = some y ∧ k0 = Sum.inl y ∧ x0 = V.int (g y) := by
    unfold dI at hk0
    rw [List.getElem?_map] at hk0
    cases e : ks[i]? with
    | none => rw [e] at hk0; cases hk0
    | some z => rw [e] at hk0; cases hk0; exact ⟨z, List.mem_of_getElem? e, rfl, rfl, rfl⟩
   have hy' : y ∈ keys ns ns.length := hperm.mem_iff.mp hy
   have hg0 := gp y hy'
   have sq : Same H9 (upd H9 q (.tup [kV (Sum.inl y), V.int (g y)])) := Same.new hq
   have taq : TentAt t.C_Tent (upd H9 q (.tup [kV (Sum.inl y), V.int (g y)])) p M ns := (ta2.sameD (fun b u hu e => s9 b u (fun z => by rw [z, hc2] at e; cases e; exact hu _ rfl) e)).same sq
   refine ⟨q, _, rfl, SqT.of upd_same, rfl, _, _, rfl, _, _, rfl, rfl, ?_⟩
   refine ⟨_, rfl, _, _, rfl, rfl, _, rfl, ?_⟩
   rw [decide_eq_false (show ¬ g y < 0 from by omega)]
   refine iteF ?_
   refine ⟨_, rfl, _, _, rfl, rfl, _, rfl, ?_⟩
   rw [decide_eq_true hg0]
   refine iteT ?_
   obtain ⟨dx, cl, na, sp, mt, o', f, B⟩ := id taq
   refine ⟨_, rfl, p, dx, _, rfl, B.ins, fl_none _ _ _ _, _, rfl, p, M, ns, y, rfl, taq, td, fun _ H' s' => ?_, fun z => absurd hy' z⟩
   refine ⟨rfl, _, rfl, ?_⟩
   by_cases e : sortOf ns y = "rim"
   ·rw [e, decide_eq_true rfl]
    exact iteT ⟨by decide, k _ fun b u hb e => s' _ _ (sq _ _ (s9 b u hb (s2 b u e)))⟩
   ·rw [str_ne e]
    refine iteF ⟨_, _, rfl, fun b u hb e => s' _ _ (sq _ _ (s9 b u hb e)), s' _ _ (sq _ _ h9), fun z hz => ?_⟩
    rw [List.take_add_one, hyi] at hz
    rcases List.mem_append.mp hz with z' | z'
    ·exact hn z z'
    ·have : z = y := by simpa using z'
     rw [this]; exact e
  ·rintro σ H9 ⟨v2, v3, rfl, s9, h9, hn⟩
   rw [dI_len, List.take_length] at hn
   exact absurd hrim (hn rx (hperm.mem_iff.mpr hrx))
theorem ok_look_countsR (T : Txt w K mg t) : FnOk P w K mg base (CXr P w) 4 t.f_look_counts t.d_look_counts ["tent", "counts"] (sp_look_cR t.C_Tent t.E_NoCounts) := by
 refine T.p_look_counts.F.okX sc_look_counts (fun vs H Q E h => ?_) (fun cdv A outer s H vs Q E hr h => ?_)
 ·obtain ⟨p, c, M, ns, g, rfl, _⟩ := h
  rfl
 ·obtain ⟨p, c, M, ns, g, rfl, h⟩ := h
  refine ⟨_, (pssx_cons (psx_expr (pex_call (ok_look_numbersR T) (hr.mono (by decide)) rfl T.p_look_numbers.g T.p_look_numbers.F.kp T.p_look_numbers.b .nil (pa_cons (pv 0) (pa_cons (pv 1) pa_nil))))
   (pssx_of pss_never)), ?_⟩
  exact ⟨_, rfl, _, rfl, p, c, M, ns, g, rfl, h⟩
theorem ok_look_countsU (T : Txt w K mg t) : FnOk P w K mg base (CXr P w) 4 t.f_look_counts t.d_look_counts ["tent", "counts"] (sp_look_cU t.C_Tent t.E_Uneven) := by
  refine T.p_look_counts.F.okX sc_look_counts (fun vs H Q E h => ?_) (fun cdv A outer s H vs Q E hr h => ?_)
  · obtain ⟨p, c, M, ns, g, rfl, _⟩ := h
    rfl
  · obtain ⟨p, c, M, ns, g, rfl, ta, td, h64, hcnt, ok, ⟨kO, hkO, hOdd⟩, k⟩ := h
    have hu := hu_of hr
    refine ⟨_, (pssx_cons (psx_of (ps_expr (pe_call (ok_look_numbers T) (hr.mono (by decide)) rfl T.p_look_numbers.g T.p_look_numbers.F.kp T.p_look_numbers.b .nil passR (pa_cons (pv 0) (pa_cons (pv 1) pa_nil)))))
      (pssx_cons (psx_of (ps_setCompG (ts := ["row"]) (fv := [("counts", 1)]) (i := 2) ⟨rfl, by decide +kernel, by decide +kernel, blkFree (by rfl), ⟨⟨rfl, rfl, Or.inl rfl⟩, trivial⟩⟩ rfl sc_look_counts.nd rfl rfl (by rfl) (pi_list (pe_meth0 (pv 0) T.cl_Tent T.p_Tent_rows.m (ok_Tent_rows T) (hr.mono (by decide)) T.p_Tent_rows.b .nil passR)) (fun _ _ _ _ => (pg_name (i := 0) (show List.Nodup (["row", "counts"] : List Str) from by decide +kernel) rfl (Or.inl rfl) (Or.inr rfl))) (fun _ _ _ _ => pts_nil) (fun _ _ _ => rfl) (fun _ _ _ _ _ _ => pb_emit (pe_compG (ts := ["seam"]) (fv := [("counts", 1)]) ⟨rfl, by decide +kernel, by decide +kernel, blkFree (by rfl), ⟨⟨rfl, rfl, Or.inl rfl⟩, trivial⟩⟩ rfl (pi_tupK K (pv 0)) (fun _ _ _ _ => (pg_name (i := 0) (show List.Nodup (["seam", "counts"] : List Str) from by decide +kernel) rfl (Or.inl rfl) (Or.inr rfl))) (fun _ _ _ _ => pts_nil) (fun _ _ _ => rfl) (fun _ _ _ _ _ _ => pb_emit (pe_dget hu (pv 1) (pv 0) (fun _ _ => rfl)))))))
      (pssx_cons (psx_if (pt_val (pe_callB (call_anyB rfl) (by rfl) T.n_any PyProof.Rows.boot_any (pa_cons (pe_compG (ts := ["triple"]) (fv := []) ⟨rfl, by decide +kernel, by decide +kernel, blkFree (by rfl), trivial⟩ rfl (pi_list (pv 2)) (fun _ _ _ _ => (pg_name (i := 0) (show List.Nodup (["triple"] : List Str) from by decide +kernel) rfl (Or.inl rfl) (Or.inr rfl))) (fun _ _ _ _ => pts_nil) (fun _ _ _ => rfl) (fun _ _ _ _ _ _ => pb_emit (pe_cmpR op_eq (pe_op op_mod (pe_callB (call_sumLK K rfl) (by rfl) T.n_sum PyProof.Rows.boot_sum (pa_cons (pv 0) pa_nil)) pe_int) pe_int (nomark _)))) pa_nil))) (pssx_one (psx_raise T.x_Uneven FBV rfl T.gx_Uneven rfl (pa_cons pe_str pa_nil))) pssx_nil)
      (pssx_of pss_never)))), ?_⟩
    refine seq_postX (fun σ H' => σ = [some (.ref p), some (.ref c), none] ∧ Same H H') (fun nx hnx => ⟨_, rfl, _, rfl, p, c, M, ns, g, rfl, ta, td, h64, hcnt, ok, fun H1 s1 => hnx _ _ ⟨rfl, s1⟩⟩) ?_
    rintro σ H1 ⟨rfl, s1⟩
    have ta1 := ta.same s1
    have hc1 := hcnt.same s1
    obtain ⟨n, n1, n40, hn⟩ := td.n
    have hMl := td.len
    refine seq_postX (fun σ H' => ∃ (D : Addr) (us : List Addr), σ = [some (.ref p), some (.ref c), some (.ref D)] ∧ Same H1 H' ∧ H' D = some (.lst (us.map V.ref)) ∧ us.length = n ∧ ∀ (k : Nat) (u : Addr), us[k]? = some u → H' u = some (.lst ((g3 ns g k).map V.int))) (fun nx hnx => ?_) ?_
    · obtain ⟨dx, cl, na, sp, mt, o, f, B⟩ := id ta1
      refine ⟨_, rfl, p, dx, _, rfl, B.ins, fl_none _ _ _ _, p, M, ns, rfl, ta1, fun lr ts hlr ts1 ts2 => ?_⟩
      have s2 : Same H1 (upd H1 lr (.lst (ts.map V.ref))) := Same.new hlr
      have h2 : (upd H1 lr (.lst (ts.map V.ref))) lr = some (.lst (ts.map V.ref)) := upd_same
      have h2t : ∀ (k : Nat) (t : Addr), ts[k]? = some t → (upd H1 lr (.lst (ts.map V.ref))) t = some (.tup (row3 ns k)) := fun k t e => s2 _ _ (ts2 k t e)
      generalize upd H1 lr (.lst (ts.map V.ref)) = H2 at s2 h2 h2t ⊢
      refine ⟨lr, rfl, ⟨_, SqL.of h2⟩, fun D hD => ?_⟩
      obtain ⟨ks, hc2, hperm⟩ := hc1.same s2
      clear B ts2 hlr
      have htn : ts.length = n := by omega
      refine loop_list (xs := ts.map V.ref) (fun i σ H3 => ∃ (v : Option V) (us : List Addr), σ = [v, some (.ref c)] ∧ Same H2 H3 ∧ H3 D = some (.lst (us.map V.ref)) ∧ us.length = i ∧ ∀ (k : Nat) (u : Addr), us[k]? = some u → H3 u = some (.lst ((g3 ns g k).map V.int))) ⟨none, [], rfl, Same.new hD, upd_same, rfl, fun k u e => by simp at e⟩ ?_ ?_ ?_
      · rintro i σ H3 _ ⟨v, us, rfl, sm, _⟩
        exact SqL.of (sm _ _ h2)
      · rintro i y σ H3 hy ⟨v, us, rfl, sm, h3, hu3, hus⟩
        obtain ⟨q, hq, rfl⟩ := map_some hy
        have hi : i < n := by rw [← htn]; exact (List.getElem?_eq_some_iff.mp hq).1
        dsimp only [gName, tYes]
        rw [if_pos rfl]
        have hq3 := sm _ _ (h2t i q hq)
        refine ⟨_, rfl, q, rfl, ⟨_, SqT.of hq3⟩, fun D2 hD2 => ?_⟩
        refine loop_tup (xs := row3 ns i) (fun j σ H4 => ∃ (v' : Option V), σ = [v', some (.ref c)] ∧ Same H3 H4 ∧ H4 D2 = some (.lst (((g3 ns g i).take j).map V.int))) ⟨none, rfl, Same.new hD2, upd_same⟩ ?_ ?_ ?_
        · rintro j σ H4 _ ⟨v', rfl, sm4, h4⟩
          exact SqT.of (sm4 _ _ hq3)
        · rintro j x σ H4 hx ⟨v', rfl, sm4, h4⟩
          dsimp only [gName, tYes]
          rw [if_pos rfl]
          obtain ⟨z, hz, rfl, hg⟩ := g3_at (g := g) hx
          have hzk : z ∈ ks := hperm.mem_iff.mpr (hz (by omega))
          refine ⟨_, rfl, _, rfl, c, _, rfl, cnt_get (sm4 _ _ (sm _ _ hc2)) hzk, ?_⟩
          refine ⟨_, h4, ?_, _, rfl, Same.add sm4 hD2, ?_⟩
          · rw [List.length_map, List.length_take]
            exact small1000 (by have : (g3 ns g i).length = 3 := rfl; omega)
          · rw [upd_same, List.take_add_one, hg]
            simp
        · rintro σ H4 ⟨v', rfl, sm4, h4⟩
          have h4' : H4 D2 = some (.lst ((g3 ns g i).map V.int)) := h4
          refine ⟨_, sm4 _ _ h3, (by rw [List.length_map]; exact small1000 (by omega)), _, us ++ [D2], rfl, Same.add (sm.trans sm4) hD, ?_, ?_, ?_⟩
          · rw [upd_same]; simp
          · rw [List.length_append, List.length_singleton, hu3]
          · intro k u z
            by_cases hk : k < us.length
            · rw [List.getElem?_append_left hk] at z
              have gg := sm4 _ _ (hus k u z)
              rw [upd_ne (fun e => by rw [e, sm4 _ _ h3] at gg; exact g3_ref gg)]
              exact gg
            · have hk2 : k = us.length := by
                have := (List.getElem?_eq_some_iff.mp z).1
                rw [List.length_append, List.length_singleton] at this
                omega
              subst hk2
              have : u = D2 := by simpa using z.symm
              subst this
              rw [hu3, upd_ne (fun e => by rw [e, sm4 _ _ h3] at h4'; exact g3_ref h4')]
              exact h4'
      rintro σ H3 ⟨v, us, rfl, sm, h3, hu3, hus⟩
      rw [List.length_map] at hu3
      exact hnx _ _ ⟨D, us, rfl, s2.trans sm, h3, by omega, hus⟩
    rintro σ H3 ⟨D, us, rfl, sm, h3, hu3, hus⟩
    refine ⟨_, rfl, D, rfl, ⟨_, SqL.of h3⟩, fun D1 hD1 => ?_⟩
    refine loop_list (xs := us.map V.ref) (fun i σ H4 => ∃ (v : Option V), σ = [v] ∧ Same H3 H4 ∧ H4 D1 = some (.lst (((List.range i).map fun k => decide (V.int ((g3 ns g k).sum % 2) = V.int 1)).map V.bl))) ⟨none, rfl, Same.new hD1, upd_same⟩ ?_ ?_ ?_
    · rintro i σ H4 _ ⟨v, rfl, s4, _⟩
      exact SqL.of (s4 _ _ h3)
    · rintro i y σ H4 hy ⟨v, rfl, s4, h4⟩
      obtain ⟨u, hu0, rfl⟩ := map_some hy
      have hi : i < us.length := (List.getElem?_eq_some_iff.mp hu0).1
      dsimp only [gName, tYes]
      rw [if_pos rfl]
      refine ⟨_, rfl, u, _, rfl, SqL.of (s4 _ _ (hus i u hu0)), _, _, rfl, rfl, (by show (0 : Int) < 2; decide), rfl, ?_⟩
      refine ⟨_, h4, (by rw [List.length_map, List.length_map, List.length_range]; exact small1000 (by omega)), _, rfl, Same.add s4 hD1, ?_⟩
      rw [upd_same, List.range_succ, List.map_append, List.map_append]
      rfl
    rintro σ H4 ⟨v, rfl, s4, h4⟩
    rw [List.length_map] at h4
    refine ⟨D1, _, rfl, SqL.of h4, _, rfl, ?_⟩
    have : ((List.range us.length).map fun k => decide (V.int ((g3 ns g k).sum % 2) = V.int 1)).any id = true := by
      rw [List.any_map, List.any_eq_true]
      refine ⟨kO, List.mem_range.mpr (by omega), ?_⟩
      show decide (V.int ((g3 ns g kO).sum % 2) = V.int 1) = true
      rw [hOdd]
      exact decide_eq_true rfl
    rw [this]
    exact iteT ⟨by decide, k _ (s1.trans (sm.trans s4))⟩
theorem ok_look_countsE (T : Txt w K mg t) : FnOk P w K mg base (CXr P w) 4 t.f_look_counts t.d_look_counts ["tent", "counts"] (sp_cbad t.C_Tent t.E_NoCounts t.E_Uneven) := (ok_look_countsX T).or ((ok_look_countsR T).or (ok_look_countsU T))
theorem sc_look_family : FnScope ["tent", "counts"] ["tent", "counts"] (defScope s_look_family) := ⟨rfl, rfl, rfl, by decide +kernel, rfl, by decide +kernel, by decide +kernel⟩
theorem ok_look_familyE (T : Txt w K mg t) : FnOk P w K mg base (CXr P w) 5 t.f_look_family t.d_look_family ["tent", "counts"] (sp_cbad t.C_Tent t.E_NoCounts t.E_Uneven) := by
 refine T.p_look_family.F.okX sc_look_family (fun vs H Q E h => ?_) (fun cdv A outer s H vs Q E hr h => ?_)
 ·obtain ⟨p, c, rfl⟩ := h.len
  rfl
 ·obtain ⟨p, c, rfl⟩ := h.len
  exact ⟨_, (pssx_cons (psx_expr (pex_call (ok_look_countsE T) (hr.mono (by decide)) rfl T.p_look_counts.g T.p_look_counts.F.kp T.p_look_counts.b .nil (pa_cons (pv 0) (pa_cons (pv 1) pa_nil))))
   (pssx_of pss_never)), ⟨_, rfl, _, rfl, h⟩⟩
theorem sc_traced : FnScope ["tent", "counts", "numbers", "seen", "family", "start", "way", "at"] ["tent", "counts"] (defScope s_traced) := ⟨rfl, rfl, rfl, by decide +kernel, rfl, by decide +kernel, by decide +kernel⟩
theorem ok_tracedE (T : Txt w K mg t) : FnOk P w K mg base (CXr P w) 9 t.f_traced t.d_traced ["tent", "counts"] (sp_cbad t.C_Tent t.E_NoCounts t.E_Uneven) := by
 refine T.p_traced.F.okX sc_traced (fun vs H Q E h => ?_) (fun cdv A outer s H vs Q E hr h => ?_)
 ·obtain ⟨p, c, rfl⟩ := h.len
  rfl
 ·obtain ⟨p, c, rfl⟩ := h.len
  exact ⟨_, (pssx_cons (psx_expr (pex_call (ok_look_familyE T) (hr.mono (by decide)) rfl T.p_look_family.g T.p_look_family.F.kp T.p_look_family.b .nil (pa_cons (pv 0) (pa_cons (pv 1) pa_nil))))
   (pssx_of pss_never)), ⟨_, rfl, _, rfl, h⟩⟩
theorem sc_eased : FnScope ["tent", "counts", "moves", "seam"] ["tent", "counts"] (defScope s_eased) := ⟨rfl, rfl, rfl, by decide +kernel, rfl, by decide +kernel, by decide +kernel⟩
theorem ok_easedE (T : Txt w K mg t) : FnOk P w K mg base (CXr P w) 7 t.f_eased t.d_eased ["tent", "counts"] (sp_cbad t.C_Tent t.E_NoCounts t.E_Uneven) := by
 refine T.p_eased.F.okX sc_eased (fun vs H Q E h => ?_) (fun cdv A outer s H vs Q E hr h => ?_)
 ·obtain ⟨p, c, rfl⟩ := h.len
  rfl
 ·obtain ⟨p, c, rfl⟩ := h.len
  exact ⟨_, (pssx_cons (psx_expr (pex_call (ok_look_familyE T) (hr.mono (by decide)) rfl T.p_look_family.g T.p_look_family.F.kp T.p_look_family.b .nil (pa_cons (pv 0) (pa_cons (pv 1) pa_nil))))
   (pssx_of pss_never)), ⟨_, rfl, _, rfl, h⟩⟩
end
end KT
set_option maxHeartbeats 4000000
namespace KT
open PySem L2
inductive Tg | pl | th | co | un | wo | fr | ma | gr | lo | ri | se | wa
noncomputable def Tg.cls (t : Adr) : Tg → Addr
 | .pl => t.E_NoPlace | .th => t.E_NoThread | .co => t.E_NoCounts | .un => t.E_Uneven | .wo => t.E_NoWorths | .fr => t.E_NoFraction | .ma => t.E_TooMany | .gr => t.E_TooGreat | .lo => t.E_Locked | .ri => t.E_Rim | .se => t.E_NoSeam | .wa => t.E_NoWay
noncomputable def Tg.txt : Tg → Str
 | .pl => "no place" | .th => "no thread" | .co => "no counts" | .un => "uneven" | .wo => "no worths" | .fr => "no fraction" | .ma => "too many" | .gr => "too great" | .lo => "locked" | .ri => "rim" | .se => "no seam" | .wa => "no way"
noncomputable def seamT (ns : List Int) (x : Int) : Option Tg := if x ∈ keys ns ns.length then (if sortOf ns x = "rim" then some .ri else if sortOf ns x = "locked" then some .lo else none) else some .se
noncomputable def moveT (ns : List Int) (x : Int) (way : Str) : Option Tg := if way = "left" ∨ way = "right" then seamT ns x else some .wa
theorem seamT_rim {ns : List Int} {x : Int} (h : x ∈ keys ns ns.length) (e : sortOf ns x = "rim") : seamT ns x = some .ri := by unfold seamT; rw [if_pos h, if_pos e]
theorem seamT_lock {ns : List Int} {x : Int} (h : x ∈ keys ns ns.length) (e : sortOf ns x = "locked") : seamT ns x = some .lo := by unfold seamT; rw [if_pos h, if_neg (by rw [e]; decide), if_pos e]
theorem seamT_free {ns : List Int} {x : Int} (h : x ∈ keys ns ns.length) (e : sortOf ns x = "free") : seamT ns x = none := by unfold seamT; rw [if_pos h, if_neg (by rw [e]; decide), if_neg (by rw [e]; decide)]
theorem seamT_no {ns : List Int} {x : Int} (h : x ∉ keys ns ns.length) : seamT ns x = some .se := by unfold seamT; rw [if_neg h]
theorem free_pl {M : List (Option Nat)} {ns : List Int} (td : TD M ns) {x : Int} {a b : Nat} (e : pl ns ns.length x = [a, b]) (h3 : a / 3 ≠ b / 3) : x ∈ keys ns ns.length ∧ sortOf ns x = "free" := by
 have hm : a ∈ pl ns ns.length x := by rw [e]; exact List.mem_cons_self
 obtain ⟨hi, hx⟩ := pl_mem.mp hm
 refine ⟨keys_mem.mpr ⟨a, hi, hx⟩, ?_⟩
 unfold sortOf
 rw [e]
 exact if_neg h3
theorem wrong_of {t : Adr} {M : List (Option Nat)} {ns : List Int} {x : Int} {way : Str} {H : Hp} {E : XK} {G : Nat → Nat → Hp → Prop} (td : TD M ns) (h : ∀ H' g, Same H H' → moveT ns x way = some g → E (.ref (g.cls t)) none H')
  (hg : moveT ns x way = none → ∀ a b H', Same H H' → G a b H') : Wrong t.E_NoWay t.E_NoSeam t.E_Rim t.E_Locked M ns x way H E G := by
 refine ⟨fun z => h H .wa (Same.refl _) (by unfold moveT; rw [if_neg z]), fun z hx => h H .se (Same.refl _) ?_, fun z H' s' hx e => h H' .ri s' ?_, fun z H' s' hx e => h H' .lo s' ?_, fun z a b H' s' e _ _ h3 => hg ?_ a b H' s'⟩
 all_goals unfold moveT; rw [if_pos z]
 ·exact seamT_no hx
 ·exact seamT_rim hx e
 ·exact seamT_lock hx e
 ·obtain ⟨h1, h2⟩ := free_pl td e h3
  exact seamT_free h1 h2
noncomputable def sp_pulledE (t : Adr) : Sp := fun vs H Q E => ∃ (p a : Addr) (M : List (Option Nat)) (ns : List Int) (x : Int) (way : Str) (ws : List Int), vs = [.ref p, .int x, .str way, .ref a] ∧ TentAt t.C_Tent H p M ns ∧ TD M ns ∧ H a = some (.lst (ws.map V.int)) ∧ ws.length ≤ 1000 ∧ plainB M ws = false ∧ ∀ H', Same H H' → E (.ref (((moveT ns x way).getD .th).cls t)) none H'
noncomputable def sp_alongE (t : Adr) : Sp := fun vs H Q E => ∃ (p a : Addr) (mv : V) (M : List (Option Nat)) (ns : List Int) (ws : List Int), vs = [.ref p, mv, .ref a] ∧ TentAt t.C_Tent H p M ns ∧ TD M ns ∧ H a = some (.lst (ws.map V.int)) ∧ ws.length ≤ 1000 ∧ plainB M ws = false ∧ ∀ H', Same H H' → E (.ref (Tg.th.cls t)) none H'
noncomputable def sp_ledaE (t : Adr) : Sp := fun vs H Q E => ∃ (p c : Addr) (mv : V), vs = [.ref p, mv, .ref c] ∧ sp_cbad t.C_Tent t.E_NoCounts t.E_Uneven [.ref p, .ref c] H Q E
noncomputable def sp_ledE (t : Adr) : Sp := fun vs H Q E => ∃ (p c : Addr) (M : List (Option Nat)) (ns : List Int) (x : Int), vs = [.ref p, .ref c, .int x] ∧ TentAt t.C_Tent H p M ns ∧ TD M ns ∧ ns.length < 64 ∧ H c = some (.dK []) ∧ ∀ H', Same H H' → E (.ref (((seamT ns x).getD .co).cls t)) none H'
noncomputable def sp_lowestE (t : Adr) : Sp := fun vs H Q E => ∃ (p c : Addr) (M : List (Option Nat)) (ns : List Int) (x : Int), vs = [.ref p, .ref c] ∧ TentAt t.C_Tent H p M ns ∧ TD M ns ∧ ns.length < 64 ∧ H c = some (.dK []) ∧ x ∈ keys ns ns.length ∧ sortOf ns x ≠ "rim" ∧ ∀ H', Same H H' → E (.ref t.E_NoWorths) none H'
noncomputable def sp_stretchedE (t : Adr) : Sp := fun vs H Q E => ∃ (p c : Addr) (M : List (Option Nat)) (ns : List Int) (x : Int), vs = [.ref p, .ref c, .int x] ∧ TentAt t.C_Tent H p M ns ∧ TD M ns ∧ ns.length < 64 ∧ H c = some (.dK []) ∧ ∀ H', Same H H' → E (.ref (((seamT ns x).getD .wo).cls t)) none H'
noncomputable def sp_layE (t : Adr) : Sp := fun vs H Q E => ∃ (p dx be sc st un dxs te th po a : Addr) (wo : V) (x : Str) (M : List (Option Nat)) (ns ws : List Int), vs = [.ref p, .str x, .ref a] ∧ H p = some (.ins t.C_Hall dx (hflds be sc st un)) ∧ H sc = some (.ins t.C_Scene dxs (sflds (.ref te) (.ref th) (.ref po) wo)) ∧ H th = some (.dK []) ∧ H po = some (.dK []) ∧ TentAt t.C_Tent H te M ns ∧ TD M ns ∧ Asc x ∧ x.length ≤ 900 ∧ isN x = true ∧ H a = some (.lst (ws.map V.int)) ∧ ws.length ≤ 1000 ∧ plainB M ws = false ∧ ∀ H', Same H H' → E (.ref t.E_NoThread) none H'
noncomputable def weighT (ns : List Int) (x : Int) (low : Bool) : Tg := if x ∈ keys ns ns.length then (if sortOf ns x = "rim" then .ri else if low = true then .fr else .gr) else .se
noncomputable def sp_look_parts (EG : Addr) : Sp := fun vs H Q E => ∃ (q : Addr) (v : Nat × Nat), vs = [.ref q] ∧ H q = some (tp v) ∧ (v.1 ≤ 10 ^ 60 → v.2 ≤ 10 ^ 60 → Q .non H) ∧ (10 ^ 60 < v.1 ∨ 10 ^ 60 < v.2 → E (.ref EG) none H)
noncomputable def sp_weighE (t : Adr) : Sp := fun vs H Q E => ∃ (p dx be sc st un dxs te : Addr) (th po wo : V) (M : List (Option Nat)) (ns : List Int) (x a b : Int), vs = [.ref p, .int x, .int a, .int b] ∧ H p = some (.ins t.C_Hall dx (hflds be sc st un)) ∧ H sc = some (.ins t.C_Scene dxs (sflds (.ref te) th po wo)) ∧ TentAt t.C_Tent H te M ns ∧ TD M ns ∧ (a < 1 ∨ b < 1 ∨ (a = 10 ^ 61 ∧ b = 1)) ∧
 ∀ H', Same H H' → E (.ref ((weighT ns x (decide (a < 1 ∨ b < 1))).cls t)) none H'
section
variable {P : Program} {w : World} {K : PySem.W.Frag} {mg : Str → Option Value} {base : Heap} {t : Adr}
theorem sc_pulled : FnScope ["tent", "seam", "way", "word", "goals", "own", "kept", "told", "ahead", "following", "entry"] ["tent", "seam", "way", "word"] (defScope s_pulled) := ⟨rfl, rfl, rfl, by decide +kernel, rfl, by decide +kernel, by decide +kernel⟩
theorem ok_pulledE (T : Txt w K mg t) : FnOk P w K mg base (CXr P w) 7 t.f_pulled t.d_pulled ["tent", "seam", "way", "word"] (sp_pulledE t) := by
 refine T.p_pulled.F.okX sc_pulled (fun vs H Q E h => ?_) (fun cdv A outer s H vs Q E hr h => ?_)
 ·obtain ⟨p, a, M, ns, x, way, ws, rfl, _⟩ := h
  rfl
 ·obtain ⟨p, a, M, ns, x, way, ws, rfl, ta, td, ha, hl, hb, k⟩ := h
  refine ⟨_, (pssx_cons (psx_set (i := 4) sc_pulled.nd rfl (Or.inl rfl) (pex_call (ok_shifts T) (hr.mono (by decide)) rfl T.p_shifts.g T.p_shifts.F.kp T.p_shifts.b .nil (pa_cons (pv 0) (pa_cons (pv 1) (pa_cons (pv 2) pa_nil)))))
   (pssx_cons (psx_expr (pex_call (ok_look_thread T) (hr.mono (by decide)) rfl T.p_look_thread.g T.p_look_thread.F.kp T.p_look_thread.b .nil (pa_cons (pv 0) (pa_cons (pv 3) pa_nil))))
   (pssx_of pss_never))), ?_⟩
  refine ⟨_, rfl, _, rfl, _, rfl, p, M, ns, x, way, rfl, ta, td, wrong_of td (fun H' g s' e => by have := k H' s'; rw [e] at this; exact this) (fun e a' b' H' s' l _ hl' => ?_)⟩
  refine ⟨_, rfl, _, rfl, p, a, M, ns, ws, rfl, ta.same s', td.len.symm, s' _ _ ha, by omega, fun H2 s2 => ⟨fun z => absurd z (by rw [hb]; decide), fun _ => ?_⟩⟩
  have := k H2 (s'.trans s2)
  rw [e] at this
  exact this
theorem sc_pulled_along : FnScope ["tent", "moves", "word", "seam", "way"] ["tent", "moves", "word"] (defScope s_pulled_along) := ⟨rfl, rfl, rfl, by decide +kernel, rfl, by decide +kernel, by decide +kernel⟩
theorem ok_pulled_alongE (T : Txt w K mg t) : FnOk P w K mg base (CXr P w) 8 t.f_pulled_along t.d_pulled_along ["tent", "moves", "word"] (sp_alongE t) := by
 refine T.p_pulled_along.F.okX sc_pulled_along (fun vs H Q E h => ?_) (fun cdv A outer s H vs Q E hr h => ?_)
 ·obtain ⟨p, a, mv, M, ns, ws, rfl, _⟩ := h
  rfl
 ·obtain ⟨p, a, mv, M, ns, ws, rfl, ta, td, ha, hl, hb, k⟩ := h
  refine ⟨_, (pssx_cons (psx_expr (pex_call (ok_look_thread T) (hr.mono (by decide)) rfl T.p_look_thread.g T.p_look_thread.F.kp T.p_look_thread.b .nil (pa_cons (pv 0) (pa_cons (pv 2) pa_nil))))
   (pssx_of pss_never)), ?_⟩
  exact ⟨_, rfl, _, rfl, p, a, M, ns, ws, rfl, ta, td.len.symm, ha, by omega, fun H2 s2 => ⟨fun z => absurd z (by rw [hb]; decide), fun _ => k H2 s2⟩⟩
theorem sc_led_along : FnScope ["tent", "moves", "counts", "seam", "way", "behind"] ["tent", "moves", "counts"] (defScope s_led_along) := ⟨rfl, rfl, rfl, by decide +kernel, rfl, by decide +kernel, by decide +kernel⟩
theorem ok_led_alongE (T : Txt w K mg t) : FnOk P w K mg base (CXr P w) 7 t.f_led_along t.d_led_along ["tent", "moves", "counts"] (sp_ledaE t) := by
 refine T.p_led_along.F.okX sc_led_along (fun vs H Q E h => ?_) (fun cdv A outer s H vs Q E hr h => ?_)
 ·obtain ⟨p, c, mv, rfl, _⟩ := h
  rfl
 ·obtain ⟨p, c, mv, rfl, h⟩ := h
  exact ⟨_, (pssx_cons (psx_expr (pex_call (ok_look_countsE T) (hr.mono (by decide)) rfl T.p_look_counts.g T.p_look_counts.F.kp T.p_look_counts.b .nil (pa_cons (pv 0) (pa_cons (pv 2) pa_nil))))
   (pssx_of pss_never)), ⟨_, rfl, _, rfl, h⟩⟩
theorem nil_bad {M : List (Option Nat)} {ns : List Int} (td : TD M ns) : ¬ ([] : List Int).Perm (keys ns ns.length) := fun z => by
 obtain ⟨n, h1, _, h2⟩ := td.n
 have h0 := key_at (ns := ns) (i := 0) (by have := td.len; omega)
 have := z.mem_iff.mpr h0
 cases this
theorem sc_led : FnScope ["tent", "counts", "seam"] ["tent", "counts", "seam"] (defScope s_led) := ⟨rfl, rfl, rfl, by decide +kernel, rfl, by decide +kernel, by decide +kernel⟩
theorem ok_ledE (T : Txt w K mg t) : FnOk P w K mg base (CXr P w) 7 t.f_led t.d_led ["tent", "counts", "seam"] (sp_ledE t) := by
 refine T.p_led.F.okX sc_led (fun vs H Q E h => ?_) (fun cdv A outer s H vs Q E hr h => ?_)
 ·obtain ⟨p, c, M, ns, x, rfl, _⟩ := h
  rfl
 ·obtain ⟨p, c, M, ns, x, rfl, ta, td, h64, hc, k⟩ := h
  refine ⟨_, (pssx_cons (psx_expr (pex_call (ok_look_free T) (hr.mono (by decide)) rfl T.p_look_free.g T.p_look_free.F.kp T.p_look_free.b .nil (pa_cons (pv 0) (pa_cons (pv 2) pa_nil))))
   (pssx_cons (psx_expr (pex_call (ok_look_countsE T) (hr.mono (by decide)) rfl T.p_look_counts.g T.p_look_counts.F.kp T.p_look_counts.b .nil (pa_cons (pv 0) (pa_cons (pv 1) pa_nil))))
   (pssx_of pss_never))), ?_⟩
  refine ⟨_, rfl, _, rfl, p, M, ns, x, rfl, ta, td, fun hx H' s' => ⟨fun e => ?_, fun e => ?_, fun e => ?_⟩, fun hx => ?_⟩
  ·have := k H' s'; rw [seamT_rim hx e] at this; exact this
  ·have := k H' s'; rw [seamT_lock hx e] at this; exact this
  ·refine ⟨_, rfl, _, rfl, .inl ⟨p, c, M, ns, [], [], rfl, ta.same s', h64, s' _ _ hc, rfl, by decide, nil_bad td, fun H2 s2 => ?_⟩⟩
   have := k H2 (s'.trans s2); rw [seamT_free hx e] at this; exact this
  ·have := k H (Same.refl _); rw [seamT_no hx] at this; exact this
theorem sc_lowest_worths : FnScope ["tent", "worths"] ["tent", "worths"] (defScope s_lowest_worths) := ⟨rfl, rfl, rfl, by decide +kernel, rfl, by decide +kernel, by decide +kernel⟩
theorem ok_lowest_worthsE (T : Txt w K mg t) : FnOk P w K mg base (CXr P w) 4 t.f_lowest_worths t.d_lowest_worths ["tent", "worths"] (sp_lowestE t) := by
 refine T.p_lowest_worths.F.okX sc_lowest_worths (fun vs H Q E h => ?_) (fun cdv A outer s H vs Q E hr h => ?_)
 ·obtain ⟨p, c, M, ns, x, rfl, _⟩ := h
  rfl
 ·obtain ⟨p, c, M, ns, x, rfl, ta, td, h64, hc, hx, hs, k⟩ := h
  refine ⟨_, (pssx_cons (psx_if (pt_cmpR (op_neL hr.units) (pe_callB (call_sortedD rfl) (by rfl) T.n_sorted PyProof.Rows.boot_sorted (pa_cons (pv 1) pa_nil)) (pe_call (ok_sewn_seams T) (hr.mono (by decide)) rfl T.p_sewn_seams.g T.p_sewn_seams.F.kp T.p_sewn_seams.b .nil passR (pa_cons (pv 0) pa_nil)) (nomark _)) (pssx_one (psx_raise T.x_NoWorths FBV rfl T.gx_NoWorths rfl (pa_cons pe_str pa_nil))) pssx_nil)
   (pssx_of pss_never)), ?_⟩
  refine ⟨_, rfl, c, _, [], rfl, .inl hc, rfl, by decide, fun l1 out1 hl1 pm1 st1 => ?_⟩
  have s1 : Same H (upd H l1 (.lst (out1.map V.int))) := Same.new hl1
  refine ⟨_, rfl, p, M, ns, rfl, ta.same s1, td, h64, fun l2 H2 out s2 hl2 h2 _ sw => ?_⟩
  refine ⟨l1, l2, out1, out, rfl, rfl, SqL.of (s2 _ _ upd_same), SqL.of h2, _, rfl, ?_⟩
  have e0 := List.perm_nil.mp pm1
  have hne : ¬ out1 = out := fun z => by
   have : x ∈ out := (sw.mem x).mpr ((sewn_iff td hx).mpr hs)
   rw [← z, e0] at this
   cases this
  rw [decide_eq_false hne]
  exact iteT ⟨by decide, k _ (s1.trans s2)⟩
theorem sc_stretched : FnScope ["tent", "worths", "seam", "behind", "top", "bottom", "more", "less", "place", "factor", "name"] ["tent", "worths", "seam"] (defScope s_stretched) := ⟨rfl, rfl, rfl, by decide +kernel, rfl, by decide +kernel, by decide +kernel⟩
theorem ok_stretchedE (T : Txt w K mg t) : FnOk P w K mg base (CXr P w) 5 t.f_stretched t.d_stretched ["tent", "worths", "seam"] (sp_stretchedE t) := by
 refine T.p_stretched.F.okX sc_stretched (fun vs H Q E h => ?_) (fun cdv A outer s H vs Q E hr h => ?_)
 ·obtain ⟨p, c, M, ns, x, rfl, _⟩ := h
  rfl
 ·obtain ⟨p, c, M, ns, x, rfl, ta, td, h64, hc, k⟩ := h
  refine ⟨_, (pssx_cons (psx_expr (pex_call (ok_look_free T) (hr.mono (by decide)) rfl T.p_look_free.g T.p_look_free.F.kp T.p_look_free.b .nil (pa_cons (pv 0) (pa_cons (pv 2) pa_nil))))
   (pssx_cons (psx_set (i := 3) sc_stretched.nd rfl (Or.inl rfl) (pex_call (ok_lowest_worthsE T) (hr.mono (by decide)) rfl T.p_lowest_worths.g T.p_lowest_worths.F.kp T.p_lowest_worths.b .nil (pa_cons (pv 0) (pa_cons (pv 1) pa_nil))))
   (pssx_of pss_never))), ?_⟩
  refine ⟨_, rfl, _, rfl, p, M, ns, x, rfl, ta, td, fun hx H' s' => ⟨fun e => ?_, fun e => ?_, fun e => ?_⟩, fun hx => ?_⟩
  ·have := k H' s'; rw [seamT_rim hx e] at this; exact this
  ·have := k H' s'; rw [seamT_lock hx e] at this; exact this
  ·refine ⟨_, rfl, _, rfl, p, c, M, ns, x, rfl, ta.same s', td, h64, s' _ _ hc, hx, by rw [e]; decide, fun H2 s2 => ?_⟩
   have := k H2 (s'.trans s2); rw [seamT_free hx e] at this; exact this
  ·have := k H (Same.refl _); rw [seamT_no hx] at this; exact this
theorem sc_Hall_lay : FnScope ["self", "name", "word", "now", "threads"] ["self", "name", "word"] (defScope s_Hall_lay) := ⟨rfl, rfl, rfl, by decide +kernel, rfl, by decide +kernel, by decide +kernel⟩
theorem ok_Hall_layE (T : Txt w K mg t) : FnOk P w K mg base (CXr P w) 7 t.f_Hall_lay t.d_Hall_lay ["self", "name", "word"] (sp_layE t) := by
 refine T.p_Hall_lay.F.okX sc_Hall_lay (fun vs H Q E h => ?_) (fun cdv A outer s H vs Q E hr h => ?_)
 ·obtain ⟨p, dx, be, sc, st, un, dxs, te, th, po, a, wo, x, M, ns, ws, rfl, _⟩ := h
  rfl
 ·obtain ⟨p, dx, be, sc, st, un, dxs, te, th, po, a, wo, x, M, ns, ws, rfl, hp, hsc, hth, hpo, ta, td, hx, hxl, hN, ha, hl, hb, k⟩ := h
  refine ⟨_, (pssx_cons (psx_of (ps_set (i := 3) sc_Hall_lay.nd rfl (Or.inl rfl) (pe_fld (pv 0) rfl)))
   (pssx_cons (psx_expr (pex_call (ok_look_new_name T) (hr.mono (by decide)) rfl T.p_look_new_name.g T.p_look_new_name.F.kp T.p_look_new_name.b .nil (pa_cons (pv 3) (pa_cons (pv 1) pa_nil))))
   (pssx_cons (psx_expr (pex_call (ok_look_thread T) (hr.mono (by decide)) rfl T.p_look_thread.g T.p_look_thread.F.kp T.p_look_thread.b .nil (pa_cons (pe_fld (pv 3) rfl) (pa_cons (pv 2) pa_nil))))
   (pssx_of pss_never)))), ?_⟩
  refine ⟨_, rfl, p, _, dx, _, .ref sc, rfl, hp, T.cl_Hall, T.a_Hall_scene, rfl, ?_⟩
  refine ⟨_, rfl, _, rfl, sc, dxs, th, po, _, _, x, [], [], rfl, hsc, hth, hpo, hx.all, hxl, fun e => absurd e (by rw [hN]; decide), fun _ e => absurd e Bool.false_ne_true, fun _ _ H1 s1 => ?_⟩
  exact ⟨_, rfl, sc, _, dxs, _, .ref te, rfl, s1 _ _ hsc, T.cl_Scene, T.a_Scene_tent, rfl, _, rfl, te, a, M, ns, ws, rfl, ta.same s1, td.len.symm, s1 _ _ ha, by omega, fun H2 s2 => ⟨fun z => absurd z (by rw [hb]; decide), fun _ => k H2 (s1.trans s2)⟩⟩
theorem sc_look_parts : FnScope ["parts"] ["parts"] (defScope s_look_parts) := ⟨rfl, rfl, rfl, by decide +kernel, rfl, by decide +kernel, by decide +kernel⟩
theorem ok_look_parts (T : Txt w K mg t) : FnOk P w K mg base (CXr P w) 1 t.f_look_parts t.d_look_parts ["parts"] (sp_look_parts t.E_TooGreat) := by
 refine T.p_look_parts.F.okX sc_look_parts (fun vs H Q E h => ?_) (fun cdv A outer s H vs Q E hr h => ?_)
 ·obtain ⟨q, v, rfl, _⟩ := h
  rfl
 ·obtain ⟨q, v, rfl, hq, k1, k2⟩ := h
  refine ⟨_, (pssx_one (psx_if (pt_cmpR op_gt (pe_callB (call_maxT rfl) (by rfl) T.n_max PyProof.Rows.boot_max (pa_cons (pv 0) pa_nil)) (pe_glob (v := .int 1000000000000000000000000000000000000000000000000000000000000) rfl T.c_GREATEST_PART ⟨_, rfl⟩) (nomark _)) (pssx_one (psx_raise T.x_TooGreat FBV rfl T.gx_TooGreat rfl (pa_cons pe_str pa_nil))) pssx_nil)), ?_⟩
  refine ⟨_, rfl, q, [(v.1 : Int), (v.2 : Int)], rfl, SqT.of hq, (by show 0 < 2; decide), fun m hm hmx => ?_⟩
  refine ⟨_, _, rfl, rfl, _, rfl, ?_⟩
  have big : (1000000000000000000000000000000000000000000000000000000000000 : Nat) = 10 ^ 60 := by decide +kernel
  rw [← big] at k1 k2
  have h1 := hmx (v.1 : Int) List.mem_cons_self
  have h2 := hmx (v.2 : Int) (List.mem_cons_of_mem _ List.mem_cons_self)
  by_cases c : (1000000000000000000000000000000000000000000000000000000000000 : Int) < m
  ·rw [decide_eq_true c]
   refine iteT ⟨by decide, k2 ?_⟩
   rcases List.mem_cons.mp hm with rfl | hm
   ·exact .inl (by omega)
   ·rw [List.mem_singleton.mp hm] at c; exact .inr (by omega)
  ·rw [decide_eq_false c]
   exact iteF (k1 (by omega) (by omega))
theorem sc_Hall_weigh : FnScope ["self", "seam", "top", "bottom", "now", "parts", "worths", "text"] ["self", "seam", "top", "bottom"] (defScope s_Hall_weigh) := ⟨rfl, rfl, rfl, by decide +kernel, rfl, by decide +kernel, by decide +kernel⟩
theorem ok_Hall_weighE (T : Txt w K mg t) : FnOk P w K mg base (CXr P w) 3 t.f_Hall_weigh t.d_Hall_weigh ["self", "seam", "top", "bottom"] (sp_weighE t) := by
 refine T.p_Hall_weigh.F.okX sc_Hall_weigh (fun vs H Q E h => ?_) (fun cdv A outer s H vs Q E hr h => ?_)
 ·obtain ⟨p, dx, be, sc, st, un, dxs, te, th, po, wo, M, ns, x, a, b, rfl, _⟩ := h
  rfl
 ·obtain ⟨p, dx, be, sc, st, un, dxs, te, th, po, wo, M, ns, x, a, b, rfl, hp, hsc, ta, td, hab, k⟩ := h
  refine ⟨_, (pssx_cons (psx_of (ps_set (i := 4) sc_Hall_weigh.nd rfl (Or.inl rfl) (pe_fld (pv 0) rfl)))
   (pssx_cons (psx_ifC (pex_meth (pe_fld (pv 4) rfl) T.cl_Tent T.p_Tent_sort_of.m (ok_Tent_sort_of T) (hr.mono (by decide)) T.p_Tent_sort_of.b .nil (pa_cons (pv 1) pa_nil)) pe_str op_eq (nomark _) (pssx_one (psx_raise T.x_Rim FBV rfl T.gx_Rim rfl (pa_cons pe_str pa_nil))) pssx_nil)
   (pssx_cons (psx_set (i := 5) sc_Hall_weigh.nd rfl (Or.inl rfl) (pex_call (ok_fraction T) (hr.mono (by decide)) rfl T.p_fraction.g T.p_fraction.F.kp T.p_fraction.b .nil (pa_cons (pv 2) (pa_cons (pv 3) pa_nil))))
   (pssx_cons (psx_expr (pex_call (ok_look_parts T) (hr.mono (by decide)) rfl T.p_look_parts.g T.p_look_parts.F.kp T.p_look_parts.b .nil (pa_cons (pv 5) pa_nil)))
   (pssx_of pss_never))))), ?_⟩
  unfold weighT at k
  refine ⟨_, rfl, p, _, dx, _, .ref sc, rfl, hp, T.cl_Hall, T.a_Hall_scene, rfl, ?_⟩
  obtain ⟨dt, cl, na, sp, mt, o, f, B⟩ := id ta
  refine ⟨_, rfl, sc, _, dxs, _, .ref te, rfl, hsc, T.cl_Scene, T.a_Scene_tent, rfl, te, dt, _, rfl, B.ins, fl_none _ _ _ _, _, rfl, te, M, ns, x, rfl, ta, td, fun hx H' s' => ?_, fun hx => ?_⟩
  ·refine ⟨rfl, _, rfl, ?_⟩
   by_cases e : sortOf ns x = "rim"
   ·rw [e, decide_eq_true rfl]
    refine iteT ⟨by decide, ?_⟩
    have := k H' s'
    rw [if_pos hx, if_pos e] at this
    exact this
   ·rw [str_ne e]
    refine iteF ?_
    rw [if_pos hx, if_neg e] at k
    refine ⟨_, rfl, _, rfl, a, b, rfl, fun m n ea eb h1 h2 => ?_, fun hz => ?_⟩
    ·subst ea eb
     have b61 : ((10 ^ 61 : Nat) : Int) = 10 ^ 61 := by decide +kernel
     have hab' : m = 10 ^ 61 ∧ n = 1 := by
      rcases hab with z | z | ⟨z1, z2⟩
      ·omega
      ·omega
      ·exact ⟨by omega, by omega⟩
     obtain ⟨rfl, rfl⟩ := hab'
     have hlo : lowN (10 ^ 61) 1 = (10 ^ 61, 1) := by unfold lowN; rw [Nat.gcd_one_right, Nat.div_one, Nat.div_one]
     refine ⟨okD_of (by decide +kernel) (by decide +kernel), fun q hq => ?_⟩
     rw [hlo]
     refine ⟨_, rfl, q, (10 ^ 61, 1), rfl, upd_same, fun z => absurd z (by decide +kernel), fun _ => ?_⟩
     have := k _ (s'.trans (Same.new (o := tp (10 ^ 61, 1)) hq))
     rw [if_neg (by rw [decide_eq_true_eq]; omega)] at this
     exact this
    ·have := k H' s'
     rw [if_pos (decide_eq_true hz)] at this
     exact this
  ·have := k H (Same.refl _)
   rw [if_neg hx] at this
   exact this
end
end KT
set_option maxHeartbeats 4000000
namespace KT
open PySem L2
theorem isN_a : isN "a" = true := by decide +kernel
theorem asc_a : Asc "a" := by show ∀ c ∈ ("a" : Str).cps.toList, c < 128; decide +kernel
noncomputable def sumT (M : List (Option Nat)) : Tg := if none ∈ M then .co else .un
noncomputable def dueT (M : List (Option Nat)) (ns : List Int) (x : Int) (way : Str) : Nat → Tg
 | 0 => (moveT ns x way).getD .pl
 | 1 => (moveT ns x way).getD .th
 | 2 => .th
 | 3 => .co
 | 4 => (seamT ns x).getD .co
 | 5 => (seamT ns x).getD .wo
 | 6 => sumT M
 | 7 => sumT M
 | 8 => .th
 | 9 => weighT ns x (decide (way.length % 2 = 1))
 | _ => weighT ns x true
theorem plain_bad {M : List (Option Nat)} {ws : List Int} {i : Int} (hi : i ∈ ws) (hb : crossB M i = false) : plainB M ws = false := by
 have : (ws.map (crossB M)).all id = false := by
  rw [List.all_eq_false]
  exact ⟨_, List.mem_map.mpr ⟨i, hi, rfl⟩, by rw [hb]; decide⟩
 unfold plainB
 rw [this, Bool.false_and, Bool.and_false]
theorem cross_out {M : List (Option Nat)} {ns : List Int} (h : ns.length = M.length) : crossB M (ns.length : Int) = false := by
 unfold crossB
 rw [decide_eq_false (by omega), Bool.false_and]
theorem rim_at {M : List (Option Nat)} {ns : List Int} (td : TD M ns) (h : none ∈ M) : ∃ x ∈ keys ns ns.length, sortOf ns x = "rim" := by
 obtain ⟨i, hi, e⟩ := List.mem_iff_getElem.mp h
 have em : M[i]? = some none := by rw [List.getElem?_eq_getElem hi, e]
 have hl := td.len
 obtain ⟨x, hx⟩ : ∃ x, ns[i]? = some x := ⟨_, List.getElem?_eq_getElem (by omega)⟩
 have hk : x ∈ keys ns ns.length := keys_mem.mpr ⟨i, by omega, hx⟩
 have hpl : i ∈ pl ns ns.length x := pl_mem.mpr ⟨by omega, hx⟩
 refine ⟨x, hk, ?_⟩
 rcases sort_cases td hk with ⟨e, _⟩ | ⟨_, a, b, _, e, ma, _⟩ | ⟨_, a, b, _, e, ma, _⟩
 ·exact e
 all_goals
  rw [e] at hpl
  simp only [List.mem_cons, List.not_mem_nil, or_false] at hpl
  rcases hpl with rfl | rfl
  ·rw [ma] at em; cases em
  ·rw [(td.inv _ _ ma).1] at em; cases em
noncomputable def okWay (way : Str) : Prop := way.length ≤ 100
noncomputable def sp_go12 (t : Adr) : Sp := fun vs H Q E => ∃ (d : Nat) (p c : Addr) (M : List (Option Nat)) (ns : List Int) (x : Int) (way : Str), vs = [.int d, .ref p, .int x, .str way, .ref c] ∧ d ≤ 10 ∧ TentAt t.C_Tent H p M ns ∧ TD M ns ∧ ns.length < 64 ∧ okWay way ∧ H c = some (.dK (dI (keys ns ns.length) fun _ => 1001)) ∧ ∀ H', OthC c H H' → E (.ref ((dueT M ns x way d).cls t)) none H'
noncomputable def sp_told12 (t : Adr) : Sp := fun vs H Q E => ∃ (d : Nat) (p c : Addr) (M : List (Option Nat)) (ns : List Int) (x : Int) (way : Str), vs = [.int d, .ref p, .int x, .str way, .ref c] ∧ d ≤ 10 ∧ TentAt t.C_Tent H p M ns ∧ TD M ns ∧ ns.length < 64 ∧ okWay way ∧ H c = some (.dK (dI (keys ns ns.length) fun _ => 1001)) ∧ ∀ H', OthC c H H' → Q (.str (dueT M ns x way d).txt) H'
theorem cbad12 {t : Adr} {M : List (Option Nat)} {ns : List Int} {p c : Addr} {H : Hp} {Q : VK} {E : XK} (ta : TentAt t.C_Tent H p M ns) (td : TD M ns) (h64 : ns.length < 64) (hc : H c = some (.dK (dI (keys ns ns.length) fun _ => 1001))) (k : ∀ H', OthC c H H' → E (.ref ((sumT M).cls t)) none H') : sp_cbad t.C_Tent t.E_NoCounts t.E_Uneven [.ref p, .ref c] H Q E := by
 unfold sumT at k
 by_cases h : none ∈ M
 ·rw [if_pos h] at k
  exact .inr (.inl ⟨p, c, M, ns, _, rfl, ta, td, h64, ⟨_, hc, List.Perm.refl _⟩, fun _ _ => by decide, rim_at td h, k⟩)
 ·rw [if_neg h] at k
  obtain ⟨n, n1, _, hn⟩ := td.n
  refine .inr (.inr ⟨p, c, M, ns, _, rfl, ta, td, h64, ⟨_, hc, List.Perm.refl _⟩, ⟨fun _ _ => by decide, fun i x hi _ => absurd (List.mem_of_getElem? hi) h⟩, ⟨0, by have := td.len; omega, rfl⟩, fun H' s' => k H' fun b u _ e => s' b u e⟩)
theorem hall_at {t : Adr} {H0 : Hp} {h dh lr : Addr} {ns : List Int} {ts : List Addr} (r2 : ns.length = 3 * ts.length) (r3 : ∀ (k : Nat) (q : Addr), ts[k]? = some q → H0 q = some (.tup (row3 ns k))) (hlr : H0 lr = none) (hh : (upd H0 lr (.lst (ts.map V.ref))) h = none) (hdh : (upd H0 lr (.lst (ts.map V.ref))) dh = none) : RowsAt (upd (upd (upd H0 lr (.lst (ts.map V.ref))) dh (.own h)) h (.ins t.C_Hall dh [])) lr ns ∧ Same H0 (upd (upd (upd H0 lr (.lst (ts.map V.ref))) dh (.own h)) h (.ins t.C_Hall dh [])) := by
 have s1 : Same H0 (upd H0 lr (.lst (ts.map V.ref))) := Same.new hlr
 have s2 : Same (upd H0 lr (.lst (ts.map V.ref))) (upd (upd (upd H0 lr (.lst (ts.map V.ref))) dh (.own h)) h (.ins t.C_Hall dh [])) := Same.add (Same.new hdh) hh
 exact ⟨⟨ts, s2 _ _ upd_same, r2, fun k q e => s2 _ _ (s1 _ _ (r3 k q e))⟩, s1.trans s2⟩
section
variable {P : Program} {w : World} {K : PySem.W.Frag} {mg : Str → Option Value} {base : Heap} {t : Adr}
theorem sc_l_go : FnScope ["_law_door", "_law_tent_here", "_law_seam_here", "_law_way", "_law_counts", "_law_outside"] ["_law_door", "_law_tent_here", "_law_seam_here", "_law_way", "_law_counts"] (defScope s_l_go) := ⟨rfl, rfl, rfl, by decide +kernel, rfl, by decide +kernel, by decide +kernel⟩
theorem ok_l_go (T : Txt w K mg t) : FnOk P w K mg base (CXr P w) 10 t.f_l_go t.d_l_go ["_law_door", "_law_tent_here", "_law_seam_here", "_law_way", "_law_counts"] (sp_go12 t) := by
 refine T.p_l_go.F.okX sc_l_go (fun vs H Q E h => ?_) (fun cdv A outer s H vs Q E hr h => ?_)
 ·obtain ⟨d, p, c, M, ns, x, way, rfl, _⟩ := h
  rfl
 ·obtain ⟨d, p, c, M, ns, x, way, rfl, hd, ta, td, h64, hw, hc, k⟩ := h
  refine ⟨_, (pssx_cons (psx_of (ps_set (i := 5) sc_l_go.nd rfl (Or.inl rfl) (pe_op op_mul pe_int (pe_meth0 (pv 1) T.cl_Tent T.p_Tent_size.m (ok_Tent_size T) (hr.mono (by decide)) T.p_Tent_size.b .nil passR))))
   (pssx_one (psx_if (pt_cmpR op_eq (pv 0) pe_int (nomark _)) (pssx_one (psx_expr (pex_call (ok_moved T) (hr.mono (by decide)) rfl T.p_moved.g T.p_moved.F.kp T.p_moved.b .nil (pa_cons (pv 1) (pa_cons (pv 2) (pa_cons (pv 3) (pa_cons (pv 5) pa_nil))))))) (pssx_one (psx_if (pt_cmpR op_eq (pv 0) pe_int (nomark _)) (pssx_one (psx_expr (pex_call (ok_pulledE T) (hr.mono (by decide)) rfl T.p_pulled.g T.p_pulled.F.kp T.p_pulled.b .nil (pa_cons (pv 1) (pa_cons (pv 2) (pa_cons (pv 3) (pa_cons (pe_lst (pa_cons (pv 5) pa_nil)) pa_nil))))))) (pssx_one (psx_if (pt_cmpR op_eq (pv 0) pe_int (nomark _)) (pssx_one (psx_expr (pex_call (ok_pulled_alongE T) (hr.mono (by decide)) rfl T.p_pulled_along.g T.p_pulled_along.F.kp T.p_pulled_along.b .nil (pa_cons (pv 1) (pa_cons (pe_lst (pa_cons (pe_tup (pa_cons (pv 2) (pa_cons (pv 3) pa_nil))) pa_nil)) (pa_cons (pe_lst (pa_cons (pv 5) pa_nil)) pa_nil)))))) (pssx_one (psx_if (pt_cmpR op_eq (pv 0) pe_int (nomark _)) (pssx_one (psx_expr (pex_call (ok_led_alongE T) (hr.mono (by decide)) rfl T.p_led_along.g T.p_led_along.F.kp T.p_led_along.b .nil (pa_cons (pv 1) (pa_cons (pe_lst (pa_cons (pe_tup (pa_cons (pv 2) (pa_cons (pv 3) pa_nil))) pa_nil)) (pa_cons pe_dnewK pa_nil)))))) (pssx_one (psx_if (pt_cmpR op_eq (pv 0) pe_int (nomark _)) (pssx_one (psx_expr (pex_call (ok_ledE T) (hr.mono (by decide)) rfl T.p_led.g T.p_led.F.kp T.p_led.b .nil (pa_cons (pv 1) (pa_cons pe_dnewK (pa_cons (pv 2) pa_nil)))))) (pssx_one (psx_if (pt_cmpR op_eq (pv 0) pe_int (nomark _)) (pssx_one (psx_expr (pex_call (ok_stretchedE T) (hr.mono (by decide)) rfl T.p_stretched.g T.p_stretched.F.kp T.p_stretched.b .nil (pa_cons (pv 1) (pa_cons pe_dnewK (pa_cons (pv 2) pa_nil)))))) (pssx_one (psx_if (pt_cmpR op_eq (pv 0) pe_int (nomark _)) (pssx_one (psx_expr (pex_call (ok_tracedE T) (hr.mono (by decide)) rfl T.p_traced.g T.p_traced.F.kp T.p_traced.b .nil (pa_cons (pv 1) (pa_cons (pv 4) pa_nil))))) (pssx_one (psx_if (pt_cmpR op_eq (pv 0) pe_int (nomark _)) (pssx_one (psx_expr (pex_call (ok_easedE T) (hr.mono (by decide)) rfl T.p_eased.g T.p_eased.F.kp T.p_eased.b .nil (pa_cons (pv 1) (pa_cons (pv 4) pa_nil))))) (pssx_one (psx_if (pt_cmpR op_eq (pv 0) pe_int (nomark _)) (pssx_one (psx_expr (pex_meth (pe_make T.mk_Hall (ok_Hall_init T) (hr.mono (by decide)) rfl T.gC_Hall T.p_Hall_init.b .nil passR (pa_cons (pe_meth0 (pv 1) T.cl_Tent T.p_Tent_rows.m (ok_Tent_rows T) (hr.mono (by decide)) T.p_Tent_rows.b .nil passR) pa_nil)) T.cl_Hall T.p_Hall_lay.m (ok_Hall_layE T) (hr.mono (by decide)) T.p_Hall_lay.b .nil (pa_cons pe_str (pa_cons (pe_op op_rep (pe_lst (pa_cons (pv 5) pa_nil)) pe_int) pa_nil))))) (pssx_one (psx_if (pt_cmpR op_eq (pv 0) pe_int (nomark _)) (pssx_one (psx_expr (pex_meth (pe_make T.mk_Hall (ok_Hall_init T) (hr.mono (by decide)) rfl T.gC_Hall T.p_Hall_init.b .nil passR (pa_cons (pe_meth0 (pv 1) T.cl_Tent T.p_Tent_rows.m (ok_Tent_rows T) (hr.mono (by decide)) T.p_Tent_rows.b .nil passR) pa_nil)) T.cl_Hall T.p_Hall_weigh.m (ok_Hall_weighE T) (hr.mono (by decide)) T.p_Hall_weigh.b .nil (pa_cons (pv 2) (pa_cons (pe_op op_pow pe_int pe_int) (pa_cons (pe_op op_sub pe_int (pe_op op_mod (pe_callB call_len_str (by rfl) T.n_len PySem.boot_len (pa_cons (pv 3) pa_nil)) pe_int)) pa_nil)))))) (pssx_one (psx_expr (pex_meth (pe_make T.mk_Hall (ok_Hall_init T) (hr.mono (by decide)) rfl T.gC_Hall T.p_Hall_init.b .nil passR (pa_cons (pe_meth0 (pv 1) T.cl_Tent T.p_Tent_rows.m (ok_Tent_rows T) (hr.mono (by decide)) T.p_Tent_rows.b .nil passR) pa_nil)) T.cl_Hall T.p_Hall_weigh.m (ok_Hall_weighE T) (hr.mono (by decide)) T.p_Hall_weigh.b .nil (pa_cons (pv 2) (pa_cons pe_int (pa_cons (pe_op op_pow pe_int pe_int) pa_nil))))))))))))))))))))))))))), ?_⟩
  obtain ⟨n, n1, n40, hn⟩ := td.n
  have hMl := td.len
  obtain ⟨dx, cl, na, sp, mt, o, f, B⟩ := id ta
  refine seq_postX (fun σ H' => σ = [some (.int d), some (.ref p), some (.int x), some (.str way), some (.ref c), some (.int (ns.length : Nat))] ∧ H = H') (fun nx hnx => ?_) ?_
  ·refine ⟨_, rfl, p, dx, _, rfl, B.ins, fl_none _ _ _ _, p, M, ns, n, rfl, ta, by omega, _, _, rfl, rfl, .inl ⟨by decide, by decide⟩, hnx _ _ ⟨?_, rfl⟩⟩
   show [some (V.int d), some (V.ref p), some (V.int x), some (V.str way), some (V.ref c), some (V.int (3 * (n : Int)))] = _
   rw [show (3 * (n : Int)) = ((ns.length : Nat) : Int) by omega]
  rintro σ H' ⟨rfl, rfl⟩
  have kS : ∀ {H'}, Same H H' → ∀ {d'}, d = d' → E (.ref ((dueT M ns x way d').cls t)) none H' := fun s' d' e => e ▸ k _ fun b u _ e => s' b u e
  have hw1 : plainB M [((ns.length : Nat) : Int)] = false := plain_bad List.mem_cons_self (cross_out hMl)
  have hd' : d = 0 ∨ d = 1 ∨ d = 2 ∨ d = 3 ∨ d = 4 ∨ d = 5 ∨ d = 6 ∨ d = 7 ∨ d = 8 ∨ d = 9 ∨ d = 10 := by omega
  rcases hd' with rfl | rfl | rfl | rfl | rfl | rfl | rfl | rfl | rfl | rfl | rfl
  ·exact ⟨_, rfl, rfl, _, rfl, iteT (⟨_, rfl, _, rfl, _, rfl, _, rfl, p, M, ns, x, way, _, rfl, ta, td, wrong_of td (fun H' g s' e => by have := kS s' (d' := 0) rfl; unfold dueT at this; rw [e] at this; exact this) (fun e a b H' s' => ⟨fun z => absurd z.2 (by omega), fun _ => by have := kS s' (d' := 0) rfl; unfold dueT at this; rw [e] at this; exact this⟩)⟩)⟩
  ·exact ⟨_, rfl, rfl, _, rfl, iteF ⟨_, rfl, rfl, _, rfl, iteT (⟨_, rfl, _, rfl, _, rfl, _, rfl, (by show 1 ≤ sizeLine; decide), fun l hl => ⟨p, l, M, ns, x, way, [((ns.length : Nat) : Int)], rfl, ta.same (Same.new hl), td, upd_same, (by show 1 ≤ 1000; decide), hw1, fun H' s' => kS ((Same.new hl).trans s') (d' := 1) rfl⟩⟩)⟩⟩
  ·exact ⟨_, rfl, rfl, _, rfl, iteF ⟨_, rfl, rfl, _, rfl, iteF ⟨_, rfl, rfl, _, rfl, iteT (⟨_, rfl, _, rfl, _, rfl, (by show 2 ≤ sizeLine; decide), fun q hq => ⟨(by show 1 ≤ sizeLine; decide), fun l hl => ⟨_, rfl, (by show 1 ≤ sizeLine; decide), fun l2 hl2 => ⟨p, l2, .ref l, M, ns, [((ns.length : Nat) : Int)], rfl, ((ta.same (Same.new hq)).same (Same.new hl)).same (Same.new hl2), td, upd_same, (by show 1 ≤ 1000; decide), hw1, fun H' s' => kS ((Same.new hq).trans ((Same.new hl).trans ((Same.new hl2).trans s'))) (d' := 2) rfl⟩⟩⟩⟩)⟩⟩⟩
  ·exact ⟨_, rfl, rfl, _, rfl, iteF ⟨_, rfl, rfl, _, rfl, iteF ⟨_, rfl, rfl, _, rfl, iteF ⟨_, rfl, rfl, _, rfl, iteT (⟨_, rfl, _, rfl, _, rfl, (by show 2 ≤ sizeLine; decide), fun q hq => ⟨(by show 1 ≤ sizeLine; decide), fun l hl => fun c2 hc2 => ⟨p, c2, .ref l, rfl, .inl ⟨p, c2, M, ns, [], [], rfl, ((ta.same (Same.new hq)).same (Same.new hl)).same (Same.new hc2), h64, upd_same, rfl, by decide, nil_bad td, fun H' s' => kS ((Same.new hq).trans ((Same.new hl).trans ((Same.new hc2).trans s'))) (d' := 3) rfl⟩⟩⟩⟩)⟩⟩⟩⟩
  ·exact ⟨_, rfl, rfl, _, rfl, iteF ⟨_, rfl, rfl, _, rfl, iteF ⟨_, rfl, rfl, _, rfl, iteF ⟨_, rfl, rfl, _, rfl, iteF ⟨_, rfl, rfl, _, rfl, iteT (⟨_, rfl, fun c2 hc2 => ⟨_, rfl, p, c2, M, ns, x, rfl, ta.same (Same.new hc2), td, h64, upd_same, fun H' s' => kS ((Same.new hc2).trans s') (d' := 4) rfl⟩⟩)⟩⟩⟩⟩⟩
  ·exact ⟨_, rfl, rfl, _, rfl, iteF ⟨_, rfl, rfl, _, rfl, iteF ⟨_, rfl, rfl, _, rfl, iteF ⟨_, rfl, rfl, _, rfl, iteF ⟨_, rfl, rfl, _, rfl, iteF ⟨_, rfl, rfl, _, rfl, iteT (⟨_, rfl, fun c2 hc2 => ⟨_, rfl, p, c2, M, ns, x, rfl, ta.same (Same.new hc2), td, h64, upd_same, fun H' s' => kS ((Same.new hc2).trans s') (d' := 5) rfl⟩⟩)⟩⟩⟩⟩⟩⟩
  ·exact ⟨_, rfl, rfl, _, rfl, iteF ⟨_, rfl, rfl, _, rfl, iteF ⟨_, rfl, rfl, _, rfl, iteF ⟨_, rfl, rfl, _, rfl, iteF ⟨_, rfl, rfl, _, rfl, iteF ⟨_, rfl, rfl, _, rfl, iteF ⟨_, rfl, rfl, _, rfl, iteT (⟨_, rfl, _, rfl, cbad12 ta td h64 hc k⟩)⟩⟩⟩⟩⟩⟩⟩
  ·exact ⟨_, rfl, rfl, _, rfl, iteF ⟨_, rfl, rfl, _, rfl, iteF ⟨_, rfl, rfl, _, rfl, iteF ⟨_, rfl, rfl, _, rfl, iteF ⟨_, rfl, rfl, _, rfl, iteF ⟨_, rfl, rfl, _, rfl, iteF ⟨_, rfl, rfl, _, rfl, iteF ⟨_, rfl, rfl, _, rfl, iteT (⟨_, rfl, _, rfl, cbad12 ta td h64 hc k⟩)⟩⟩⟩⟩⟩⟩⟩⟩
  ·refine ⟨_, rfl, rfl, _, rfl, iteF ⟨_, rfl, rfl, _, rfl, iteF ⟨_, rfl, rfl, _, rfl, iteF ⟨_, rfl, rfl, _, rfl, iteF ⟨_, rfl, rfl, _, rfl, iteF ⟨_, rfl, rfl, _, rfl, iteF ⟨_, rfl, rfl, _, rfl, iteF ⟨_, rfl, rfl, _, rfl, iteF ⟨_, rfl, rfl, _, rfl, iteT (⟨_, rfl, p, dx, _, rfl, B.ins, fl_none _ _ _ _, p, M, ns, rfl, ta, fun lr ts hlr ts1 ts2 => fun h dh hh hdh hne => ?_⟩)⟩⟩⟩⟩⟩⟩⟩⟩⟩
   obtain ⟨ro, sr⟩ := hall_at (t := t) ts1 ts2 hlr hh hdh
   refine ⟨h, lr, dh, M, ns, rfl, upd_same, ro, td, h64, fun H3 old hn => ⟨rfl, ?_⟩⟩
   obtain ⟨be, sc', st, un, dxs, th, po, wo, ks, hn, _⟩ := hn
   have hhn : H h = none := (upd_none hh).2
   have s3 : Same H H3 := fun b u e => old b u (ne_of_none e hhn) (sr b u e)
   refine ⟨h, dh, _, rfl, hn.ins, rfl, _, rfl, (by show 1 ≤ sizeLine; decide), fun l hl => ?_⟩
   refine ⟨l, _, _, rfl, rfl, upd_same, by decide, by decide, (by show 1 * 401 ≤ sizeLine; decide), fun l2 hl2 => ?_⟩
   have s4 := (Same.new (o := .lst [V.int ((ns.length : Nat) : Int)]) hl).trans (Same.new (o := .lst (List.replicate (401 : Int).toNat [V.int ((ns.length : Nat) : Int)]).flatten) hl2)
   have e4 : (List.replicate (401 : Int).toNat [V.int ((ns.length : Nat) : Int)]).flatten = (List.replicate 401 ((ns.length : Nat) : Int)).map V.int := by rw [List.map_replicate]; rfl
   refine ⟨h, dh, be, sc', st, un, dxs, be, th, po, l2, .ref wo, "a", M, ns, List.replicate 401 ((ns.length : Nat) : Int), rfl, s4 _ _ hn.ins, s4 _ _ hn.scn, s4 _ _ hn.thr, s4 _ _ hn.poo, hn.tent.same s4, td, asc_a, by decide, isN_a, by rw [upd_same, e4], by rw [List.length_replicate]; decide, plain_bad (List.mem_replicate.mpr ⟨by decide, rfl⟩) (cross_out hMl), fun H' s' => kS (s3.trans (s4.trans s')) (d' := 8) rfl⟩
  ·refine ⟨_, rfl, rfl, _, rfl, iteF ⟨_, rfl, rfl, _, rfl, iteF ⟨_, rfl, rfl, _, rfl, iteF ⟨_, rfl, rfl, _, rfl, iteF ⟨_, rfl, rfl, _, rfl, iteF ⟨_, rfl, rfl, _, rfl, iteF ⟨_, rfl, rfl, _, rfl, iteF ⟨_, rfl, rfl, _, rfl, iteF ⟨_, rfl, rfl, _, rfl, iteF ⟨_, rfl, rfl, _, rfl, iteT (⟨_, rfl, p, dx, _, rfl, B.ins, fl_none _ _ _ _, p, M, ns, rfl, ta, fun lr ts hlr ts1 ts2 => fun h dh hh hdh hne => ?_⟩)⟩⟩⟩⟩⟩⟩⟩⟩⟩⟩
   obtain ⟨ro, sr⟩ := hall_at (t := t) ts1 ts2 hlr hh hdh
   refine ⟨h, lr, dh, M, ns, rfl, upd_same, ro, td, h64, fun H3 old hn => ⟨rfl, ?_⟩⟩
   obtain ⟨be, sc', st, un, dxs, th, po, wo, ks, hn, _⟩ := hn
   have hhn : H h = none := (upd_none hh).2
   have s3 : Same H H3 := fun b u e => old b u (ne_of_none e hhn) (sr b u e)
   have hw' : way.length ≤ 100 := hw
   refine ⟨h, dh, _, rfl, hn.ins, rfl, _, rfl, _, _, rfl, rfl, ⟨by decide, by decide, by decide⟩, _, rfl, way, rfl, by rw [sizeLine_eq]; omega, _, _, rfl, rfl, (by show (0 : Int) < 2; decide), _, _, rfl, rfl, ?_⟩
   refine ⟨h, dh, be, sc', st, un, dxs, be, .ref th, .ref po, .ref wo, M, ns, x, 10 ^ 61, 1 - ((way.length : Nat) : Int) % 2, rfl, hn.ins, hn.scn, hn.tent, td, ?_, fun H' s' => ?_⟩
   ·by_cases z : ((way.length : Nat) : Int) % 2 = 0
    ·exact .inr (.inr ⟨rfl, by omega⟩)
    ·exact .inr (.inl (by omega))
   ·have := kS (s3.trans s') (d' := 9) rfl
    unfold dueT at this
    have e1 : decide ((10 : Int) ^ 61 < 1 ∨ 1 - ((way.length : Nat) : Int) % 2 < 1) = decide (way.length % 2 = 1) := by
     congr 1
     have : ¬ (10 : Int) ^ 61 < 1 := by decide +kernel
     rw [eq_iff_iff]
     constructor
     ·rintro (z | z)
      ·exact absurd z this
      ·omega
     ·intro z; exact .inr (by omega)
    rw [e1]
    exact this
  ·refine ⟨_, rfl, rfl, _, rfl, iteF ⟨_, rfl, rfl, _, rfl, iteF ⟨_, rfl, rfl, _, rfl, iteF ⟨_, rfl, rfl, _, rfl, iteF ⟨_, rfl, rfl, _, rfl, iteF ⟨_, rfl, rfl, _, rfl, iteF ⟨_, rfl, rfl, _, rfl, iteF ⟨_, rfl, rfl, _, rfl, iteF ⟨_, rfl, rfl, _, rfl, iteF ⟨_, rfl, rfl, _, rfl, iteF (⟨_, rfl, p, dx, _, rfl, B.ins, fl_none _ _ _ _, p, M, ns, rfl, ta, fun lr ts hlr ts1 ts2 => fun h dh hh hdh hne => ?_⟩)⟩⟩⟩⟩⟩⟩⟩⟩⟩⟩
   obtain ⟨ro, sr⟩ := hall_at (t := t) ts1 ts2 hlr hh hdh
   refine ⟨h, lr, dh, M, ns, rfl, upd_same, ro, td, h64, fun H3 old hn => ⟨rfl, ?_⟩⟩
   obtain ⟨be, sc', st, un, dxs, th, po, wo, ks, hn, _⟩ := hn
   have hhn : H h = none := (upd_none hh).2
   have s3 : Same H H3 := fun b u e => old b u (ne_of_none e hhn) (sr b u e)
   refine ⟨h, dh, _, rfl, hn.ins, rfl, _, rfl, _, _, rfl, rfl, ⟨by decide, by decide, by decide⟩, ?_⟩
   refine ⟨h, dh, be, sc', st, un, dxs, be, .ref th, .ref po, .ref wo, M, ns, x, 0, _, rfl, hn.ins, hn.scn, hn.tent, td, .inl (by decide), fun H' s' => ?_⟩
   have := kS (s3.trans s') (d' := 10) rfl
   unfold dueT at this
   rw [decide_eq_true (.inl (by decide))]
   exact this
theorem sc_l_told : FnScope ["_law_door", "_law_tent_here", "_law_seam_here", "_law_way", "_law_counts", "_law_told_here"] ["_law_door", "_law_tent_here", "_law_seam_here", "_law_way", "_law_counts"] (defScope s_l_told) := ⟨rfl, rfl, rfl, by decide +kernel, rfl, by decide +kernel, by decide +kernel⟩
theorem ok_l_told (T : Txt w K mg t) : FnOk P w K mg base (CXr P w) 11 t.f_l_told t.d_l_told ["_law_door", "_law_tent_here", "_law_seam_here", "_law_way", "_law_counts"] (sp_told12 t) := by
 refine T.p_l_told.F.okR sc_l_told (fun vs H Q E h => ?_) (fun cdv A outer s H vs Q E hr h => ?_)
 ·obtain ⟨d, p, c, M, ns, x, way, rfl, _⟩ := h
  rfl
 ·obtain ⟨d, p, c, M, ns, x, way, rfl, hd, ta, td, h64, hw, hc, k⟩ := h
  refine ⟨_, (pss_cons (ps_set (i := 5) sc_l_told.nd rfl (Or.inl rfl) pe_str)
   (pss_cons (ps_tryN (pssx_one (psx_expr (pex_call (ok_l_go T) (hr.mono (by decide)) rfl T.p_l_go.g T.p_l_go.F.kp T.p_l_go.b .nil (pa_cons (pv 0) (pa_cons (pv 1) (pa_cons (pv 2) (pa_cons (pv 3) (pa_cons (pv 4) pa_nil)))))))) (hs_cons rfl T.gx_NoPlace (fun _ => (pss_one (ps_set (i := 5) sc_l_told.nd rfl (Or.inl rfl) pe_str))) (hs_cons rfl T.gx_NoThread (fun _ => (pss_one (ps_set (i := 5) sc_l_told.nd rfl (Or.inl rfl) pe_str))) (hs_cons rfl T.gx_NoCounts (fun _ => (pss_one (ps_set (i := 5) sc_l_told.nd rfl (Or.inl rfl) pe_str))) (hs_cons rfl T.gx_Uneven (fun _ => (pss_one (ps_set (i := 5) sc_l_told.nd rfl (Or.inl rfl) pe_str))) (hs_cons rfl T.gx_NoWorths (fun _ => (pss_one (ps_set (i := 5) sc_l_told.nd rfl (Or.inl rfl) pe_str))) (hs_cons rfl T.gx_NoFraction (fun _ => (pss_one (ps_set (i := 5) sc_l_told.nd rfl (Or.inl rfl) pe_str))) (hs_cons rfl T.gx_TooMany (fun _ => (pss_one (ps_set (i := 5) sc_l_told.nd rfl (Or.inl rfl) pe_str))) (hs_cons rfl T.gx_TooGreat (fun _ => (pss_one (ps_set (i := 5) sc_l_told.nd rfl (Or.inl rfl) pe_str))) (hs_cons rfl T.gx_Locked (fun _ => (pss_one (ps_set (i := 5) sc_l_told.nd rfl (Or.inl rfl) pe_str))) (hs_cons rfl T.gx_Rim (fun _ => (pss_one (ps_set (i := 5) sc_l_told.nd rfl (Or.inl rfl) pe_str))) (hs_cons rfl T.gx_NoSeam (fun _ => (pss_one (ps_set (i := 5) sc_l_told.nd rfl (Or.inl rfl) pe_str))) (hs_cons rfl T.gx_NoWay (fun _ => (pss_one (ps_set (i := 5) sc_l_told.nd rfl (Or.inl rfl) pe_str))) hs_off)))))))))))))
   (pss_one (ps_ret (pv 5))))), ?_⟩
  refine ⟨_, rfl, _, rfl, _, rfl, _, rfl, _, rfl, d, p, c, M, ns, x, way, rfl, hd, ta, td, h64, hw, hc, fun H' s' => ?_⟩
  have k := k H' s'
  generalize dueT M ns x way d = g at k ⊢
  cases g with
  | pl => exact ⟨true, T.yx_NoPlace_NoPlace, iteT ⟨_, rfl, k⟩⟩
  | th => exact ⟨false, T.nx_NoThread_NoPlace, iteF ⟨true, T.yx_NoThread_NoThread, iteT ⟨_, rfl, k⟩⟩⟩
  | co => exact ⟨false, T.nx_NoCounts_NoPlace, iteF ⟨false, T.nx_NoCounts_NoThread, iteF ⟨true, T.yx_NoCounts_NoCounts, iteT ⟨_, rfl, k⟩⟩⟩⟩
  | un => exact ⟨false, T.nx_Uneven_NoPlace, iteF ⟨false, T.nx_Uneven_NoThread, iteF ⟨false, T.nx_Uneven_NoCounts, iteF ⟨true, T.yx_Uneven_Uneven, iteT ⟨_, rfl, k⟩⟩⟩⟩⟩
  | wo => exact ⟨false, T.nx_NoWorths_NoPlace, iteF ⟨false, T.nx_NoWorths_NoThread, iteF ⟨false, T.nx_NoWorths_NoCounts, iteF ⟨false, T.nx_NoWorths_Uneven, iteF ⟨true, T.yx_NoWorths_NoWorths, iteT ⟨_, rfl, k⟩⟩⟩⟩⟩⟩
  | fr => exact ⟨false, T.nx_NoFraction_NoPlace, iteF ⟨false, T.nx_NoFraction_NoThread, iteF ⟨false, T.nx_NoFraction_NoCounts, iteF ⟨false, T.nx_NoFraction_Uneven, iteF ⟨false, T.nx_NoFraction_NoWorths, iteF ⟨true, T.yx_NoFraction_NoFraction, iteT ⟨_, rfl, k⟩⟩⟩⟩⟩⟩⟩
  | ma => exact ⟨false, T.nx_TooMany_NoPlace, iteF ⟨false, T.nx_TooMany_NoThread, iteF ⟨false, T.nx_TooMany_NoCounts, iteF ⟨false, T.nx_TooMany_Uneven, iteF ⟨false, T.nx_TooMany_NoWorths, iteF ⟨false, T.nx_TooMany_NoFraction, iteF ⟨true, T.yx_TooMany_TooMany, iteT ⟨_, rfl, k⟩⟩⟩⟩⟩⟩⟩⟩
  | gr => exact ⟨false, T.nx_TooGreat_NoPlace, iteF ⟨false, T.nx_TooGreat_NoThread, iteF ⟨false, T.nx_TooGreat_NoCounts, iteF ⟨false, T.nx_TooGreat_Uneven, iteF ⟨false, T.nx_TooGreat_NoWorths, iteF ⟨false, T.nx_TooGreat_NoFraction, iteF ⟨false, T.nx_TooGreat_TooMany, iteF ⟨true, T.yx_TooGreat_TooGreat, iteT ⟨_, rfl, k⟩⟩⟩⟩⟩⟩⟩⟩⟩
  | lo => exact ⟨false, T.nx_Locked_NoPlace, iteF ⟨false, T.nx_Locked_NoThread, iteF ⟨false, T.nx_Locked_NoCounts, iteF ⟨false, T.nx_Locked_Uneven, iteF ⟨false, T.nx_Locked_NoWorths, iteF ⟨false, T.nx_Locked_NoFraction, iteF ⟨false, T.nx_Locked_TooMany, iteF ⟨false, T.nx_Locked_TooGreat, iteF ⟨true, T.yx_Locked_Locked, iteT ⟨_, rfl, k⟩⟩⟩⟩⟩⟩⟩⟩⟩⟩
  | ri => exact ⟨false, T.nx_Rim_NoPlace, iteF ⟨false, T.nx_Rim_NoThread, iteF ⟨false, T.nx_Rim_NoCounts, iteF ⟨false, T.nx_Rim_Uneven, iteF ⟨false, T.nx_Rim_NoWorths, iteF ⟨false, T.nx_Rim_NoFraction, iteF ⟨false, T.nx_Rim_TooMany, iteF ⟨false, T.nx_Rim_TooGreat, iteF ⟨false, T.nx_Rim_Locked, iteF ⟨true, T.yx_Rim_Rim, iteT ⟨_, rfl, k⟩⟩⟩⟩⟩⟩⟩⟩⟩⟩⟩
  | se => exact ⟨false, T.nx_NoSeam_NoPlace, iteF ⟨false, T.nx_NoSeam_NoThread, iteF ⟨false, T.nx_NoSeam_NoCounts, iteF ⟨false, T.nx_NoSeam_Uneven, iteF ⟨false, T.nx_NoSeam_NoWorths, iteF ⟨false, T.nx_NoSeam_NoFraction, iteF ⟨false, T.nx_NoSeam_TooMany, iteF ⟨false, T.nx_NoSeam_TooGreat, iteF ⟨false, T.nx_NoSeam_Locked, iteF ⟨false, T.nx_NoSeam_Rim, iteF ⟨true, T.yx_NoSeam_NoSeam, iteT ⟨_, rfl, k⟩⟩⟩⟩⟩⟩⟩⟩⟩⟩⟩⟩
  | wa => exact ⟨false, T.nx_NoWay_NoPlace, iteF ⟨false, T.nx_NoWay_NoThread, iteF ⟨false, T.nx_NoWay_NoCounts, iteF ⟨false, T.nx_NoWay_Uneven, iteF ⟨false, T.nx_NoWay_NoWorths, iteF ⟨false, T.nx_NoWay_NoFraction, iteF ⟨false, T.nx_NoWay_TooMany, iteF ⟨false, T.nx_NoWay_TooGreat, iteF ⟨false, T.nx_NoWay_Locked, iteF ⟨false, T.nx_NoWay_Rim, iteF ⟨false, T.nx_NoWay_NoSeam, iteF ⟨true, T.yx_NoWay_NoWay, iteT ⟨_, rfl, k⟩⟩⟩⟩⟩⟩⟩⟩⟩⟩⟩⟩⟩
end
end KT
set_option maxHeartbeats 4000000
namespace KT
open PySem L2
noncomputable def oT : Option Tg → Str
 | some g => g.txt
 | none => ""
theorem seam_four {M : List (Option Nat)} {ns : List Int} (td : TD M ns) (x : Int) : (seamT ns x = some .ri ∧ (∀ b, weighT ns x b = .ri) ∧ ∃ a, pl ns ns.length x = [a]) ∨ (seamT ns x = some .lo ∧ (∀ b, weighT ns x b = if b = true then .fr else .gr) ∧ ∃ a b, pl ns ns.length x = [a, b] ∧ a / 3 = b / 3) ∨ (seamT ns x = none ∧ (∀ b, weighT ns x b = if b = true then .fr else .gr) ∧ ∃ a b, pl ns ns.length x = [a, b] ∧ a / 3 ≠ b / 3) ∨ (seamT ns x = some .se ∧ (∀ b, weighT ns x b = .se) ∧ pl ns ns.length x = []) := by
 by_cases hx : x ∈ keys ns ns.length
 ·rcases sort_cases td hx with ⟨e, a, h1, _⟩ | ⟨e, a, b, _, h1, _, h2⟩ | ⟨e, a, b, _, h1, _, h2⟩
  ·exact .inl ⟨seamT_rim hx e, fun b => by unfold weighT; rw [if_pos hx, if_pos e], a, h1⟩
  ·exact .inr (.inl ⟨seamT_lock hx e, fun b => by unfold weighT; rw [if_pos hx, if_neg (by rw [e]; decide)], a, b, h1, h2⟩)
  ·exact .inr (.inr (.inl ⟨seamT_free hx e, fun b => by unfold weighT; rw [if_pos hx, if_neg (by rw [e]; decide)], a, b, h1, h2⟩))
 ·exact .inr (.inr (.inr ⟨seamT_no hx, fun b => by unfold weighT; rw [if_neg hx], pl_nil hx⟩))
theorem or_tag {i : Nat} {σ : St} {H : Hp} {Q : VK} {o : Option Tg} {d : Tg} (h : σ[i]? = some (some (.str (oT o)))) (k : Q (.str (o.getD d).txt) H) : tOrS (tVar i) (tC (.str d.txt)) σ H Q := by
 refine ⟨_, h, _, rfl, ?_, fun h0 => ?_, fun h0 => ?_⟩
 ·cases o with
  | none => decide +kernel
  | some g => cases g <;> decide +kernel
 ·cases o with
  | none => exact k
  | some g => cases g <;> exact absurd h0 (by decide +kernel)
 ·cases o with
  | none => exact absurd rfl h0
  | some g => exact k
theorem inV2 {x A1 A2 : Str} : inV (.str x) [.str A1, .str A2] = decide (x = A1 ∨ x = A2) := by
 show ((A1 == x) || ((A2 == x) || false)) = _
 rw [Bool.or_false, Bool.eq_iff_iff, Bool.or_eq_true, beq_iff_eq, beq_iff_eq, decide_eq_true_eq]
 exact ⟨fun z => z.imp Eq.symm Eq.symm, fun z => z.imp Eq.symm Eq.symm⟩
theorem inV_none (M : List (Option Nat)) : inV .non (M.map mV) = decide (none ∈ M) ∧ (M.map mV).all flatV = true := by
 induction M with
 | nil => exact ⟨rfl, rfl⟩
 | cons a M ih =>
  obtain ⟨h1, h2⟩ := ih
  refine ⟨?_, ?_⟩
  ·show (eqV (mV a) .non || inV .non (M.map mV)) = _
   rw [h1]
   cases a with
   | none => rw [decide_eq_true (List.mem_cons_self (a := none) (l := M))]; rfl
   | some i =>
    show (false || _) = _
    rw [Bool.false_or]
    congr 1
    rw [eq_iff_iff, List.mem_cons]
    exact ⟨.inr, fun z => z.elim (fun e => nomatch e) id⟩
  ·rw [List.map_cons, List.all_cons, h2]
   cases a <;> rfl
noncomputable def sp_seam_due : Sp := fun vs H Q _ => ∃ (m r : Addr) (M : List (Option Nat)) (ns : List Int) (x : Int), vs = [.ref m, .ref r, .int x] ∧ H m = some (.lst (M.map mV)) ∧ RowsAt H r ns ∧ TD M ns ∧ ∀ H', Same H H' → Q (.str (oT (seamT ns x))) H'
noncomputable def sp_dues : Sp := fun vs H Q _ => ∃ (m r : Addr) (M : List (Option Nat)) (ns : List Int) (x : Int) (way : Str), vs = [.ref m, .ref r, .int x, .str way] ∧ H m = some (.lst (M.map mV)) ∧ RowsAt H r ns ∧ TD M ns ∧ okWay way ∧ ∀ (l : Addr) (H' : Hp), Same H H' → H' l = some (.lst ((List.range 11).map fun d => V.str (dueT M ns x way d).txt)) → Q (.ref l) H'
section
variable {P : Program} {w : World} {K : PySem.W.Frag} {mg : Str → Option Value} {base : Heap} {t : Adr}
theorem sc_l_seam_due : FnScope ["_law_mates", "_law_rows_here", "_law_seam_here", "_law_spots"] ["_law_mates", "_law_rows_here", "_law_seam_here"] (defScope s_l_seam_due) := ⟨rfl, rfl, rfl, by decide +kernel, rfl, by decide +kernel, by decide +kernel⟩
theorem ok_l_seam_due (T : Txt w K mg t) : FnOk P w K mg base (CXr P w) 1 t.f_l_seam_due t.d_l_seam_due ["_law_mates", "_law_rows_here", "_law_seam_here"] sp_seam_due := by
  refine T.p_l_seam_due.F.okR sc_l_seam_due (fun vs H Q E h => ?_) (fun cdv A outer s H vs Q E hr h => ?_)
  · obtain ⟨m, r, M, ns, x, rfl, _⟩ := h
    rfl
  · obtain ⟨m, r, M, ns, x, rfl, hm, hr1, td, k⟩ := h
    refine ⟨_, (pss_cons (ps_setCompG (ts := ["_law_p"]) (fv := [("_law_seam_here", 2), ("_law_rows_here", 1)]) (i := 3) ⟨rfl, by decide +kernel, by decide +kernel, blkFree (by rfl), ⟨⟨rfl, rfl, Or.inl rfl⟩, ⟨rfl, rfl, Or.inl rfl⟩, trivial⟩⟩ rfl sc_l_seam_due.nd rfl rfl (by rfl) (pi_range1 rfl T.n_range (pa_cons (pe_callB call_len_seq (by rfl) T.n_len PySem.boot_len (pa_cons (pv 0) pa_nil)) pa_nil)) (fun _ _ _ _ => (pg_name (i := 0) (show List.Nodup (["_law_p", "_law_seam_here", "_law_rows_here"] : List Str) from by decide +kernel) rfl (Or.inl rfl) (Or.inr rfl))) (fun _ _ _ _ => (pts_one (pt_cmpR op_eq (pe_ix (ix_tupK K) (pe_ix (ix_listK K) (pv 2) (pe_op op_fdiv (pv 0) pe_int) (fun _ _ => rfl)) (pe_op op_mod (pv 0) pe_int) (fun _ _ => rfl)) (pv 1) (nomark _)))) (fun _ _ _ => rfl) (fun _ _ _ _ _ _ => pb_emit (pv 0)))
      (pss_cons (ps_if (pt_cmpR op_eq (pe_callB call_len_seq (by rfl) T.n_len PySem.boot_len (pa_cons (pv 3) pa_nil)) pe_int (nomark _)) (pss_one (ps_ret pe_str)) pss_nil)
      (pss_cons (ps_if (pt_cmpR op_eq (pe_callB call_len_seq (by rfl) T.n_len PySem.boot_len (pa_cons (pv 3) pa_nil)) pe_int (nomark _)) (pss_one (ps_ret pe_str)) pss_nil)
      (pss_cons (ps_if (pt_cmpR op_eq (pe_op op_fdiv (pe_ix ix_list (pv 3) pe_int (fun _ _ => rfl)) pe_int) (pe_op op_fdiv (pe_ix ix_list (pv 3) pe_int (fun _ _ => rfl)) pe_int) (nomark _)) (pss_one (ps_ret pe_str)) pss_nil)
      (pss_one (ps_ret pe_str)))))), ?_⟩
    obtain ⟨n, n1, n40, hn⟩ := td.n
    have hMl := td.len
    refine seq_post (fun σ H' => ∃ D : Addr, σ = [some (.ref m), some (.ref r), some (.int x), some (.ref D)] ∧ Same H H' ∧ H' D = some (.lst ((pl ns ns.length x).map nV))) (fun nx hnx => ?_) ?_
    · refine ⟨_, rfl, m, _, rfl, .inl (SqL.of hm), _, rfl, by omega, by rw [List.length_map]; omega, fun D hD => ?_⟩
      have eL : (((M.map mV).length : Nat) : Int).toNat = ns.length := by simp [hMl]
      rw [eL]
      refine loop_range (fun i σ H1 => ∃ v, σ = [v, some (.int x), some (.ref r)] ∧ Same H H1 ∧ H1 D = some (.lst ((pl ns i x).map nV))) ⟨none, rfl, Same.new hD, upd_same⟩ ?_ ?_
      · rintro i σ H1 hlt ⟨v, rfl, sm, h1⟩
        have e0 : (0 + (i : Int)) = (i : Int) := Int.zero_add _
        dsimp only [gName]
        rw [e0]
        obtain ⟨y, hy⟩ : ∃ y, ns[i]? = some y := ⟨_, List.getElem?_eq_getElem hlt⟩
        obtain ⟨ts', q, e1, e2, e3, e4⟩ := row_at (hr1.same sm) hy
        refine ⟨_, rfl, _, rfl, _, _, rfl, rfl, ⟨by decide, by decide⟩, r, _, _, _, rfl, rfl, SqL.of e1, (by rw [div3]; exact map_at e2), _, rfl, _, _, rfl, rfl, (by show (0 : Int) < 3; decide), q, _, _, _, rfl, rfl, SqT.of e3, (by rw [mod3]; exact atI_nat e4), _, rfl, rfl, _, rfl, ?_⟩
        by_cases c : y = x
        · subst c
          rw [decide_eq_true rfl]
          refine iteT ⟨_, rfl, _, h1, ?_, _, rfl, Same.add sm hD, ?_⟩
          · rw [List.length_map]
            have := List.length_filter_le (fun j => decide (ns[j]? = some y)) (List.range i)
            rw [List.length_range] at this
            exact small1000 (by show (pl ns i y).length ≤ 1000; unfold pl; omega)
          · rw [upd_same, pl_same hy, List.map_append]
            rfl
        · rw [decide_eq_false (fun z => c (by injection z))]
          refine iteF ⟨_, rfl, sm, ?_⟩
          rw [h1, pl_other (by rw [hy]; intro z; cases z; exact c rfl)]
      · rintro σ H1 ⟨v, rfl, sm, h1⟩
        exact hnx _ _ ⟨D, rfl, sm, h1⟩
    rintro σ H1 ⟨D, rfl, s1, h1⟩
    have k := k H1 s1
    rcases seam_four td x with ⟨e, _, a, hp⟩ | ⟨e, _, a, b, hp, hab⟩ | ⟨e, _, a, b, hp, hab⟩ | ⟨e, _, hp⟩
    all_goals rw [hp] at h1; rw [e] at k
    · refine ⟨_, rfl, D, _, rfl, .inl (SqL.of h1), rfl, _, rfl, iteF ?_⟩
      exact ⟨_, rfl, D, _, rfl, .inl (SqL.of h1), rfl, _, rfl, iteT k⟩
    · refine ⟨_, rfl, D, _, rfl, .inl (SqL.of h1), rfl, _, rfl, iteF ?_⟩
      refine ⟨_, rfl, D, _, rfl, .inl (SqL.of h1), rfl, _, rfl, iteF ?_⟩
      refine ⟨_, rfl, D, _, _, _, rfl, rfl, SqL.of h1, rfl, _, _, rfl, rfl, ⟨by decide, by decide⟩, _, rfl, D, _, _, _, rfl, rfl, SqL.of h1, rfl, _, _, rfl, rfl, ⟨by decide, by decide⟩, rfl, _, rfl, ?_⟩
      show if decide (V.int ((a : Int) / 3) = V.int ((b : Int) / 3)) = true then _ else _
      rw [decide_eq_true (by rw [div3, div3, hab])]
      exact iteT k
    · refine ⟨_, rfl, D, _, rfl, .inl (SqL.of h1), rfl, _, rfl, iteF ?_⟩
      refine ⟨_, rfl, D, _, rfl, .inl (SqL.of h1), rfl, _, rfl, iteF ?_⟩
      refine ⟨_, rfl, D, _, _, _, rfl, rfl, SqL.of h1, rfl, _, _, rfl, rfl, ⟨by decide, by decide⟩, _, rfl, D, _, _, _, rfl, rfl, SqL.of h1, rfl, _, _, rfl, rfl, ⟨by decide, by decide⟩, rfl, _, rfl, ?_⟩
      show if decide (V.int ((a : Int) / 3) = V.int ((b : Int) / 3)) = true then _ else _
      rw [decide_eq_false (fun z => hab (by injection z with z; omega))]
      exact iteF k
    · exact ⟨_, rfl, D, _, rfl, .inl (SqL.of h1), rfl, _, rfl, iteT k⟩
theorem sc_l_dues : FnScope ["_law_mates", "_law_rows_here", "_law_seam_here", "_law_way", "_law_one", "_law_move", "_law_sums", "_law_weigh", "_law_first", "_law_dues_here"] ["_law_mates", "_law_rows_here", "_law_seam_here", "_law_way"] (defScope s_l_dues) := ⟨rfl, rfl, rfl, by decide +kernel, rfl, by decide +kernel, by decide +kernel⟩
theorem ok_l_dues (T : Txt w K mg t) : FnOk P w K mg base (CXr P w) 2 t.f_l_dues t.d_l_dues ["_law_mates", "_law_rows_here", "_law_seam_here", "_law_way"] sp_dues := by
 refine T.p_l_dues.F.okR sc_l_dues (fun vs H Q E h => ?_) (fun cdv A outer s H vs Q E hr h => ?_)
 ·obtain ⟨m, r, M, ns, x, way, rfl, _⟩ := h
  rfl
 ·obtain ⟨m, r, M, ns, x, way, rfl, hm, hr1, td, hw, k⟩ := h
  refine ⟨_, (pss_cons (ps_set (i := 4) sc_l_dues.nd rfl (Or.inl rfl) (pe_call (ok_l_seam_due T) (hr.mono (by decide)) rfl T.p_l_seam_due.g T.p_l_seam_due.F.kp T.p_l_seam_due.b .nil passR (pa_cons (pv 0) (pa_cons (pv 1) (pa_cons (pv 2) pa_nil)))))
   (pss_cons (ps_set (i := 5) sc_l_dues.nd rfl (Or.inl rfl) (pv 4))
   (pss_cons (ps_if (pt_cmpR op_notIn_seq (pv 3) (pe_tup (pa_cons pe_str (pa_cons pe_str pa_nil))) (by with_unfolding_all rfl)) (pss_one (ps_set (i := 5) sc_l_dues.nd rfl (Or.inl rfl) pe_str)) pss_nil)
   (pss_cons (ps_set (i := 6) sc_l_dues.nd rfl (Or.inl rfl) pe_str)
   (pss_cons (ps_if (pt_cmpR op_in_seq pe_non (pv 0) (by with_unfolding_all rfl)) (pss_one (ps_set (i := 6) sc_l_dues.nd rfl (Or.inl rfl) pe_str)) pss_nil)
   (pss_cons (ps_set (i := 7) sc_l_dues.nd rfl (Or.inl rfl) pe_str)
   (pss_cons (ps_if (PW.pt (pw_or (pt_cmpR op_eq (pv 4) pe_str (nomark _)) (pw_or1 (pt_cmpR op_eq (pv 4) pe_str (nomark _))))) (pss_one (ps_set (i := 7) sc_l_dues.nd rfl (Or.inl rfl) (pv 4))) pss_nil)
   (pss_cons (ps_set (i := 8) sc_l_dues.nd rfl (Or.inl rfl) (pv 7))
   (pss_cons (ps_if (PW.pt (pw_and (pt_cmpR op_eq (pv 7) pe_str (nomark _)) (pw_and1 (pt_cmpR op_eq (pe_op op_mod (pe_callB call_len_str (by rfl) T.n_len PySem.boot_len (pa_cons (pv 3) pa_nil)) pe_int) pe_int (nomark _))))) (pss_one (ps_set (i := 8) sc_l_dues.nd rfl (Or.inl rfl) pe_str)) pss_nil)
   (pss_cons (ps_set (i := 9) sc_l_dues.nd rfl (Or.inl rfl) (pe_lst (pa_cons (pe_orS (pv 5) (pe_one pe_str)) (pa_cons (pe_orS (pv 5) (pe_one pe_str)) (pa_cons pe_str (pa_cons pe_str (pa_cons (pe_orS (pv 4) (pe_one pe_str)) pa_nil)))))))
   (pss_one (ps_ret (pe_op op_cat (pv 9) (pe_lst (pa_cons (pe_orS (pv 4) (pe_one pe_str)) (pa_cons (pv 6) (pa_cons (pv 6) (pa_cons pe_str (pa_cons (pv 8) (pa_cons (pv 7) pa_nil)))))))))))))))))))), ?_⟩
  have hw' : way.length ≤ 100 := hw
  refine seq_post (fun σ H' => σ = [some (.ref m), some (.ref r), some (.int x), some (.str way), some (.str (oT (seamT ns x))), none, none, none, none, none] ∧ Same H H') (fun nx hnx => ⟨_, rfl, _, rfl, _, rfl, m, r, M, ns, x, rfl, hm, hr1, td, fun H' s' => hnx _ _ ⟨rfl, s'⟩⟩) ?_
  rintro σ H1 ⟨rfl, s1⟩
  refine seq_post (fun σ H' => σ = [some (.ref m), some (.ref r), some (.int x), some (.str way), some (.str (oT (seamT ns x))), some (.str (oT (seamT ns x))), none, none, none, none] ∧ H1 = H') (fun nx hnx => ⟨_, rfl, hnx _ _ ⟨rfl, rfl⟩⟩) ?_
  rintro σ H2 ⟨rfl, rfl⟩
  refine seq_post (fun σ H' => σ = [some (.ref m), some (.ref r), some (.int x), some (.str way), some (.str (oT (seamT ns x))), some (.str (oT (moveT ns x way))), none, none, none, none] ∧ Same H1 H') (fun nx hnx => ?_) ?_
  ·refine ⟨_, rfl, (by show 2 ≤ sizeLine; decide), fun q hq => ⟨q, _, rfl, .inr (SqT.of upd_same), rfl, rfl, _, rfl, ?_⟩⟩
   show if (!inV (.str way) [.str "left", .str "right"]) = true then _ else _
   rw [inV2]
   unfold moveT at hnx
   by_cases c : way = "left" ∨ way = "right"
   ·rw [decide_eq_true c]
    exact iteF (hnx _ _ ⟨by rw [if_pos c], Same.new hq⟩)
   ·rw [decide_eq_false c]
    exact iteT (hnx _ _ ⟨by rw [if_neg c]; rfl, Same.new hq⟩)
  rintro σ H2 ⟨rfl, s2⟩
  refine seq_post (fun σ H' => σ = [some (.ref m), some (.ref r), some (.int x), some (.str way), some (.str (oT (seamT ns x))), some (.str (oT (moveT ns x way))), some (.str "uneven"), none, none, none] ∧ H2 = H') (fun nx hnx => hnx _ _ ⟨rfl, rfl⟩) ?_
  rintro σ H3 ⟨rfl, rfl⟩
  refine seq_post (fun σ H' => σ = [some (.ref m), some (.ref r), some (.int x), some (.str way), some (.str (oT (seamT ns x))), some (.str (oT (moveT ns x way))), some (.str (sumT M).txt), none, none, none] ∧ H2 = H') (fun nx hnx => ?_) ?_
  ·obtain ⟨f1, f2⟩ := inV_none M
   refine ⟨_, rfl, m, _, rfl, .inl (SqL.of (s2 _ _ (s1 _ _ hm))), rfl, f2, _, rfl, ?_⟩
   show if inV .non (M.map mV) = true then _ else _
   rw [f1]
   unfold sumT at hnx
   by_cases c : none ∈ M
   ·rw [decide_eq_true c]
    exact iteT (hnx _ _ ⟨by rw [if_pos c]; rfl, rfl⟩)
   ·rw [decide_eq_false c]
    exact iteF (hnx _ _ ⟨by rw [if_neg c]; rfl, rfl⟩)
  rintro σ H3 ⟨rfl, rfl⟩
  refine seq_post (fun σ H' => σ = [some (.ref m), some (.ref r), some (.int x), some (.str way), some (.str (oT (seamT ns x))), some (.str (oT (moveT ns x way))), some (.str (sumT M).txt), some (.str "no fraction"), none, none] ∧ H2 = H') (fun nx hnx => hnx _ _ ⟨rfl, rfl⟩) ?_
  rintro σ H3 ⟨rfl, rfl⟩
  refine seq_post (fun σ H' => σ = [some (.ref m), some (.ref r), some (.int x), some (.str way), some (.str (oT (seamT ns x))), some (.str (oT (moveT ns x way))), some (.str (sumT M).txt), some (.str (weighT ns x true).txt), none, none] ∧ H2 = H') (fun nx hnx => ?_) ?_
  ·have hnx := hnx _ _ ⟨rfl, rfl⟩
   rcases seam_four td x with ⟨e, e2, _⟩ | ⟨e, e2, _⟩ | ⟨e, e2, _⟩ | ⟨e, e2, _⟩
   all_goals rw [e2 true, e] at hnx; rw [e]
   ·exact ⟨_, rfl, rfl, _, rfl, iteT (iteT ⟨_, rfl, hnx⟩)⟩
   ·exact ⟨_, rfl, rfl, _, rfl, iteF ⟨_, rfl, rfl, _, rfl, iteF hnx⟩⟩
   ·exact ⟨_, rfl, rfl, _, rfl, iteF ⟨_, rfl, rfl, _, rfl, iteF hnx⟩⟩
   ·exact ⟨_, rfl, rfl, _, rfl, iteF ⟨_, rfl, rfl, _, rfl, iteT ⟨_, rfl, hnx⟩⟩⟩
  rintro σ H3 ⟨rfl, rfl⟩
  refine seq_post (fun σ H' => σ = [some (.ref m), some (.ref r), some (.int x), some (.str way), some (.str (oT (seamT ns x))), some (.str (oT (moveT ns x way))), some (.str (sumT M).txt), some (.str (weighT ns x true).txt), some (.str (weighT ns x true).txt), none] ∧ H2 = H') (fun nx hnx => ⟨_, rfl, hnx _ _ ⟨rfl, rfl⟩⟩) ?_
  rintro σ H3 ⟨rfl, rfl⟩
  refine seq_post (fun σ H' => σ = [some (.ref m), some (.ref r), some (.int x), some (.str way), some (.str (oT (seamT ns x))), some (.str (oT (moveT ns x way))), some (.str (sumT M).txt), some (.str (weighT ns x true).txt), some (.str (weighT ns x (decide (way.length % 2 = 1))).txt), none] ∧ H2 = H') (fun nx hnx => ?_) ?_
  ·have hnx := hnx _ _ ⟨rfl, rfl⟩
   have tst : ∀ {A B : Prop}, (way.length % 2 = 1 → B) → (way.length % 2 = 0 → A) → if decide (V.int (((way.length : Nat) : Int) % 2) = V.int 0) = true then A else B := fun hB hA => by
    by_cases c : way.length % 2 = 0
    ·rw [show (((way.length : Nat) : Int) % 2) = 0 by omega, decide_eq_true rfl]; exact iteT (hA c)
    ·rw [decide_eq_false (fun z => c (by injection z with z; omega))]; exact iteF (hB (by omega))
   rcases seam_four td x with ⟨e, e2, _⟩ | ⟨e, e2, _⟩ | ⟨e, e2, _⟩ | ⟨e, e2, _⟩
   all_goals rw [e2, e2] at hnx; rw [e2]
   ·exact ⟨_, rfl, rfl, _, rfl, iteF (iteF hnx)⟩
   ·refine ⟨_, rfl, rfl, _, rfl, iteT ⟨_, rfl, way, rfl, by rw [sizeLine_eq]; omega, _, _, rfl, rfl, (by show (0 : Int) < 2; decide), rfl, _, rfl, tst (fun c => ?_) (fun c => ?_)⟩⟩
    ·rw [decide_eq_true c] at hnx; exact hnx
    ·rw [decide_eq_false (by omega)] at hnx; exact hnx
   ·refine ⟨_, rfl, rfl, _, rfl, iteT ⟨_, rfl, way, rfl, by rw [sizeLine_eq]; omega, _, _, rfl, rfl, (by show (0 : Int) < 2; decide), rfl, _, rfl, tst (fun c => ?_) (fun c => ?_)⟩⟩
    ·rw [decide_eq_true c] at hnx; exact hnx
    ·rw [decide_eq_false (by omega)] at hnx; exact hnx
   ·exact ⟨_, rfl, rfl, _, rfl, iteF (iteF hnx)⟩
  rintro σ H3 ⟨rfl, rfl⟩
  have s02 := s1.trans s2
  refine seq_post (fun σ H' => ∃ l1 : Addr, σ = [some (.ref m), some (.ref r), some (.int x), some (.str way), some (.str (oT (seamT ns x))), some (.str (oT (moveT ns x way))), some (.str (sumT M).txt), some (.str (weighT ns x true).txt), some (.str (weighT ns x (decide (way.length % 2 = 1))).txt), some (.ref l1)] ∧ Same H2 H' ∧ H' l1 = some (.lst ((List.range 5).map fun d => V.str (dueT M ns x way d).txt))) (fun nx hnx => ?_) ?_
  ·refine or_tag (o := moveT ns x way) (d := .pl) rfl ?_
   refine or_tag (o := moveT ns x way) (d := .th) rfl ?_
   refine or_tag (o := seamT ns x) (d := .co) rfl ?_
   exact ⟨(by show 5 ≤ sizeLine; decide), fun l1 hl1 => hnx _ _ ⟨l1, rfl, Same.new hl1, upd_same⟩⟩
  rintro σ H4 ⟨l1, rfl, s4, h4⟩
  refine ⟨_, rfl, ?_⟩
  refine or_tag (o := seamT ns x) (d := .wo) rfl ?_
  refine ⟨_, rfl, _, rfl, _, rfl, _, rfl, (by show 6 ≤ sizeLine; decide), fun l2 hl2 => ?_⟩
  refine ⟨l1, l2, _, _, rfl, rfl, Same.new hl2 _ _ h4, upd_same, (by show 5 + 6 ≤ sizeLine; decide), fun l3 hl3 => ?_⟩
  exact k l3 _ (s02.trans (s4.trans ((Same.new hl2).trans (Same.new hl3)))) upd_same
end
end KT
set_option maxHeartbeats 4000000
namespace KT
open PySem L2
theorem ne_same {A B : Prop} {s s' : Str} (e : s = s') (h : B) : if (!decide (V.str s = V.str s')) = true then A else B := by
 subst e
 rw [decide_eq_true rfl]
 exact iteF h
section
variable {P : Program} {w : World} {K : PySem.W.Frag} {mg : Str → Option Value} {base : Heap} {t : Adr}
theorem sc_law : FnScope ["_law_script", "_law_mates", "_law_rows_here", "_law_tent_here", "_law_pick", "_law_seam_here", "_law_way", "_law_counts", "_law_p", "_law_dues_here", "_law_door"] ["_law_script"] (defScope s_law) := ⟨rfl, rfl, rfl, by decide +kernel, rfl, by decide +kernel, by decide +kernel⟩
theorem ok_law (T : Txt w K mg t) : FnOk P w K mg base (CXr P w) 12 t.f_law t.d_law ["_law_script"] (sp_law K) := by
 refine T.p_law.F.okR sc_law (fun vs H Q E h => ?_) (fun cdv A outer s H vs Q E hr h => ?_)
 ·obtain ⟨a, ns, rfl, _⟩ := h
  rfl
 ·obtain ⟨a, sc, rfl, hS, hl, k⟩ := h
  have hu := hu_of hr
  refine ⟨_, (pss_cons (ps_asg (pe_call (ok_l_tent T) (hr.mono (by decide)) rfl T.p_l_tent.g T.p_l_tent.F.kp T.p_l_tent.b .nil passR (pa_cons (pv 0) pa_nil)) (pg_tup rfl (pgs_cons (pg_name (i := 1) sc_law.nd rfl (Or.inl rfl)) (pgs_cons (pg_name (i := 2) sc_law.nd rfl (Or.inl rfl)) pgs_nil))))
   (pss_cons (ps_set (i := 3) sc_law.nd rfl (Or.inl rfl) (pe_make T.mk_Tent (ok_Tent_init T) (hr.mono (by decide)) rfl T.gC_Tent T.p_Tent_init.b .nil passR (pa_cons (pe_callTy call_list_of (by rfl) T.n_list PySem.Pv.boot_list (pa_cons (pv 2) pa_nil)) pa_nil)))
   (pss_cons (ps_set (i := 4) sc_law.nd rfl (Or.inl rfl) (pe_call (ok_l_cell T) (hr.mono (by decide)) rfl T.p_l_cell.g T.p_l_cell.F.kp T.p_l_cell.b .nil passR (pa_cons (pv 0) (pa_cons pe_int pa_nil))))
   (pss_cons (ps_set (i := 5) sc_law.nd rfl (Or.inl rfl) (pe_call (ok_l_seam T) (hr.mono (by decide)) rfl T.p_l_seam.g T.p_l_seam.F.kp T.p_l_seam.b .nil passR (pa_cons (pv 2) (pa_cons (pe_op op_mod (pe_op op_fdiv (pv 4) pe_int) (pe_callB call_len_seq (by rfl) T.n_len PySem.boot_len (pa_cons (pv 1) pa_nil))) pa_nil))))
   (pss_cons (ps_if (pt_cmpR op_eq (pe_op op_mod (pv 4) pe_int) pe_int (nomark _)) (pss_one (ps_set (i := 5) sc_law.nd rfl (Or.inl rfl) (pe_op op_mod (pe_op op_fdiv (pv 4) pe_int) pe_int))) pss_nil)
   (pss_cons (ps_set (i := 6) sc_law.nd rfl (Or.inl rfl) (pe_ix ix_tup (pe_tup (pa_cons pe_str (pa_cons pe_str (pa_cons pe_str (pa_cons pe_str pa_nil))))) (pe_op op_mod (pe_call (ok_l_cell T) (hr.mono (by decide)) rfl T.p_l_cell.g T.p_l_cell.F.kp T.p_l_cell.b .nil passR (pa_cons (pv 0) (pa_cons pe_int pa_nil))) pe_int) (fun _ _ => rfl)))
   (pss_cons (ps_set (i := 7) sc_law.nd rfl (Or.inl rfl) pe_dnewK)
   (pss_cons (ps_for PassesOwn.never rfl (pi_range1 rfl T.n_range (pa_cons (pe_callB call_len_seq (by rfl) T.n_len PySem.boot_len (pa_cons (pv 1) pa_nil)) pa_nil)) (pg_name (i := 8) sc_law.nd rfl (Or.inl rfl)) (pss_one (ps_dput hu (pv 7) (pe_ix ix_tup (pe_ix ix_list (pv 2) (pe_op op_fdiv (pv 8) pe_int) (fun _ _ => rfl)) (pe_op op_mod (pv 8) pe_int) (fun _ _ => rfl)) pe_int rfl)))
   (pss_cons (ps_set (i := 9) sc_law.nd rfl (Or.inl rfl) (pe_call (ok_l_dues T) (hr.mono (by decide)) rfl T.p_l_dues.g T.p_l_dues.F.kp T.p_l_dues.b .nil passR (pa_cons (pv 1) (pa_cons (pv 2) (pa_cons (pv 5) (pa_cons (pv 6) pa_nil))))))
   (pss_cons (ps_for PassesOwn.never rfl (pi_range1 rfl T.n_range (pa_cons pe_int pa_nil)) (pg_name (i := 10) sc_law.nd rfl (Or.inl rfl)) (pss_one (ps_if (pt_cmpR op_ne (pe_call (ok_l_told T) (hr.mono (by decide)) rfl T.p_l_told.g T.p_l_told.F.kp T.p_l_told.b .nil passR (pa_cons (pv 10) (pa_cons (pv 3) (pa_cons (pv 5) (pa_cons (pv 6) (pa_cons (pe_callTy call_dictD (by rfl) T.n_dict PySem.Pv.boot_dict (pa_cons (pv 7) pa_nil)) pa_nil)))))) (pe_ix ix_list (pv 9) (pv 10) (fun _ _ => rfl)) (nomark _)) (pss_one (ps_ret pe_bl)) pss_nil)))
   (pss_one (ps_ret pe_bl)))))))))))), ?_⟩
  refine seq_cut fun nxC hnxC => ?_
  refine ⟨_, rfl, a, sc, rfl, hS, hl, fun pq m r M ns H1 sm1 hp hm hr1 td h42 hm0 hr0 => ?_⟩
  refine ⟨pq, _, rfl, SqT.of hp, rfl, _, _, rfl, _, _, rfl, rfl, ?_⟩
  refine hnxC _ _ ?_
  have hMl := td.len
  obtain ⟨n, n1, n40, hn⟩ := td.n
  obtain ⟨ts, g1, g2, g3⟩ := id hr1
  refine seq_cut fun nxC hnxC => ?_
  refine ⟨_, rfl, r, _, rfl, .inl (SqL.of g1), fun l hl1 => ?_⟩
  intro x dx hx hdx hne
  obtain ⟨rl2, s2⟩ := tent_new (C := t.C_Tent) g1 g2 g3 hl1 hx hdx
  refine ⟨x, l, dx, M, ns, rfl, upd_same, rl2, td, by rw [td.len]; omega, fun H3 old ta => ⟨rfl, ?_⟩⟩
  have s3 : Same H1 H3 := fun b u e => old b u (ne_of_none ((Same.new hl1) b u e) hx) (s2 b u ((Same.new hl1) b u e))
  refine hnxC _ _ ?_
  have hr3 := hr1.same s3
  have hm3 := s3 _ _ hm
  have hS3 : SqL K H3 a (sc.map V.int) := (sm1.trans s3).seq hS
  clear rl2 s2 old hne g1 g2 g3 hm0 hr0 hdx hl1 hm hr1 s3 hS sm1 hx
  try dsimp only [gName]
  refine seq_cut fun nxC hnxC => ?_
  refine ⟨_, rfl, a, sc, 3, rfl, hS3, hl, by decide, by decide, ?_⟩
  refine hnxC _ _ ?_
  try dsimp only [gName]
  generalize cell sc 3 = pick
  have q0 := Int.emod_nonneg (pick / 4) (show ((M.length : Nat) : Int) ≠ 0 by omega)
  have q1 := Int.emod_lt_of_pos (pick / 4) (show (0 : Int) < (M.length : Nat) by omega)
  obtain ⟨pn, hpn⟩ : ∃ pn : Nat, pick / 4 % ((M.length : Nat) : Int) = pn := ⟨_, (Int.toNat_of_nonneg q0).symm⟩
  obtain ⟨y0, hy0⟩ : ∃ y, ns[pn]? = some y := ⟨_, List.getElem?_eq_getElem (by omega)⟩
  refine seq_post (fun σ H' => σ = [some (.ref a), some (.ref m), some (.ref r), some (.ref x), some (.int pick), some (.int y0), none, none, none, none, none] ∧ H3 = H') (fun nx hnx => ?_) ?_
  ·refine ⟨_, rfl, _, rfl, _, _, rfl, rfl, ⟨by decide, by decide⟩, _, rfl, m, _, rfl, .inl (SqL.of hm3), _, _, rfl, rfl, (by rw [List.length_map]; omega), r, ns, pn, y0, ?_, hr3, hy0, hnx _ _ ⟨rfl, rfl⟩⟩
   rw [List.length_map]
   show [V.ref r, V.int (pick / 4 % ((M.length : Nat) : Int))] = _
   rw [hpn]
  rintro σ H4 ⟨rfl, rfl⟩
  refine seq_post (fun σ H' => ∃ y : Int, σ = [some (.ref a), some (.ref m), some (.ref r), some (.ref x), some (.int pick), some (.int y), none, none, none, none, none] ∧ H3 = H') (fun nx hnx => ?_) ?_
  ·refine ⟨_, rfl, _, _, rfl, rfl, (by show (0 : Int) < 4; decide), rfl, _, rfl, ?_⟩
   refine ite2 (fun _ => ?_) (fun _ => hnx _ _ ⟨y0, rfl, rfl⟩)
   exact ⟨_, rfl, _, _, rfl, rfl, ⟨by decide, by decide⟩, _, _, rfl, rfl, (by show (0 : Int) < 10000; decide), hnx _ _ ⟨_, rfl, rfl⟩⟩
  rintro σ H4 ⟨y, rfl, rfl⟩
  refine seq_post (fun σ H' => ∃ way : Str, σ = [some (.ref a), some (.ref m), some (.ref r), some (.ref x), some (.int pick), some (.int y), some (.str way), none, none, none, none] ∧ Same H3 H' ∧ okWay way) (fun nx hnx => ?_) ?_
  ·refine ⟨(by show 4 ≤ sizeLine; decide), fun q hq => ?_⟩
   refine ⟨_, rfl, a, sc, 4, rfl, (Same.new hq).seq hS3, hl, by decide, by decide, _, _, rfl, rfl, (by show (0 : Int) < 4; decide), ?_⟩
   have h0 := Int.emod_nonneg (cell sc 4) (show (4 : Int) ≠ 0 by decide)
   have h3 := Int.emod_lt_of_pos (cell sc 4) (show (0 : Int) < 4 by decide)
   have e3 : cell sc 4 % 4 = 0 ∨ cell sc 4 % 4 = 1 ∨ cell sc 4 % 4 = 2 ∨ cell sc 4 % 4 = 3 := by omega
   rcases e3 with e | e | e | e
   ·exact ⟨q, _, _, V.str "left", rfl, rfl, SqT.of upd_same, (by rw [e]; rfl), hnx _ _ ⟨_, rfl, Same.new hq, by show _ ≤ 100; decide⟩⟩
   ·exact ⟨q, _, _, V.str "right", rfl, rfl, SqT.of upd_same, (by rw [e]; rfl), hnx _ _ ⟨_, rfl, Same.new hq, by show _ ≤ 100; decide⟩⟩
   ·exact ⟨q, _, _, V.str "up", rfl, rfl, SqT.of upd_same, (by rw [e]; rfl), hnx _ _ ⟨_, rfl, Same.new hq, by show _ ≤ 100; decide⟩⟩
   ·exact ⟨q, _, _, V.str "", rfl, rfl, SqT.of upd_same, (by rw [e]; rfl), hnx _ _ ⟨_, rfl, Same.new hq, by show _ ≤ 100; decide⟩⟩
  rintro σ H5 ⟨way, rfl, s5, hw⟩
  have hm5 := s5 _ _ hm3
  have hr5 := hr3.same s5
  have ta5 := ta.same s5
  clear ta hr3 hm3 hS3 s5
  refine seq_post (fun σ H' => ∃ d : Addr, σ = [some (.ref a), some (.ref m), some (.ref r), some (.ref x), some (.int pick), some (.int y), some (.str way), some (.ref d), none, none, none] ∧ H5 d = none ∧ Same H5 H' ∧ H' d = some (.dK [])) (fun nx hnx => fun d hd => hnx _ _ ⟨d, rfl, hd, Same.new hd, upd_same⟩) ?_
  rintro σ H6 ⟨d, rfl, hd, s6, h6⟩
  refine seq_post (fun σ H' => ∃ v : Option V, σ = [some (.ref a), some (.ref m), some (.ref r), some (.ref x), some (.int pick), some (.int y), some (.str way), some (.ref d), v, none, none] ∧ Same H5 H' ∧ H' d = some (.dK (dI (keys ns ns.length) fun _ => 1001))) (fun nx hnx => ?_) ?_
  ·refine ⟨_, rfl, m, _, rfl, .inl (SqL.of (s6 _ _ hm5)), _, rfl, by omega, by rw [List.length_map]; omega, ?_⟩
   have eL : (((M.map mV).length : Nat) : Int).toNat = ns.length := by simp [hMl]
   rw [eL]
   refine for_range (n := ns.length) (fun i σ H' => ∃ v : Option V, σ = [some (.ref a), some (.ref m), some (.ref r), some (.ref x), some (.int pick), some (.int y), some (.str way), some (.ref d), v, none, none] ∧ Same H5 H' ∧ H' d = some (.dK (dI (keys ns i) fun _ => 1001))) ⟨none, rfl, s6, h6⟩ ?_ ?_
   ·rintro i σ H' hi ⟨v, rfl, s', hd'⟩
    dsimp only [gName]
    rw [Int.zero_add]
    obtain ⟨z, hz⟩ : ∃ z, ns[i]? = some z := ⟨_, List.getElem?_eq_getElem hi⟩
    obtain ⟨ts', q, e1, e2, e3, e4⟩ := row_at (hr5.same s') hz
    refine ⟨_, rfl, ?_⟩
    refine ⟨_, rfl, _, rfl, _, _, rfl, rfl, ⟨by decide, by decide⟩, r, _, _, _, rfl, rfl, SqL.of e1, (by rw [div3]; exact map_at e2), _, rfl, _, _, rfl, rfl, (by show (0 : Int) < 3; decide), q, _, _, _, rfl, rfl, SqT.of e3, (by rw [mod3]; exact atI_nat e4), ?_⟩
    refine ⟨d, _, rfl, DPut.k (k := Sum.inl z) hd' (by rw [dI_len]; exact small1000 (by have := keys_le ns i; omega)), ?_⟩
    refine ⟨_, rfl, Same.add s' hd, ?_⟩
    rw [upd_same, keys_step hz]
    by_cases c : z ∈ keys ns i
    ·rw [if_pos c, dI_old c]
     exact congrArg (fun l => some (HO.dK l)) (dI_congr fun w _ => by split <;> rfl)
    ·rw [if_neg c, dI_new c]
     exact congrArg (fun l => some (HO.dK l)) (dI_congr fun w _ => by split <;> rfl)
   ·rintro σ H' ⟨v, rfl, s', hd'⟩
    exact hnx _ _ ⟨v, rfl, s', hd'⟩
  rintro σ H7 ⟨v, rfl, s7, h7⟩
  refine seq_post (fun σ H' => ∃ l : Addr, σ = [some (.ref a), some (.ref m), some (.ref r), some (.ref x), some (.int pick), some (.int y), some (.str way), some (.ref d), v, some (.ref l), none] ∧ Same H7 H' ∧ H' l = some (.lst ((List.range 11).map fun d => V.str (dueT M ns y way d).txt))) (fun nx hnx => ⟨_, rfl, _, rfl, _, rfl, _, rfl, m, r, M, ns, y, way, rfl, s7 _ _ hm5, hr5.same s7, td, hw, fun l H' s' h' => hnx _ _ ⟨l, rfl, s', h'⟩⟩) ?_
  rintro σ H8 ⟨l, rfl, s8, h8⟩
  have h78 := s8 _ _ h7
  have ta8 := (ta5.same s7).same s8
  refine seq_post (fun σ H' => True) (fun nx hnx => ?_) ?_
  ·refine ⟨_, rfl, by decide, by decide, ?_⟩
   refine for_range (n := 11) (fun i σ H' => ∃ v : Option V, ∃ v2 : Option V, σ = [some (.ref a), some (.ref m), some (.ref r), some (.ref x), some (.int pick), some (.int y), some (.str way), some (.ref d), v, some (.ref l), v2] ∧ Same H8 H') ⟨v, none, rfl, Same.refl _⟩ ?_ ?_
   ·rintro i σ H' hi ⟨v, v2, rfl, s'⟩
    dsimp only [gName]
    rw [Int.zero_add]
    refine ⟨_, rfl, _, rfl, _, rfl, _, rfl, _, rfl, d, _, rfl, .inl (s' _ _ h78), fun c2 hc2 => ?_⟩
    refine ⟨i, x, c2, M, ns, y, way, rfl, by omega, (ta8.same s').same (Same.new hc2), td, by omega, hw, upd_same, fun H'' o => ?_⟩
    have s2 : Same H' H'' := fun b u e => o b u (ne_of_none e hc2) (Same.new hc2 b u e)
    refine ⟨_, rfl, _, rfl, l, _, _, V.str (dueT M ns y way i).txt, rfl, rfl, SqL.of (s2 _ _ (s' _ _ h8)), atI_nat (by rw [List.getElem?_map, List.getElem?_range hi]; rfl), rfl, _, rfl, ne_same rfl ⟨_, _, rfl, s'.trans s2⟩⟩
   ·rintro σ H' _
    exact hnx _ _ True.intro
  ·rintro σ H' _
   exact k _
end
end KT
set_option maxHeartbeats 4000000
open PySem PySem.W PyProof.Rows
namespace PySem.W.Fast
def tw1568333568946575304 := 0
def tw6665911977693976248 := 0
def tw3265647748400533767 := 0
def tw1840674532731993837 := 0
def tw816877358700293617 := 0
def tw7017225715073493718 := 0
def tw8794541613736799110 := 0
def tw7927532816766256199 := 0
def tw10549410443909467380 := 0
def tw9019134613219645236 := 0
def tw11063091783341517562 := 0
def tw1731926307487074506 := 0
def tw347401706767110693 := 0
def tw10765233297849377743 := 0
def tw2206667067204722169 := 0
def tw11229291925434862371 := 0
def tw5180371102948687993 := 0
def tw5221205566313663897 := 0
def tw325409957314973666 := 0
def tw910972022288119367 := 0
def tw11207595473167379226 := 0
def tw17018683349999323853 := 0
def tw12912926820392447490 := 0
def tw7527068734757353673 := 0
def tw3000623161844293448 := 0
def tw3973175983816393283 := 0
def tw16316795730062448877 := 0
def tw4263185919602245626 := 0
def tw531901323996400164 := 0
def tw13908077169270137435 := 0
def tw11757246514844807044 := 0
def tw3823905121326430866 := 0
def tw16083552898509844356 := 0
def tw17673827205382218762 := 0
def tw16938355445366168846 := 0
def tw13165430560795464513 := 0
def tw9292993011980495466 := 0
def tw11180704682052496018 := 0
def tw16451464146743265675 := 0
def tw6235815433616834021 := 0
def tw11507190252954887217 := 0
def tw4683224128478021999 := 0
def tw13242248437848369742 := 0
def tw10589529596398586006 := 0
def tw15009810652672748162 := 0
def tw1975429520894301820 := 0
def tw4753931714720144319 := 0
def tw10170682076625064328 := 0
def tw13501379923241716018 := 0
def tw12306950278178033464 := 0
def tw408758238528181511 := 0
def tw5097435222086577173 := 0
def tw11955635808936582569 := 0
def tw5080017836564595629 := 0
def tw16309462111548202427 := 0
def tw4478271780905374139 := 0
def tw9733824799544113916 := 0
def tw649200082576475132 := 0
def tw4133167257318860276 := 0
def tw17139201479886480089 := 0
def tw5920543700635726162 := 0
def tw7473889798728130035 := 0
def tw2578690933979001676 := 0
def tw13514337680299335829 := 0
def tw4233232752918212146 := 0
def tw15155153890665947433 := 0
def tw2453990692738228878 := 0
def tw12286653042291321940 := 0
def tw10017403435881119383 := 0
def tw4508847497156977786 := 0
def tw4521106893092260055 := 0
def tw4853582633905841555 := 0
def tw15262165530882896937 := 0
def tw14623842766935751852 := 0
def tw17771271629143260275 := 0
def tw3738442562170578622 := 0
def tw17590180432556232699 := 0
def tw14457378603168248690 := 0
def tw2242284192838917135 := 0
def tw5626844611189773660 := 0
def tw5166638196228390142 := 0
def tw6936304002613612394 := 0
def tw7838655167790477609 := 0
def tw6980585352630509361 := 0
def tw12303076771904220314 := 0
def tw3102834059141434065 := 0
def tw9150421321160956629 := 0
def tw2506954968736757619 := 0
def tw18029718963407232037 := 0
def tw7497936862050359438 := 0
def tw10675207063745923428 := 0
def tw14462777679576120385 := 0
def tw8183814061601816592 := 0
def tw17622987290578840506 := 0
def tw1761448794767723170 := 0
def tw9885864160721709087 := 0
def tw846713600131695568 := 0
def tw5900467290222828172 := 0
def tw11191180824638705703 := 0
def tw13962147346201564605 := 0
def tw11309041289209975314 := 0
def tw3211696657263565615 := 0
def tw12938843882166044694 := 0
def tw2747430730681989860 := 0
def tw12549226730654108908 := 0
def tw7304131545223775 := 0
def tw15413379581724465762 := 0
def tw9659418891296453264 := 0
def tw18290386334133720851 := 0
def tw15530429289248300559 := 0
def tw16108976329898346395 := 0
def tw6599456529737247665 := 0
def tw8425075821030207328 := 0
def tw10905977224790217498 := 0
def tw7979494149780881409 := 0
def tw8641855062226047846 := 0
def tw222260015903692207 := 0
def tw2918983396598958842 := 0
def tw5316098938991919513 := 0
def tw15174220775406567280 := 0
def tw10268672030538897454 := 0
def tw12062105983187003732 := 0
def tw2748667379973231057 := 0
def tw3170066465546472801 := 0
def tw17580861863966294991 := 0
def tw2903194253356451519 := 0
def tw15386448090554657781 := 0
def tw11282942684640034441 := 0
def tw12003453960066879514 := 0
def tw14501616643166090353 := 0
def tw2291343390005668648 := 0
def tw6247776590535120443 := 0
def tw3997126804844501494 := 0
def tw10658966859187211775 := 0
def tw13916892993201922298 := 0
def tw13921798516495936198 := 0
def tw8704569187052052503 := 0
def tw17645045435952247337 := 0
def tw6641873085538213612 := 0
def tw12010760483057189422 := 0
def tw4525670319645844812 := 0
def tw9115981859048904981 := 0
def tw6569635660022888582 := 0
def tw1864350179645301833 := 0
def tw11251404242535876011 := 0
def tw6543271558297286135 := 0
def tw5699752481971377546 := 0
def tw1481673884102386281 := 0
def tw4505469641664589877 := 0
def tw2446159110168357742 := 0
def tw14540541876803102734 := 0
def tw7323681406169305212 := 0
def tw11787391785187327458 := 0
def tw1064342548354457439 := 0
def tw7919561290913693351 := 0
def tw11019901860187992706 := 0
def tw14844911243791480558 := 0
def tw14243426727977732508 := 0
def tw14683784502823870292 := 0
def tw10595476682587615629 := 0
def tw16183910476971571556 := 0
def tw4499047378400447725 := 0
def tw14084310481597006661 := 0
def tw13998815543202349781 := 0
def tw15760462664767310504 := 0
def tw17851732586169469971 := 0
def tw17729384769408706878 := 0
def tw17028945464773822568 := 0
def tw15326863931315624677 := 0
def tw10566994568737335201 := 0
def tw2943922875328783539 := 0
def tw11466826264856909238 := 0
def tw1751831511332903954 := 0
def tw1672496845774268826 := 0
def tw8580454012524507931 := 0
def tw5331781629666209871 := 0
def tw252776655823207130 := 0
def tw6893265575399462851 := 0
def tw8216654636274411962 := 0
def tw15263233123483051594 := 0
def tw3627221652469308047 := 0
def tw6359735409364276124 := 0
def tw5241680905750173702 := 0
def tw13886723984163647435 := 0
def tw5974399871643275639 := 0
def tw16251822940942052303 := 0
def tw16212700235221614706 := 0
def tw14940856997542504156 := 0
def tw1041303019831958537 := 0
def tw10270764134734776282 := 0
def tw3689257688702242037 := 0
def tw12934659838708040130 := 0
def tw6785339325164995416 := 0
def tw11498940432185421898 := 0
def tw18402865303180370754 := 0
def tw12976298516025637458 := 0
def tw4323567463260249385 := 0
def tw7053317055756274239 := 0
def tw3017823255654008667 := 0
def tw18085265272640115278 := 0
def tw7160698304694396426 := 0
def tw4796326757726425469 := 0
def tw10060129450903755079 := 0
def tw17158445676653635961 := 0
def tw150110885194131259 := 0
def tw2530353893005591237 := 0
def tw15322891826970098808 := 0
def tw14655475693460899242 := 0
def tw2560417719505554484 := 0
def tw9000629888204356097 := 0
def tw11699049969487362790 := 0
def tw12408237165525415085 := 0
def tw15097353894235685203 := 0
def tw3957233202409555222 := 0
def tw17395639749011816171 := 0
def tw10479810234771377079 := 0
def tw14521210971653682928 := 0
def tw8614292736156087357 := 0
def tw1910297582597300655 := 0
def tw13954711650359041341 := 0
def tw7062360500846072128 := 0
def tw6854247580700067555 := 0
def tw10970048700804357956 := 0
def tw892369544057111993 := 0
def tw7683496801421889067 := 0
def tw1584244712842633437 := 0
def tw13522147423714866858 := 0
def tw7798295886356959790 := 0
def tw15419248910121728597 := 0
def tw22152548266517929 := 0
def tw2843456083440191318 := 0
def tw4703771712727704664 := 0
def tw7015656925708479452 := 0
def tw5571699238616348911 := 0
def tw10910286894152512842 := 0
def tw3738181816405640687 := 0
def tw9583532765589589765 := 0
def tw18348909242570774698 := 0
def tw8477139957650845187 := 0
def tw8849763434481843267 := 0
def tw14930438605614253322 := 0
def tw5050552942071855889 := 0
def tw14659879677965415282 := 0
def tw16327728459046474547 := 0
def tw16205519765642303784 := 0
def tw673674952760345780 := 0
def tw11928294691193796342 := 0
def tw12719430431123259128 := 0
def tw318788272827171814 := 0
def tw2844077699928457849 := 0
def tw16501443431504653132 := 0
def tw17022043759147238345 := 0
def tw7365971746358193488 := 0
def tw982754456014528404 := 0
def tw10265586562060352637 := 0
def tw18256160954386404815 := 0
def tw2059893917983030511 := 0
def tw8042606639540852012 := 0
def tw16588512318764741178 := 0
def tw3020127519920928159 := 0
def tw8542750272157040066 := 0
def tw6482084422105016221 := 0
def tw468866487652485461 := 0
def tw13987235820510075628 := 0
def tw1957216297435748869 := 0
def tw11122244209644007735 := 0
def tw13630924115821329423 := 0
def tw9573859220237551541 := 0
def tw17439161227470286366 := 0
def tw14179446389662836349 := 0
def tw8456806612541422472 := 0
def tw33020716423493478 := 0
def tw17496732899907731449 := 0
def tw2427822376960070813 := 0
def tw13397519957056003003 := 0
def tw17199291506165872917 := 0
def tw16950756137892808963 := 0
def tw17636404751120543565 := 0
def tw4453359205748555043 := 0
def tw10449763098713522495 := 0
def tw14280434285608259950 := 0
def tw10348612779619489891 := 0
def tw14128027666773180334 := 0
def tw4208741222556783845 := 0
def tw2613112936363851251 := 0
def tw13803312480297860850 := 0
def tw213656543235669326 := 0
def tw9080228986724891740 := 0
def tw9279772525138735738 := 0
def tw7135056912103579252 := 0
def tw72399449505050638 := 0
def tw2961514986793538491 := 0
def tw2088524810953899783 := 0
def tw15224995690832989962 := 0
def tw9675780279501019587 := 0
def tw14859177904624126644 := 0
def tw17236944408965777645 := 0
def tw4222873402089523964 := 0
def tw8360316226242014662 := 0
def tw14311439098712940206 := 0
def tw5502173616636595789 := 0
def tw17996467680882361779 := 0
def tw8587236981631471797 := 0
def tw4598271275377162925 := 0
def tw2975522137516604092 := 0
def tw1065450530486003421 := 0
def tw15276484959155837519 := 0
def tw11971868504872879616 := 0
def tw2124871233881107890 := 0
def tw17228028992220365601 := 0
def tw5470942486752117156 := 0
def tw13917164967460617131 := 0
def tw13816119063813626150 := 0
def tw5417550647162090388 := 0
def tw17405526800677526171 := 0
def tw17014548179441148137 := 0
def tw1520602701204328991 := 0
def tw12836657683425433940 := 0
def tw6737275104894193698 := 0
def tw3505594361573797562 := 0
def tw6393505503013614456 := 0
def tw5840736243730886208 := 0
def tw5543896160652700333 := 0
def tw12559330118208586682 := 0
def tw2118623407469869533 := 0
def tw1367335130526123866 := 0
def tw10200946419839117523 := 0
def tw45570543922093074 := 0
def tw17732007259753127015 := 0
def tw15852671809555404724 := 0
def tw18077349313603947540 := 0
def tw1734794695278349053 := 0
def tw11399366977289263765 := 0
def tw4892800434743935551 := 0
def tw14583743792826967381 := 0
def tw1549746879588851650 := 0
def tw3525491100757002593 := 0
def tw6197431798642723969 := 0
def tw17248198657118744986 := 0
def tw11331435313239279253 := 0
def tw9267353846192178866 := 0
def tw4674239078774365397 := 0
def tw7115336378806859150 := 0
def tw15863582741348192629 := 0
def tw16347320902913601262 := 0
def tw607476736272041235 := 0
def tw6855275930036345859 := 0
def tw7184778933821037710 := 0
def tw7826584625220850921 := 0
def tw5541588302606113946 := 0
def tw3252070022708179856 := 0
def tw3199224235163797388 := 0
def tw9369237916466280693 := 0
def tw10792707378311494841 := 0
def tw1660494151676173919 := 0
def tw9949487969460344940 := 0
def tw12531163112005232651 := 0
def tw8068052508198868908 := 0
def tw9454230976033315782 := 0
def tw13240711029543732041 := 0
def tw11984704898283694091 := 0
def tw12518947144586090365 := 0
def tw3775623934873375287 := 0
def tw12024654626526110883 := 0
def tw1021804331328920851 := 0
def tw3898296469903517495 := 0
def tw9135341604923690221 := 0
def tw14580350252226209265 := 0
def tw16236171312892501431 := 0
def tw598989495423686045 := 0
def tw6356356578899966547 := 0
def tw315380896918236823 := 0
def tw13807799578098287716 := 0
def tw15954006106152543833 := 0
def tw246875970164988258 := 0
def tw13326563648613703241 := 0
def tw16724141049399228228 := 0
def tw8510148436239412194 := 0
def tw2964959526688221338 := 0
def tw9723337981651211207 := 0
def tw3240426232900871471 := 0
def tw1914827053615221512 := 0
def tw11989281940717863531 := 0
def tw12028152433895140189 := 0
def tw12966845471981455799 := 0
def tw17637976268171083836 := 0
def tw5912643932760708147 := 0
def tw9638496964768926760 := 0
def tw6906854621259363675 := 0
def tw14973932296334481390 := 0
def tw836002089706641973 := 0
def tw13816624279589418912 := 0
def tw10856942651441371496 := 0
def tw9512593794076959556 := 0
def tw13301273349094028714 := 0
def tw13156924029295568186 := 0
def tw8879938773727894551 := 0
def tw16514060097375431663 := 0
def tw2831980896312383185 := 0
def tw15102838296486084027 := 0
def tw12311452793125672442 := 0
def tw18407489697940752002 := 0
def tw15367340828808439660 := 0
def tw9126474060210515056 := 0
def tw680361149910637949 := 0
def tw1308498250832251249 := 0
def tw17057843115076238453 := 0
def tw6008439504584623451 := 0
def tw513723106482332146 := 0
def tw13088624825013380014 := 0
def tw2915840688608929234 := 0
def tw748842123044205508 := 0
def tw9809257270177213616 := 0
def tw3407656371703672698 := 0
def tw8485437835518480139 := 0
def tw15228527796417287129 := 0
def tw7531348969627753016 := 0
def tw6562197311333475656 := 0
def tw17721063792438140015 := 0
def tw54454954752859284 := 0
def tw1423476349805575402 := 0
def tw8317259394569952260 := 0
def tw5599397363508909466 := 0
def tw16414240494544378079 := 0
def tw7665328923737299565 := 0
def tw3348433065243540104 := 0
def tw3970276446032110419 := 0
def tw3909960666598362730 := 0
def tw10240364407171046530 := 0
def tw3093767064171771025 := 0
def tw3564270779146422913 := 0
def tw15331025955308022296 := 0
def tw12298725787368796759 := 0
def tw319208348232518639 := 0
def tw16899134000803520314 := 0
def tw12425195313369821952 := 0
def tw15989161290650451094 := 0
def tw11153641768197743947 := 0
def tw13346733767696456619 := 0
def tw12558581470091771567 := 0
def tw8701133343587740905 := 0
def tw16562980248487872506 := 0
def tw541277181572237105 := 0
def tw6131612916650717198 := 0
def tw15712399475540931290 := 0
def tw7344470408852525744 := 0
def tw13973514546229990428 := 0
def tw6165049850586827279 := 0
def tw6881222503741438323 := 0
def tw3761650013011791386 := 0
def tw6019190678503838018 := 0
def tw6866312229203800367 := 0
def tw18094011515724861611 := 0
def tw936531444380018726 := 0
def tw13106880423899958087 := 0
def tw13227354767723156138 := 0
def tw16049249853936163489 := 0
def tw7952915564339598649 := 0
def tw7371019546483880217 := 0
def tw12067070510599808873 := 0
def tw9634226368549919867 := 0
def tw9288200950463623127 := 0
def tw3501556491938932834 := 0
def tw5590750234288155185 := 0
def tw11421442844794878377 := 0
def tw9752223601597852072 := 0
def tw14340817988481102198 := 0
def tw9985366868385901575 := 0
def tw675596461445098243 := 0
def tw5575997975987984101 := 0
def tw16197210131449475759 := 0
def tw16901360294702612387 := 0
def tw7490948477430363885 := 0
def tw311804194662416024 := 0
def tw18257351418748844371 := 0
def tw4679684714273449759 := 0
def tw18114463457471850088 := 0
def tw12016770418828036148 := 0
def tw15406324130783711938 := 0
def tw17586604600164255615 := 0
def tw12271108339959571751 := 0
def tw8853652631908727124 := 0
def tw12224244327018103041 := 0
def tw6099420427468751133 := 0
def tw5870236686595745947 := 0
def tw17053359960354650484 := 0
def tw8371718088619663454 := 0
def tw5297759661054040010 := 0
def tw18244472913494983174 := 0
def tw37318807534028511 := 0
def tw3754042171179855954 := 0
def tw11222669046391496215 := 0
def tw3663150212595304388 := 0
def tw10255711336943029000 := 0
def tw12095525781872932122 := 0
def tw1407886430011867152 := 0
def tw14593227027105044704 := 0
def tw8376577155378049339 := 0
def tw5995163521944291580 := 0
def tw3390959351424742234 := 0
def tw7949380965615943710 := 0
def tw10568993963483757044 := 0
def tw13223333752772865762 := 0
def tw2983055673345975383 := 0
def tw2601934262921649616 := 0
def tw742351859941068697 := 0
def tw11971656646064935700 := 0
def tw4200035688935078995 := 0
def tw15744736152796249246 := 0
def tw13015791297976829235 := 0
def tw17977604726266178827 := 0
def tw7480426819390581688 := 0
def tw4819751654270574495 := 0
def tw16669635953147641315 := 0
def tw15924265701333416795 := 0
def tw9964036894930968483 := 0
def tw16737471111759794487 := 0
def tw10953538937122641403 := 0
def tw13784637806373586078 := 0
def tw12894704307085361084 := 0
def tw16947610771428417709 := 0
def tw9688277076331738490 := 0
def tw2526132005589661711 := 0
def tw1061310163636561260 := 0
def tw11609447731089351200 := 0
def tw16194851609661604454 := 0
def tw4375042063570765378 := 0
def tw16758592872101693629 := 0
def tw12615512626342486731 := 0
def tw6026616504398515669 := 0
def tw13881829894733547780 := 0
def tw16960696904757841989 := 0
def tw1887211645522790281 := 0
def tw13454751533483594469 := 0
def tw18077359987371441054 := 0
def tw14323931772744294199 := 0
def tw17239938523987684957 := 0
def tw14474472560753961652 := 0
def tw15416463693034975747 := 0
def tw6182751606288351761 := 0
def tw4489131534574911151 := 0
def tw18378042855874836915 := 0
def tw11018923257523458879 := 0
def tw14915658901024028118 := 0
def tw928510756072030822 := 0
def tw10016752080580948107 := 0
def tw17124927766117821044 := 0
def tw1131388243436968036 := 0
def tw16392306193814826789 := 0
def tw7581031917620472518 := 0
def tw10431929156582593423 := 0
def tw2937594694549201425 := 0
def tw3339226336959981557 := 0
def tw8448794694585105732 := 0
def tw13322996445354516709 := 0
def tw6037533281353258628 := 0
def tw3301833955404462626 := 0
def tw9942146926322245587 := 0
def tw11159703418689061227 := 0
def tw984322176544291167 := 0
def tw8654701046407424743 := 0
def tw6378102480807035203 := 0
def tw748294011659417313 := 0
def tw7758268725563246870 := 0
def tw448450137696766348 := 0
def tw8487881255977014004 := 0
def tw11363088735469768979 := 0
def tw5249967533633617805 := 0
def tw2880757765629349608 := 0
def tw12578157261038394082 := 0
def tw704802119087712051 := 0
def tw2216170118829908395 := 0
def tw15507452429924647836 := 0
def tw10957422252021654852 := 0
def tw2615525888290652486 := 0
def tw2768628530327558202 := 0
def tw10649533446426981968 := 0
def tw702323453720862285 := 0
def tw333228643365865292 := 0
def tw1354048047684409501 := 0
def tw594143715024433050 := 0
def tw8587914635565568841 := 0
def tw2472614398631278511 := 0
def tw17257849635195194037 := 0
def tw13173346707598544716 := 0
def tw16900700554750823325 := 0
def tw695064086857727092 := 0
def tw4391033990001674950 := 0
def tw1444012615225919646 := 0
def tw9687244096627417199 := 0
def tw6416808277153625680 := 0
def tw2461763642731152954 := 0
def tw8686861465078639605 := 0
def tw12299600468926579630 := 0
def tw16683956176232596381 := 0
def tw16027585899426822108 := 0
def tw14200237350913803661 := 0
def tw1417428906852060218 := 0
def tw4514448082923931182 := 0
def tw13265625181161983320 := 0
def tw4525109021577033629 := 0
def tw1270375700806544783 := 0
def tw9562290123054006223 := 0
def tw13547521632466684025 := 0
def tw4986221508256501802 := 0
def tw11861102603263860723 := 0
def tw15121512872666971802 := 0
def tw6062087453067028482 := 0
def tw7911785151405391162 := 0
def tw8398376430378076613 := 0
def tw2403357067304621400 := 0
def tw17252007833671791104 := 0
def tw13801604436828955354 := 0
def tw15535428264672276005 := 0
def tw17152564915696991042 := 0
def tw12670541587959222124 := 0
def tw640425799394737477 := 0
def tw10957789267732111693 := 0
def tw2980043342124683213 := 0
def tw8690199931100183501 := 0
def tw4868046539046555737 := 0
def tw18193952139896577359 := 0
def tw14034353568535155792 := 0
def tw18222931629226967194 := 0
def tw2052132746447153304 := 0
def tw9694424792160231473 := 0
def tw8694491674952718107 := 0
def tw522858316644487685 := 0
def tw11647233067182131071 := 0
def tw7874609351669349524 := 0
def tw12249915739598628031 := 0
def tw5985956422277066147 := 0
def tw8799446413703182269 := 0
def tw4356589739372122948 := 0
def tw6859856927575992463 := 0
def tw13959260282567879175 := 0
def tw16593175093696341985 := 0
def tw8323752027480929741 := 0
def tw15077657572161226290 := 0
def tw1097910856112318962 := 0
def tw14260467048400697521 := 0
def tw13890769111350277539 := 0
def tw10750608737184856600 := 0
def tw61985224192773009 := 0
def tw1017201922239368517 := 0
def tw6235982400205883345 := 0
def tw9693028062236279380 := 0
def tw1174019550423654787 := 0
def tw11135510621394076060 := 0
def tw10500526529581250752 := 0
def tw18130256578025951935 := 0
def tw11868682923780209602 := 0
def tw4852479923097735878 := 0
def tw4920143184166330223 := 0
def tw16294759327930131214 := 0
def tw18208133569727592208 := 0
def tw13519723991137001034 := 0
def tw2331275110511163377 := 0
def tw13505851463627831421 := 0
def tw13444063409248266634 := 0
def tw8212616871099372824 := 0
def tw3927058442685024288 := 0
def tw9057552318233547652 := 0
def tw7460241833604389679 := 0
def tw17666015241136830051 := 0
def tw3769750786547016513 := 0
def tw6777931230451871381 := 0
def tw17252106161881961879 := 0
def tw319235729495339363 := 0
def tw4599961455374866732 := 0
def tw8223280375944674965 := 0
def tw11496059770638602633 := 0
def tw15101507304598665748 := 0
def tw15435943410636137918 := 0
def tw4889317236321535907 := 0
def tw1905378066819436127 := 0
def tw1598964145631161072 := 0
def tw9879895854351172405 := 0
def tw16181026365856617513 := 0
def tw17372749988106049205 := 0
def tw13174110773654379034 := 0
def tw10124167470838255333 := 0
def tw14367100679566776657 := 0
def tw18137121858468535531 := 0
def tw3560090355175030496 := 0
def tw11668390531988352852 := 0
def tw10403797596671310053 := 0
def tw2437012199716927236 := 0
def tw12976034657208667846 := 0
def tw10469293004579124550 := 0
def tw8075565684030751331 := 0
def tw1921609454367203907 := 0
def tw12799002810946147594 := 0
def tw16844384233990619381 := 0
def tw15863120192532953841 := 0
def tw16984634978059034332 := 0
def tw13626968189546650022 := 0
def tw9458969067140026080 := 0
def tw4549460943763465874 := 0
def tw8953621387722848498 := 0
def tw6618088380019681738 := 0
def tw6514353768562541892 := 0
def tw13384323652372212969 := 0
def tw17444824487155658842 := 0
def tw13360259864815812452 := 0
def tw8648470077398156023 := 0
def tw6717908996585453337 := 0
def tw429615741317744790 := 0
def tw15394940831102424953 := 0
def tw953973765794113430 := 0
def tw12280779930299867918 := 0
def tw13237799261755557251 := 0
def tw12792608646219624111 := 0
def tw2340836090435798229 := 0
def tw3165694311551412850 := 0
def tw17106706768531271620 := 0
def tw1282171693559458539 := 0
def tw3098263158428948160 := 0
def tw14059316117837146970 := 0
def tw1463754116556686394 := 0
def tw14814293756041169437 := 0
def tw1269574029148106952 := 0
def tw15790786033162778076 := 0
def tw9488385731361873927 := 0
def tw5628597630081554235 := 0
def tw8295615168267424124 := 0
def tw15239792823645391652 := 0
def tw589345606571311693 := 0
def tw16960201350609047664 := 0
def tw1556469457320492744 := 0
def tw7696856300393568956 := 0
def tw12944652236191227440 := 0
def tw10605911758757219550 := 0
def tw11098250114556161544 := 0
def tw13700602393287246189 := 0
def tw9916060060440148196 := 0
def tw5030675642891703480 := 0
def tw3605243177428973416 := 0
def tw3577403539712773061 := 0
def tw3865779788381801399 := 0
def tw10695987309237376044 := 0
def tw11410461651799286425 := 0
def tw14891542973644667583 := 0
def tw1578479304164703977 := 0
def tw3264063122477106141 := 0
def tw7865923131349764587 := 0
def tw6127421909655443580 := 0
def tw5963557714425516813 := 0
def tw4413394407511315639 := 0
def tw18351801984478193058 := 0
def tw13115471310423643054 := 0
def tw17080092214430054609 := 0
def tw11648309546511541756 := 0
def tw13537781139726662265 := 0
def tw14400881729154798891 := 0
def tw3795878926957316127 := 0
def tw10509484193238774691 := 0
def tw14610127627835917054 := 0
def tw8193994266201977374 := 0
def tw18154367772454284169 := 0
def tw14912620352696794176 := 0
def tw15607735837399056390 := 0
def tw222077356980028172 := 0
def tw11164094069001601316 := 0
def tw12675834702930723365 := 0
def tw18305026105136389027 := 0
def tw1124151558204563296 := 0
def tw14515783780618260771 := 0
def tw7773885442919134286 := 0
def tw15849042109503297485 := 0
def tw4260630288785578960 := 0
def tw16515437460601866702 := 0
def tw3037327654415267498 := 0
def tw7423275844251117420 := 0
def tw9311666744606408501 := 0
def tw832477973987452525 := 0
def tw11551019266834151108 := 0
def tw5254669137172617656 := 0
def tw12448880222272702184 := 0
def tw9516536096676373028 := 0
def tw10555677358936821420 := 0
def tw308909761473093278 := 0
def tw15365814128238218504 := 0
def tw10902660239419994367 := 0
def tw3399676935200139600 := 0
def tw5051929492833117677 := 0
def tw6802428842961542939 := 0
def tw18091990919154871231 := 0
def tw4234212821047540752 := 0
def tw13253482908759937945 := 0
def tw828983037148988604 := 0
def tw9311461994336033713 := 0
def tw14379715326065991962 := 0
def tw18375285710280234687 := 0
def tw16346603933738575851 := 0
def tw17099168587439135047 := 0
def tw12692751458355965481 := 0
def tw4248570743952223939 := 0
def tw8370068751978855611 := 0
def tw3606756807393566414 := 0
def tw17262524994018279540 := 0
def tw9500400081771890611 := 0
def tw13058585103785189039 := 0
def tw2488763747004092081 := 0
def tw2124162754964271655 := 0
def tw4182000878705371848 := 0
def tw14808735480940056582 := 0
def tw2507485725671351134 := 0
def tw13037199439511502678 := 0
def tw8626881892255460724 := 0
def tw1202159151224265611 := 0
def tw661904026318290871 := 0
def tw2170179861985641555 := 0
def tw9205210445164352534 := 0
def tw4422361978833176884 := 0
def tw13451394824654733903 := 0
def tw16085724018092163777 := 0
def tw2058301251074687577 := 0
def tw2927345432442090293 := 0
def tw10033156441314931730 := 0
def tw2891508418780116480 := 0
def tw18415303908229980067 := 0
def tw6779406657781007021 := 0
def tw11415150435923497846 := 0
def tw16910073598442772777 := 0
def tw7316985513429478208 := 0
def tw3102196626223328580 := 0
def tw18252799996476474337 := 0
def tw2086984982987337100 := 0
def tw400622641645503510 := 0
def tw9609324305627854874 := 0
def tw13969194656288117693 := 0
def tw9799869268397105384 := 0
def tw17149971473529295025 := 0
def tw3169760615373616718 := 0
def tw15829802651483396609 := 0
def tw739992789206129389 := 0
def tw9047584661907165487 := 0
def tw13642356198137601631 := 0
def tw16727527864397584942 := 0
def tw14886136939912918421 := 0
def tw14035599500664540511 := 0
def tw951576683684485378 := 0
def tw5968439272912212681 := 0
def tw11255536820307062647 := 0
def tw7777161197722474114 := 0
def tw7009712090114292345 := 0
def tw5997540845641305935 := 0
def tw15520553511781830243 := 0
def tw2781216620125327247 := 0
def tw4881739647870719170 := 0
def tw4604870342406069119 := 0
def tw13567726804033381065 := 0
def tw9955958768841489311 := 0
def tw3683463960819079018 := 0
def tw10641065595980348593 := 0
def tw11170437208050801780 := 0
def tw4863861769142400364 := 0
def tw1584090561579321049 := 0
def tw12564976665700949454 := 0
def tw10762140411841467739 := 0
def tw5246335786405279790 := 0
def tw5765658528154669876 := 0
def tw9070499643089072903 := 0
def tw4848535295003895441 := 0
def tw13827629200116464106 := 0
def tw16152811973397743826 := 0
def tw10491122205608333115 := 0
def tw14254366218885679248 := 0
def tw1114344041014177851 := 0
def tw6538513465663750820 := 0
def tw16400132722586091999 := 0
def tw8966652538820403884 := 0
def tw1755580111901062054 := 0
def tw13810387331439308150 := 0
def tw17259039260709047391 := 0
def tw14510506819748855784 := 0
def tw4113174987975320835 := 0
def tw503631113409590598 := 0
def tw14415106754783854121 := 0
def tw18241506637060134509 := 0
def tw10204897082392592160 := 0
def tw11527117307721686744 := 0
def tw16273559658334417443 := 0
def tw15518717222331856696 := 0
def tw13596174002850137156 := 0
def tw1850726028167421734 := 0
def tw16660306727858323852 := 0
def tw10661057020512157830 := 0
def tw17098341673270961101 := 0
def tw8430218048981167889 := 0
def tw3329876685689703877 := 0
def tw17928216935030532097 := 0
def tw14920569599900117577 := 0
def tw4798280922350893557 := 0
def tw11134137001452095560 := 0
def tw10440922557380208735 := 0
def tw9883081464154520944 := 0
def tw8629532026361017354 := 0
def tw11301795262078160683 := 0
def tw8326191239737744260 := 0
def tw817115917216733105 := 0
def tw8403380425898165711 := 0
def tw18314517297781633001 := 0
def tw210400290572701492 := 0
def tw9614309016471374005 := 0
def tw2854654866738526354 := 0
def tw9624357308961946407 := 0
def tw8175166855800168996 := 0
def tw3366104177708085620 := 0
def tw2966926730305110044 := 0
def tw15981383980940294292 := 0
def tw744755761597234319 := 0
def tw4888009123110733491 := 0
def tw16694891546240920218 := 0
def tw15584115915443747096 := 0
def tw17521589176115605903 := 0
def tw14351629381738754770 := 0
def tw5021245386955754973 := 0
def tw5957456731658633756 := 0
def tw13058660022973581807 := 0
def tw2190512616389747366 := 0
def tw11747338009848991181 := 0
def tw5727109019387452952 := 0
def tw1249429535147101125 := 0
def tw328143687660125725 := 0
def tw7008678097589802603 := 0
def tw147000442955527348 := 0
def tw3457090308061958107 := 0
def tw10742781626010045872 := 0
def tw14324830059506650507 := 0
def tw3946131395618726363 := 0
def tw9411741821499238386 := 0
def tw9097405847331927902 := 0
def tw15959481167524397170 := 0
def tw6321140134060767421 := 0
def tw7816972466176007510 := 0
def tw1006603537853497239 := 0
def tw13342549236420388726 := 0
def tw4264678479604892418 := 0
def tw11322695413271950779 := 0
def tw16165661092363498778 := 0
def tw7499558522107088345 := 0
def tw2446279330069471680 := 0
def tw4332220089975202011 := 0
def tw17776937054297137530 := 0
def tw10127617476931577846 := 0
def tw4848401367006640007 := 0
def tw8241334580850359629 := 0
def tw8008965240208613032 := 0
def tw12029519601362340906 := 0
def tw15771431463001236737 := 0
def tw4141659050253740108 := 0
def tw3534148561925356761 := 0
def tw1753108196786626184 := 0
def tw2048652013107223043 := 0
def tw12879671244184146310 := 0
def tw5548831730637898619 := 0
def tw10022724691455687116 := 0
def tw698551506977759643 := 0
def tw14599991559725320819 := 0
def tw17756829542278282739 := 0
def tw11881849917195257212 := 0
def tw8557195036185497569 := 0
def tw9731572593730951189 := 0
def tw12659178965749407047 := 0
def tw17099415453849554626 := 0
def tw4747958124254652250 := 0
def tw15177548721191455737 := 0
def tw13744961811201566679 := 0
def tw2697910308539183799 := 0
def tw7200258284390199717 := 0
def tw6267427911899029890 := 0
def tw16115780610708691362 := 0
def tw4537578463666413108 := 0
def tw8995572919896103319 := 0
def tw13791230043714212733 := 0
def tw15944688188891401149 := 0
def tw3242839779637029471 := 0
def tw7408951089620626268 := 0
end PySem.W.Fast
set_option maxRecDepth 100000 in
set_option maxHeartbeats 0 in
theorem PySem.Challenge.cw_tentloops_k12_two_wrongs_holds : PySem.Challenge.rw_tentloops_k12_two_wrongs.Holds := by
 w_on; o_law; k_head; (case hw => w_witness2)
 k_fill
 refine L2.walk_r (l := PySem.Challenge.rw_tentloops_k12_two_wrongs) (k := 12) (spl := KT.sp_law) rfl rfl ⟨rfl, by decide, by decide⟩ (fun w h Y => PySem.W.kIn_of Y) (fun K H a ns hl hS => KT.sp_law_start hl hS) ?F
 case F =>
  intro w mg fa h KX G hmg
  have T : ∃ t, KT.Txt w (L2.KOf KX) mg t := by
   dsimp only [L2.KOf]
   refine' ⟨⟨_, _, _, _, _, _, _, _, _, _, _, _, _, _, _, _, _, _, _, _, _, _, _, _, _, _, _, _, _, _, _, _, _, _, _, _, _, _, _, _, _, _, _, _, _, _, _, _, _, _, _, _, _, _, _, _, _, _, _, _, _, _, _, _, _, _, _, _, _, _, _, _, _, _, _, _, _, _, _, _, _, _, _, _, _, _, _, _, _, _, _, _, _, _, _, _, _, _, _, _, _, _, _, _, _, _, _, _, _, _, _, _, _, _, _, _, _, _, _, _, _, _, _, _, _, _, _, _, _, _, _, _, _, _, _, _, _, _, _, _, _, _, _, _, _, _, _, _, _, _, _, _⟩, ⟨mg_of KX G ?_, ⟨?_, ?_, ?_, ?_⟩, ?_, ?_, ?_, ?_, mg_of KX G ?_, ⟨?_, ?_, ?_, ?_⟩, ?_, ?_, ?_, ?_, mg_of KX G ?_, ⟨?_, ?_, ?_, ?_⟩, ?_, ?_, ?_, ?_, KT.FT.of KX G (KT.ba1 (fun _ _ _ _ _ _ _ _ => rfl) rfl) ?_ ?_ ?_ ?_, KT.FT.of KX G (KT.ba1 (fun _ _ _ _ _ _ _ _ => rfl) rfl) ?_ ?_ ?_ ?_, KT.FT.of KX G (KT.ba1 (fun _ _ _ _ _ _ _ _ => rfl) rfl) ?_ ?_ ?_ ?_, KT.FT.of KX G (KT.ba1 (fun _ _ _ _ _ _ _ _ => rfl) rfl) ?_ ?_ ?_ ?_, KT.FT.of KX G (KT.ba2 (fun _ _ _ _ _ _ _ _ _ => rfl) rfl) ?_ ?_ ?_ ?_, KT.FM.of (KT.ba2 (fun _ _ _ _ _ _ _ _ _ => rfl) rfl) ?_ ?_ ?_ ?_ ?_, KT.FM.of (KT.ba1 (fun _ _ _ _ _ _ _ _ => rfl) rfl) ?_ ?_ ?_ ?_ ?_, KT.FM.of (KT.ba1 (fun _ _ _ _ _ _ _ _ => rfl) rfl) ?_ ?_ ?_ ?_ ?_, KT.FM.of (KT.ba1 (fun _ _ _ _ _ _ _ _ => rfl) rfl) ?_ ?_ ?_ ?_ ?_, KT.FM.of (KT.ba1 (fun _ _ _ _ _ _ _ _ => rfl) rfl) ?_ ?_ ?_ ?_ ?_, KT.FM.of (KT.ba2 (fun _ _ _ _ _ _ _ _ _ => rfl) rfl) ?_ ?_ ?_ ?_ ?_, KT.FM.of (KT.ba2 (fun _ _ _ _ _ _ _ _ _ => rfl) rfl) ?_ ?_ ?_ ?_ ?_, KT.FM.of (KT.ba2 (fun _ _ _ _ _ _ _ _ _ => rfl) rfl) ?_ ?_ ?_ ?_ ?_, KT.FM.of (KT.ba2 (fun _ _ _ _ _ _ _ _ _ => rfl) rfl) ?_ ?_ ?_ ?_ ?_, KT.FM.of (KT.ba2 (fun _ _ _ _ _ _ _ _ _ => rfl) rfl) ?_ ?_ ?_ ?_ ?_, KT.FM.of (KT.ba2 (fun _ _ _ _ _ _ _ _ _ => rfl) rfl) ?_ ?_ ?_ ?_ ?_, KT.FT.of KX G (KT.ba1 (fun _ _ _ _ _ _ _ _ => rfl) rfl) ?_ ?_ ?_ ?_, KT.FT.of KX G (KT.ba2 (fun _ _ _ _ _ _ _ _ _ => rfl) rfl) ?_ ?_ ?_ ?_, KT.FT.of KX G (KT.ba2 (fun _ _ _ _ _ _ _ _ _ => rfl) rfl) ?_ ?_ ?_ ?_, KT.FT.of KX G (KT.ba3 (fun _ _ _ _ _ _ _ _ _ _ => rfl) rfl) ?_ ?_ ?_ ?_, KT.FT.of KX G (KT.ba4 (fun _ _ _ _ _ _ _ _ _ _ _ => rfl) rfl) ?_ ?_ ?_ ?_, KT.FT.of KX G (KT.ba2 (fun _ _ _ _ _ _ _ _ _ => rfl) rfl) ?_ ?_ ?_ ?_, KT.FT.of KX G (KT.ba3 (fun _ _ _ _ _ _ _ _ _ _ => rfl) rfl) ?_ ?_ ?_ ?_, KT.FT.of KX G (KT.ba2 (fun _ _ _ _ _ _ _ _ _ => rfl) rfl) ?_ ?_ ?_ ?_, KT.FT.of KX G (KT.ba2 (fun _ _ _ _ _ _ _ _ _ => rfl) rfl) ?_ ?_ ?_ ?_, KT.FT.of KX G (KT.ba2 (fun _ _ _ _ _ _ _ _ _ => rfl) rfl) ?_ ?_ ?_ ?_, KT.FT.of KX G (KT.ba2 (fun _ _ _ _ _ _ _ _ _ => rfl) rfl) ?_ ?_ ?_ ?_, KT.FT.of KX G (KT.ba2 (fun _ _ _ _ _ _ _ _ _ => rfl) rfl) ?_ ?_ ?_ ?_, KT.FT.of KX G (KT.ba3 (fun _ _ _ _ _ _ _ _ _ _ => rfl) rfl) ?_ ?_ ?_ ?_, KT.FT.of KX G (KT.ba2 (fun _ _ _ _ _ _ _ _ _ => rfl) rfl) ?_ ?_ ?_ ?_, KT.FT.of KX G (KT.ba2 (fun _ _ _ _ _ _ _ _ _ => rfl) rfl) ?_ ?_ ?_ ?_, KT.FT.of KX G (KT.ba2 (fun _ _ _ _ _ _ _ _ _ => rfl) rfl) ?_ ?_ ?_ ?_, KT.FT.of KX G (KT.ba3 (fun _ _ _ _ _ _ _ _ _ _ => rfl) rfl) ?_ ?_ ?_ ?_, KT.FT.of KX G (KT.ba4 (fun _ _ _ _ _ _ _ _ _ _ _ => rfl) rfl) ?_ ?_ ?_ ?_, KT.FT.of KX G (KT.ba3 (fun _ _ _ _ _ _ _ _ _ _ => rfl) rfl) ?_ ?_ ?_ ?_, KT.FT.of KX G (KT.ba2 (fun _ _ _ _ _ _ _ _ _ => rfl) rfl) ?_ ?_ ?_ ?_, KT.FT.of KX G (KT.ba2 (fun _ _ _ _ _ _ _ _ _ => rfl) rfl) ?_ ?_ ?_ ?_, KT.FT.of KX G (KT.ba2 (fun _ _ _ _ _ _ _ _ _ => rfl) rfl) ?_ ?_ ?_ ?_, KT.FT.of KX G (KT.ba1 (fun _ _ _ _ _ _ _ _ => rfl) rfl) ?_ ?_ ?_ ?_, KT.FT.of KX G (KT.ba1 (fun _ _ _ _ _ _ _ _ => rfl) rfl) ?_ ?_ ?_ ?_, KT.FT.of KX G (KT.ba2 (fun _ _ _ _ _ _ _ _ _ => rfl) rfl) ?_ ?_ ?_ ?_, KT.FT.of KX G (KT.ba3 (fun _ _ _ _ _ _ _ _ _ _ => rfl) rfl) ?_ ?_ ?_ ?_, KT.FT.of KX G (KT.ba2 (fun _ _ _ _ _ _ _ _ _ => rfl) rfl) ?_ ?_ ?_ ?_, KT.FT.of KX G (KT.ba1 (fun _ _ _ _ _ _ _ _ => rfl) rfl) ?_ ?_ ?_ ?_, KT.FM.of (KT.ba5 (fun _ _ _ _ _ _ _ _ _ _ _ _ => rfl) rfl) ?_ ?_ ?_ ?_ ?_, KT.FT.of KX G (KT.ba2 (fun _ _ _ _ _ _ _ _ _ => rfl) rfl) ?_ ?_ ?_ ?_, KT.FT.of KX G (KT.ba1 (fun _ _ _ _ _ _ _ _ => rfl) rfl) ?_ ?_ ?_ ?_, KT.FT.of KX G (KT.ba1 (fun _ _ _ _ _ _ _ _ => rfl) rfl) ?_ ?_ ?_ ?_, KT.FM.of (KT.ba2 (fun _ _ _ _ _ _ _ _ _ => rfl) rfl) ?_ ?_ ?_ ?_ ?_, KT.FM.of (KT.ba3 (fun _ _ _ _ _ _ _ _ _ _ => rfl) rfl) ?_ ?_ ?_ ?_ ?_, KT.FM.of (KT.ba4 (fun _ _ _ _ _ _ _ _ _ _ _ => rfl) rfl) ?_ ?_ ?_ ?_ ?_, KT.FT.of KX G (KT.ba2 (fun _ _ _ _ _ _ _ _ _ => rfl) rfl) ?_ ?_ ?_ ?_, KT.FT.of KX G (KT.ba2 (fun _ _ _ _ _ _ _ _ _ => rfl) rfl) ?_ ?_ ?_ ?_, KT.FT.of KX G (KT.ba3 (fun _ _ _ _ _ _ _ _ _ _ => rfl) rfl) ?_ ?_ ?_ ?_, KT.FT.of KX G (KT.ba3 (fun _ _ _ _ _ _ _ _ _ _ => rfl) rfl) ?_ ?_ ?_ ?_, KT.FT.of KX G (KT.ba1 (fun _ _ _ _ _ _ _ _ => rfl) rfl) ?_ ?_ ?_ ?_, KT.FT.of KX G (KT.ba2 (fun _ _ _ _ _ _ _ _ _ => rfl) rfl) ?_ ?_ ?_ ?_, KT.FT.of KX G (KT.ba5 (fun _ _ _ _ _ _ _ _ _ _ _ _ => rfl) rfl) ?_ ?_ ?_ ?_, KT.FT.of KX G (KT.ba5 (fun _ _ _ _ _ _ _ _ _ _ _ _ => rfl) rfl) ?_ ?_ ?_ ?_, KT.FT.of KX G (KT.ba3 (fun _ _ _ _ _ _ _ _ _ _ => rfl) rfl) ?_ ?_ ?_ ?_, KT.FT.of KX G (KT.ba4 (fun _ _ _ _ _ _ _ _ _ _ _ => rfl) rfl) ?_ ?_ ?_ ?_, KT.FT.of KX G (KT.ba1 (fun _ _ _ _ _ _ _ _ => rfl) rfl) ?_ ?_ ?_ ?_, ⟨?_, ?_, ?_, ?_⟩, ⟨?_, ?_, ?_, ?_⟩, ⟨?_, ?_, ?_, ?_⟩, mg_of KX G ?_, mg_of KX G ?_, mg_of KX G ?_, mg_of KX G ?_, mg_of KX G ?_, mg_of KX G ?_, mg_of KX G ?_, mg_of KX G ?_, mg_of KX G ?_, L2.kdict_mk2 ?_ ?_ ?_ (by decide) ?_, fun s u => .of_eq rfl, mg_none_of KX G ?_, mg_none_of KX G ?_, mg_none_of KX G ?_, mg_none_of KX G ?_, mg_none_of KX G ?_, mg_none_of KX G ?_, mg_none_of KX G ?_, mg_none_of KX G ?_, mg_none_of KX G ?_, mg_none_of KX G ?_, mg_none_of KX G ?_, mg_none_of KX G ?_, mg_none_of KX G ?_, mg_of KX G ?_, ⟨?_⟩, mg_of KX G ?_, ⟨?_⟩, mg_of KX G ?_, ⟨?_⟩, mg_of KX G ?_, ⟨?_⟩, mg_of KX G ?_, ⟨?_⟩, mg_of KX G ?_, ⟨?_⟩, mg_of KX G ?_, ⟨?_⟩, mg_of KX G ?_, ⟨?_⟩, mg_of KX G ?_, ⟨?_⟩, mg_of KX G ?_, ⟨?_⟩, mg_of KX G ?_, ⟨?_⟩, mg_of KX G ?_, ⟨?_⟩, mg_of KX G ?_, ⟨?_⟩, mg_of KX G ?_, ⟨?_⟩, mg_of KX G ?_, ⟨?_⟩, mg_of KX G ?_, ?_, ?_, ?_, ?_, ?_, ?_, ?_, ?_, ?_, ?_, ?_, ?_, ?_, ?_, ?_, ?_, ?_, ?_, ?_, ?_, ?_, ?_, ?_, ?_, ?_, ?_, ?_, ?_, ?_, ?_, ?_, ?_, ?_, ?_, ?_, ?_, ?_, ?_, ?_, ?_, ?_, ?_, ?_, ?_, ?_, ?_, ?_, ?_, ?_, ?_, ?_, ?_, ?_, ?_, ?_, ?_, ?_, ?_, ?_, ?_, ?_, ?_, ?_, ?_, ?_, ?_, ?_, ?_, ?_, ?_, ?_, ?_, ?_, ?_, ?_, ?_, ?_, ?_⟩⟩
   any_goals first | k_is | k_exc | rfl | kernel_rfl
  obtain ⟨t, T⟩ := T
  have e0 := hmg.symm.trans T.p_law.g
  cases e0
  refine' ⟨_, ?b, fun base kb nb => KT.ok_law T⟩
  exact T.bl
#print axioms PySem.Challenge.cw_tentloops_k12_two_wrongs_holds
