import PyProof.Rows.All
import Wide.All
import OpenK.AllK
import Wide.FinOn
import Lean
import PyProof.EqAt
import PyProof.EqKinds
import PyProof.TupleCall
import PySem.Challenge.RW_tentloops_k49_carried_threads
set_option Elab.async false
set_option linter.all false
set_option maxRecDepth 100000
namespace L2
open PySem PySem.Spec PyProof.Rows
noncomputable abbrev Key := Sum Int Str
noncomputable def keyIs : Key → Value → Bool
 | .inl k, v => Value.isInt k v
 | .inr x, v => Value.isStrOf x v
noncomputable def keyH (w : World) : Key → Int
 | .inl k => hashInt k
 | .inr x => hashStr w x
theorem keyIs_shape : ∀ {k : Key} {v : Value}, keyIs k v = true → (∃ i t, k = Sum.inl i ∧ v = Value.int i t) ∨ (∃ x t, k = Sum.inr x ∧ v = Value.str x t)
 | .inl i, v, h => by
  obtain ⟨t, e⟩ := Value.isInt_shape (k := i) (v := v) h
  exact .inl ⟨i, t, rfl, e⟩
 | .inr x, v, h => by
  obtain ⟨t, e⟩ := Value.isStrOf_shape (x := x) (v := v) h
  exact .inr ⟨x, t, rfl, e⟩
theorem keyIs_int (i : Int) (t : Tok) : keyIs (.inl i) (.int i t) = true := by simp [keyIs, Value.isInt]
theorem keyIs_str (x : Str) (t : Tok) : keyIs (.inr x) (.str x t) = true := by simp [keyIs, Value.isStrOf]
theorem key_ll (a b : Int) : decide ((Sum.inl a : Key) = Sum.inl b) = (a == b) := by
 by_cases e : a = b
 ·subst e; simp
 ·have h : ¬ (Sum.inl a : Key) = Sum.inl b := fun q => e (Sum.inl.inj q)
  rw [decide_eq_false h]
  exact (beq_eq_false_iff_ne.mpr e).symm
theorem key_rr (a b : Str) : decide ((Sum.inr a : Key) = Sum.inr b) = decide (a = b) := by
 by_cases e : a = b
 ·subst e; simp
 ·have h : ¬ (Sum.inr a : Key) = Sum.inr b := fun q => e (Sum.inr.inj q)
  rw [decide_eq_false h, decide_eq_false e]
theorem key_lr (a : Int) (b : Str) : decide ((Sum.inl a : Key) = Sum.inr b) = false := decide_eq_false (fun q => nomatch q)
theorem key_rl (a : Str) (b : Int) : decide ((Sum.inr a : Key) = Sum.inl b) = false := decide_eq_false (fun q => nomatch q)
noncomputable def mixKind (prog : Program) (w : World) : PySem.KeyKind prog w Key where
 is := keyIs
 hash := keyH w
 inj := fun v a b ha hb => by
  rcases keyIs_shape ha with ⟨i, t, rfl, rfl⟩ | ⟨x, t, rfl, rfl⟩
  ·rcases keyIs_shape hb with ⟨j, u, rfl, e⟩ | ⟨y, u, rfl, e⟩
   ·injection e with e1 _; rw [e1]
   ·exact nomatch e
  ·rcases keyIs_shape hb with ⟨j, u, rfl, e⟩ | ⟨y, u, rfl, e⟩
   ·exact nomatch e
   ·injection e with e1 _; rw [e1]
 byValue := fun k v h => by
  rcases keyIs_shape h with ⟨i, t, rfl, rfl⟩ | ⟨x, t, rfl, rfl⟩ <;> rfl
 pyHash := fun hv h => by
  rcases keyIs_shape hv with ⟨i, t, rfl, rfl⟩ | ⟨x, t, rfl, rfl⟩
  ·exact wpAny_pyHash_int h
  ·exact wpAny_pyHash_str h
 eqBool := fun hu hv h => by
  rcases keyIs_shape hu with ⟨i, t, rfl, rfl⟩ | ⟨x, t, rfl, rfl⟩
  ·rcases keyIs_shape hv with ⟨j, u, rfl, rfl⟩ | ⟨y, u, rfl, rfl⟩
   ·rw [key_ll] at h; exact wpAny_eqBool_int h
   ·rw [key_lr] at h; exact SeqAt.EqAt.int_str i t y u _ _ _ _ h
  ·rcases keyIs_shape hv with ⟨j, u, rfl, rfl⟩ | ⟨y, u, rfl, rfl⟩
   ·rw [key_rl] at h; exact SeqAt.EqAt.str_int x t j u _ _ _ _ h
   ·rw [key_rr] at h; exact wpAny_eqBool_str h
 «strs» := fun k x t v h => by
  rcases keyIs_shape h with ⟨i, u, rfl, e⟩ | ⟨y, u, rfl, e⟩
  ·exact nomatch e
  ·injection e with e1 _
   subst e1
   cases v <;> rfl
theorem mixKind_int (prog : Program) (w : World) (i : Int) (t : Tok) : (mixKind prog w).is (.inl i) (.int i t) = true := keyIs_int i t
theorem mixKind_str (prog : Program) (w : World) (x : Str) (t : Tok) : (mixKind prog w).is (.inr x) (.str x t) = true := keyIs_str x t
end L2
namespace L2
open PySem PySem.Spec PyProof.Rows
inductive V where
 | non | bl (b : Bool) | int (i : Int) | str (x : Str) | byt (b : Array UInt8) | flt (b : UInt64) | ref (a : Addr) | ty (n : String)
 deriving DecidableEq
set_option genInjectivity false
set_option genSizeOf false
noncomputable def RelV : V → Value → Prop
 | .non, u => u = Value.none
 | .bl b, u => u = Value.bool b
 | .int i, u => ∃ t, u = Value.int i t
 | .str x, u => ∃ t, u = Value.str x t
 | .byt b, u => ∃ t, u = Value.bytes b t
 | .flt b, u => ∃ t, u = Value.float b t
 | .ref a, u => u = Value.ref a
 | .ty n, u => u = Value.type n
noncomputable abbrev Vals : List V → List Value → Prop := Paired RelV
theorem Vals.length {xs : List V} {us : List Value} (r : Vals xs us) : xs.length = us.length := Paired.length r
theorem Vals.get : ∀ {xs : List V} {us : List Value} {i : Nat} {x : V}, Vals xs us → xs[i]? = some x → ∃ u, us[i]? = some u ∧ RelV x u
 | _, _, _, _, .nil, e => by simp at e
 | _, _, 0, _, .cons r _, e => by simp at e; subst e; exact ⟨_, rfl, r⟩
 | _, _, i + 1, x, .cons _ t, e => by
  obtain ⟨u, h1, h2⟩ := Vals.get (i := i) (x := x) t (by simpa using e)
  exact ⟨u, by simpa using h1, h2⟩
theorem Vals.set {x : V} {u : Value} (r : RelV x u) : ∀ {xs : List V} {us : List Value} (i : Nat), Vals xs us → Vals (xs.set i x) (us.set i u)
 | _, _, _, .nil => .nil
 | _, _, 0, .cons _ t => .cons r t
 | _, _, i + 1, .cons q t => .cons q (Vals.set r i t)
theorem Vals.append : ∀ {xs ys : List V} {us ws : List Value}, Vals xs us → Vals ys ws → Vals (xs ++ ys) (us ++ ws)
 | _, _, _, _, .nil, s => s
 | _, _, _, _, .cons r t, s => .cons r (Vals.append t s)
theorem Vals.take : ∀ {xs : List V} {us : List Value} (n : Nat), Vals xs us → Vals (xs.take n) (us.take n)
 | _, _, 0, _ => .nil
 | _, _, _ + 1, .nil => .nil
 | _, _, n + 1, .cons r t => .cons r (Vals.take n t)
theorem Vals.drop : ∀ {xs : List V} {us : List Value} (n : Nat), Vals xs us → Vals (xs.drop n) (us.drop n)
 | _, _, 0, r => r
 | _, _, _ + 1, .nil => .nil
 | _, _, n + 1, .cons _ t => Vals.drop n t
noncomputable def RelO : Option V → Option Value → Prop
 | some v, some u => RelV v u
 | none, none => True
 | _, _ => False
noncomputable def KV {κ : Type} : List (κ × V) → List (κ × Value) → Prop := Paired fun (p : κ × V) (q : κ × Value) => p.1 = q.1 ∧ RelV p.2 q.2
noncomputable def kV : Key → V
 | .inl i => .int i
 | .inr x => .str x
inductive HO where
 /-- a list -/
 | lst (xs : List V)
 /-- a tuple (never changes) -/
 | tup (xs : List V)
 /-- a dict whose keys are ints and texts; one whose keys are tuples of ints and texts (the empty one is both) -/
 | dK (kvs : List (Key × V)) | dT (kvs : List (List Key × V))
 /-- a set of ints: its members, its size -/
 | set (S : Int → Bool) (n : Nat)
 /-- an instance of the class at C, its dict at dx, its attributes -/
 | ins (C dx : Addr) (fs : List (Str × V))
 /-- the dict of the instance at x -/
 | own (x : Addr)
 /-- the dict of an exception -/
 | xd (fs : List (Str × V))
 /-- a bound method, f of x -/
 | met (f x : Addr)
 /-- a range object lo, lo + 1, .. below hi -/
 | rng (lo hi : Int)
 /-- a thing that is known to the object (the script; a dict while a loop walks it): read, never written while it is so -/
 | frz (o : Obj) (u : HO)
 /-- a code object's table -/
 | tbl (ps : Array Value)
 /-- any other thing, by what is true of its one object (a def of one's own: SetO a S n := HO.ext fun h => ..) -/
 | ext (φ : Heap → Prop)
noncomputable abbrev Hp := Addr → Option HO
noncomputable def upd (H : Hp) (a : Addr) (o : HO) : Hp := fun b => if b = a then some o else H b
theorem upd_same {H : Hp} {a : Addr} {o : HO} : upd H a o a = some o := by unfold upd; rw [if_pos rfl]
theorem upd_ne {H : Hp} {a b : Addr} {o : HO} (h : b ≠ a) : upd H a o b = H b := by unfold upd; rw [if_neg h]
theorem upd_upd {H : Hp} {a : Addr} {o u : HO} : upd (upd H a o) a u = upd H a u := by
 funext b; unfold upd; split <;> rfl
theorem ne_of {H : Hp} {a b : Addr} {o u : HO} (h : H a = some o) (h' : H b = some u) (d : o ≠ u) : a ≠ b := by
 intro e; subst e; rw [h] at h'; exact d (Option.some.inj h')
theorem ne_of_none {H : Hp} {a b : Addr} {o : HO} (h : H a = some o) (h' : H b = none) : a ≠ b := by
 intro e; subst e; rw [h] at h'; cases h'
section
variable (P : Program) (w : World)
noncomputable def ObjOk (H : Hp) (h : Heap) (a : Addr) : HO → Prop
 | .lst xs => xs.length ≤ sizeLine ∧ ∃ (its : List Value) (n : Nat), Vals xs its ∧ h.get? a = some { cls := .type "list", data := .seq its.toArray n }
 | .tup xs => xs.length ≤ sizeLine ∧ ∃ its : List Value, Vals xs its ∧ IsTup h a its.toArray
 | .dK kvs => kvs.length ≤ sizeLine ∧ (a == sysModules) = false ∧ ∃ vs, KV kvs vs ∧ h.DictOf (mixKind P w) a vs
 | .dT kvs => kvs.length ≤ sizeLine ∧ (a == sysModules) = false ∧ ∃ xs : List (List Key × Addr × Value),
   Paired (fun (p : List Key × V) (q : List Key × Addr × Value) => p.1 = q.1 ∧ H q.2.1 = some (.tup (p.1.map kV)) ∧ RelV p.2 q.2.2) kvs xs ∧
   ∃ o es ep, h.get? a = some o ∧ o.ExactDict ∧ o.data = .dict es ep ∧ es.toList = xs.map (entryOfKey (tupleKind (mixKind P w))) ∧ (xs.map (·.1)).Nodup
 | .set S n => h.SetOf (intKind P w) a S n
 | .ins C dx fs => H dx = some (.own a) ∧ fs.length ≤ 1000 ∧ dx ≠ a ∧ h.get? a = some (PySem.W.instObj C dx) ∧
   ∃ mA, h.Ns1 dx mA ∧ (∀ f, RelO (fs.lookup f) (mA f)) ∧ PySem.Within mA (fs.map (·.1))
 | .own _ => ∃ o, h.get? a = some o
 | .xd fs => ∃ mA, h.Ns1 a mA ∧ ∀ f, RelO (fs.lookup f) (mA f)
 | .rng lo hi => ∃ t u v, h.get? a = some { cls := .type "range", data := .fields #[.int lo t, .int hi u, .int 1 v] }
 | .frz o u => h.get? a = some o ∧ ObjOk H h a u
 | .tbl ps => h.get? a = some { cls := .none, data := .fields ps }
 | .met f x => h.get? a = some (PySem.W.methodObj (.ref f) (.ref x))
 | .ext φ => φ h ∧ (∃ o, h.get? a = some o) ∧ ∀ h1 h2 : Heap, φ h1 → (∀ o, h1.get? a = some o → h2.get? a = some o) → φ h2
noncomputable def HOk (H : Hp) (h : Heap) : Prop := ∀ a o, H a = some o → ObjOk P w H h a o
end
section
variable {P : Program} {w : World} {H H' : Hp} {h h' : Heap} {a : Addr} {o : HO}
theorem ObjOk.lt (x : ObjOk P w H h a o) : a < h.objs.size := by
 cases o with
 | lst xs => obtain ⟨_, _, _, _, e⟩ := x; exact Heap.lt_size e
 | tup xs => obtain ⟨_, _, _, p⟩ := x; exact p.lt
 | dK kvs => obtain ⟨_, _, _, _, o, _, _, e, _⟩ := x; exact Heap.lt_size e
 | dT kvs => obtain ⟨_, _, _, _, o, _, _, e, _⟩ := x; exact Heap.lt_size e
 | set S n => obtain ⟨o, _, _, _, e, _⟩ := x; exact Heap.lt_size e
 | ins C dx fs => obtain ⟨_, _, _, e, _⟩ := x; exact Heap.lt_size e
 | own y => obtain ⟨_, e⟩ := x; exact Heap.lt_size e
 | xd fs => obtain ⟨_, ⟨_, _, _, e, _⟩, _⟩ := x; exact Heap.lt_size e
 | rng lo hi => obtain ⟨_, _, _, e⟩ := x; exact Heap.lt_size e
 | frz ob u => obtain ⟨e, _⟩ := x; exact Heap.lt_size e
 | tbl ps => exact Heap.lt_size (show h.get? a = some _ from x)
 | met f y => exact Heap.lt_size (show h.get? a = some _ from x)
 | ext φ => obtain ⟨_, ⟨_, e⟩, _⟩ := x; exact Heap.lt_size e
theorem Paired.mapP {α β : Type} {F G : α → β → Prop} : ∀ {l₁ : List α} {l₂ : List β}, Paired F l₁ l₂ → (∀ a b, F a b → G a b) → Paired G l₁ l₂
 | _, _, .nil, _ => .nil
 | _, _, .cons r t, f => .cons (f _ _ r) (Paired.mapP t f)
theorem ObjOk.stay (x : ObjOk P w H h a o) (k : ∀ b u, (b = a ∨ H b = some (.own a)) → h.get? b = some u → h'.get? b = some u)
  (ho : ∀ b, H b = some (.own a) → H' b = some (.own a)) (ht : ∀ b xs, H b = some (.tup xs) → H' b = some (.tup xs)) : ObjOk P w H' h' a o := by
 induction o with
 | lst xs => obtain ⟨z, its, n, r, e⟩ := x; exact ⟨z, its, n, r, k _ _ (.inl rfl) e⟩
 | tup xs => obtain ⟨z, its, r, ob, e, c⟩ := x; exact ⟨z, its, r, ob, k _ _ (.inl rfl) e, c⟩
 | dK kvs => obtain ⟨z, y, vs, r, ob, es, ep, e, c⟩ := x; exact ⟨z, y, vs, r, ob, es, ep, k _ _ (.inl rfl) e, c⟩
 | dT kvs =>
  obtain ⟨z, y, xs, r, ob, es, ep, e, c⟩ := x
  exact ⟨z, y, xs, Paired.mapP r fun p q z => ⟨z.1, ht _ _ z.2.1, z.2.2⟩, ob, es, ep, k _ _ (.inl rfl) e, c⟩
 | set S n => obtain ⟨ob, es, ep, t, e, c⟩ := x; exact ⟨ob, es, ep, t, k _ _ (.inl rfl) e, c⟩
 | ins C dx fs =>
  obtain ⟨d, z, ne, e, mA, ⟨od, es, ep, e2, c⟩, r⟩ := x
  exact ⟨ho _ d, z, ne, k _ _ (.inl rfl) e, mA, ⟨od, es, ep, k _ _ (.inr d) e2, c⟩, r⟩
 | own y => obtain ⟨ob, e⟩ := x; exact ⟨ob, k _ _ (.inl rfl) e⟩
 | xd fs => obtain ⟨mA, ⟨od, es, ep, e, c⟩, r⟩ := x; exact ⟨mA, ⟨od, es, ep, k _ _ (.inl rfl) e, c⟩, r⟩
 | rng lo hi => obtain ⟨t, u, v, e⟩ := x; exact ⟨t, u, v, k _ _ (.inl rfl) e⟩
 | frz ob u ih => obtain ⟨e, q⟩ := x; exact ⟨k _ _ (.inl rfl) e, ih q⟩
 | tbl ps =>
  have e : h.get? a = some { cls := .none, data := .fields ps } := x
  show h'.get? a = some { cls := .none, data := .fields ps }
  exact k a _ (.inl rfl) e
 | met f y =>
  have e : h.get? a = some (PySem.W.methodObj (.ref f) (.ref y)) := x
  show h'.get? a = some (PySem.W.methodObj (.ref f) (.ref y))
  exact k a _ (.inl rfl) e
 | ext φ => obtain ⟨p, ⟨o, e⟩, st⟩ := x; exact ⟨st _ _ p fun o q => k _ _ (.inl rfl) q, ⟨o, k _ _ (.inl rfl) e⟩, st⟩
theorem HOk.lt (x : HOk P w H h) (e : H a = some o) : a < h.objs.size := (x a o e).lt
theorem HOk.fresh (x : HOk P w H h) (e : h.objs.size ≤ a) : H a = none := by
 cases q : H a with
 | none => rfl
 | some u => exact absurd (Nat.lt_of_lt_of_le (x.lt q) e) (Nat.lt_irrefl _)
theorem HOk.kept (x : HOk P w H h) (k : ∀ b u, h.get? b = some u → h'.get? b = some u) : HOk P w H h' := fun a o e =>
 (x a o e).stay (fun b u _ q => k b u q) (fun _ q => q) fun _ _ q => q
theorem HOk.laid (x : HOk P w H h) (k : ∀ b u, h.get? b = some u → h'.get? b = some u) (hp : h.objs.size ≤ a) (new : ObjOk P w (upd H a o) h' a o) : HOk P w (upd H a o) h' := fun b u e => by
 have hn := x.fresh hp
 by_cases hb : b = a
 ·subst hb; rw [upd_same] at e; cases e; exact new
 ·rw [upd_ne hb] at e
  exact (x b u e).stay (fun c v _ q => k c v q) (fun c q => by rw [upd_ne (ne_of_none q hn)]; exact q) fun c xs q => by rw [upd_ne (ne_of_none q hn)]; exact q
end
noncomputable def Rd (H : Hp) (a : Addr) (u : HO) : Prop := H a = some u ∨ ∃ o, H a = some (.frz o u)
theorem Rd.ok {P : Program} {w : World} {H : Hp} {h : Heap} {a : Addr} {u : HO} (r : Rd H a u) (x : HOk P w H h) : ObjOk P w H h a u := by
 rcases r with r | ⟨o, r⟩
 ·exact x a u r
 ·obtain ⟨_, q⟩ := x a _ r
  exact q
noncomputable def Mut : Option HO → Prop
 | some (.lst _) => True
 | some (.dK _) => True
 | some (.dT _) => True
 | some (.set _ _) => True
 | some (.ins _ _ _) => True
 | some (.ext _) => True
 | _ => False
section
variable {P : Program} {w : World} {H : Hp} {h h' : Heap} {x e : Addr} {o' : HO}
theorem HOk.write (ok : HOk P w H h) (mu : Mut (H x)) (he : e = x ∨ H e = some (.own x)) (k : ∀ b u, b ≠ e → h.get? b = some u → h'.get? b = some u) (heo : ∃ u, h'.get? e = some u)
  (new : ObjOk P w (upd H x o') h' x o') : HOk P w (upd H x o') h' := fun b u q => by
 have nown : ∀ c y, H c = some (.own y) → c ≠ x := fun c y r z => by subst z; rw [r] at mu; exact mu
 have ntup : ∀ c xs, H c = some (.tup xs) → c ≠ x := fun c xs r z => by subst z; rw [r] at mu; exact mu
 by_cases hb : b = x
 ·subst hb; rw [upd_same] at q; cases q; exact new
 ·rw [upd_ne hb] at q
  by_cases hbe : b = e
  ·have q' : H b = some (.own x) := by
    rcases he with z | z
    ·exact absurd (hbe.trans z) hb
    ·rw [hbe]; exact z
   rw [q] at q'; cases q'
   obtain ⟨v, hv⟩ := heo
   exact ⟨v, by rw [hbe]; exact hv⟩
  ·refine (ok b u q).stay (fun c v hc r => k c v ?_ r) (fun c r => by rw [upd_ne (nown c b r)]; exact r) fun c xs r => by rw [upd_ne (ntup c xs r)]; exact r
   rcases hc with rfl | hc
   ·exact hbe
   ·rintro rfl
    rcases he with z | z
    ·exact nown c b hc z
    ·rw [hc] at z; cases z; exact hb rfl
end
structure Un (fs ex : List Addr) (H H' : Hp) (h h' : Heap) : Prop where
 keep : ∀ b o, h.get? b = some o → H b = none → b ∉ fs → b ∉ ex → h'.get? b = some o
 slot : ∀ b o, h.get? b = some o → H b = none → b ∈ fs → b ∉ ex → ∃ sl, h'.get? b = some { o with slots := sl }
 free : ∀ b o, h.get? b = some o → H b = none → b ∉ ex → H' b = none
 there : ∀ b o, h.get? b = some o → b ∉ ex → ∃ o', h'.get? b = some o'
 tups : ∀ b xs, H b = some (.tup xs) → H' b = some (.tup xs)
 frzs : ∀ b o u, H b = some (.frz o u) → H' b = some (.frz o u)
 tbls : ∀ b ps, H b = some (.tbl ps) → ∃ more, H' b = some (.tbl (ps ++ more))
section
variable {fs fs' ex ex' : List Addr} {H H1 H2 : Hp} {h h1 h2 h' : Heap} {a x e : Addr} {o : HO}
theorem Un.any (u : Un fs ex H H1 h h1) {b : Addr} {ob : Obj} (q : h.get? b = some ob) (n : H b = none) (hx : b ∉ ex) : ∃ sl, h1.get? b = some { ob with slots := sl } := by
 by_cases hb : b ∈ fs
 ·exact u.slot b ob q n hb hx
 ·exact ⟨ob.slots, u.keep b ob q n hb hx⟩
theorem Un.kept (k : ∀ b u, h.get? b = some u → h'.get? b = some u) : Un fs ex H H h h' :=
 ⟨fun b ob q _ _ _ => k b ob q, fun b ob q _ _ _ => ⟨ob.slots, k b ob q⟩, fun _ _ _ n _ => n, fun b ob q _ => ⟨ob, k b ob q⟩, fun _ _ q => q, fun _ _ _ q => q, fun _ ps q => ⟨#[], by rw [q]; simp⟩⟩
theorem Un.refl : Un fs ex H H h h := Un.kept fun _ _ q => q
theorem Un.laid (k : ∀ b u, h.get? b = some u → h'.get? b = some u) (hp : h.objs.size ≤ a) (hn : H a = none) : Un fs ex H (upd H a o) h h' where
 keep := fun b u q _ _ _ => k b u q
 slot := fun b u q _ _ _ => ⟨u.slots, k b u q⟩
 free := fun b u q n _ => by rw [upd_ne (Nat.ne_of_lt (Nat.lt_of_lt_of_le (Heap.lt_size q) hp))]; exact n
 there := fun b u q _ => ⟨u, k b u q⟩
 tups := fun b xs q => by rw [upd_ne (ne_of_none q hn)]; exact q
 frzs := fun b u xs q => by rw [upd_ne (ne_of_none q hn)]; exact q
 tbls := fun b ps q => ⟨#[], by rw [upd_ne (ne_of_none q hn), q]; simp⟩
theorem Un.write (mu : Mut (H x)) (he : e = x ∨ H e = some (.own x)) (k : ∀ b u, b ≠ e → h.get? b = some u → h'.get? b = some u) (heo : ∃ u, h'.get? e = some u) : Un fs ex H (upd H x o) h h' := by
 have hx : ∀ b, H b = none → b ≠ x := fun b n z => by subst z; rw [n] at mu; exact mu
 have hb : ∀ b, H b = none → b ≠ e := fun b n z => by
  subst z
  rcases he with r | r
  ·exact hx b n r
  ·rw [n] at r; cases r
 have hm : ∀ b u, H b = some u → ¬ Mut (some u) → b ≠ x := fun b u q nm z => by subst z; rw [q] at mu; exact nm mu
 refine ⟨fun b u q n _ _ => k b u (hb b n) q, fun b u q n _ _ => ⟨u.slots, k b u (hb b n) q⟩, fun b u q n _ => by rw [upd_ne (hx b n)]; exact n, fun b u q _ => ?_,
  fun b xs q => by rw [upd_ne (hm b _ q fun z => z)]; exact q, fun b u xs q => by rw [upd_ne (hm b _ q fun z => z)]; exact q, fun b ps q => ⟨#[], by rw [upd_ne (hm b _ q fun z => z), q]; simp⟩⟩
 by_cases hbe : b = e
 ·subst hbe; exact heo
 ·exact ⟨u, k b u hbe q⟩
end
noncomputable def trk (h : Heap) (H : Hp) : List Addr := (List.range h.objs.size).filter fun a => (H a).isSome
noncomputable def hidT (h : Heap) (H : Hp) : Heap := PySem.W.hideAll h (trk h H)
theorem hidT_size (h : Heap) (H : Hp) : (hidT h H).objs.size = h.objs.size := PySem.W.hideAll_size _ _
theorem hidT_get {h : Heap} {H : Hp} {b : Addr} {o : Obj} (e : h.get? b = some o) (n : H b = none) : (hidT h H).get? b = some o :=
 PySem.W.hideAll_get _ e fun hm => by
  have q : (H b).isSome = true := (List.mem_filter.mp hm).2
  rw [n] at q; simp at q
theorem of_hidT {h : Heap} {H : Hp} {b : Addr} {o : Obj} (e : (hidT h H).get? b = some o) : h.get? b = some o ∧ H b = none := by
 have e' : h.get? b = some o := PySem.W.of_hideAll (trk h H) e
 refine ⟨e', ?_⟩
 cases q : H b with
 | none => rfl
 | some x =>
  have hm : b ∈ trk h H := List.mem_filter.mpr ⟨List.mem_range.mpr (Heap.lt_size e'), by simp [q]⟩
  have z : (hidT h H).get? b = none := PySem.W.hideAll_none (trk h H) hm
  rw [z] at e; cases e
noncomputable def allNews (g h : Heap) (L : Addr) : List (Addr × Obj) := (List.range h.objs.size).filterMap fun a => if a = L ∨ (g.get? a).isSome = true then none else (h.get? a).map fun o => (a, o)
noncomputable def rest (g h : Heap) (L d : Addr) : List (Addr × Obj) := (allNews g h L).filter fun p => decide (p.1 ≠ d)
end L2
namespace L2
open PySem PySem.Spec PyProof.Rows
structure Mod (K : PySem.W.Frag) (mg : Str → Option Value) (base : Heap) : Prop where
 kin : K.In base
 glob : base.Ns mainGlobals mg
 blt : ∃ mb, base.Ns builtinsNs mb ∧ ∀ x : Str, x ≠ "__name__" → mb x = bootBuiltins x
 nolimit : base.NoLimit
structure Cx where
 prog : Program
 w : World
 K : PySem.W.Frag
 mg : Str → Option Value
 base : Heap
 A : Around
 N : List Str
 s₀ : Shared
 H₀ : Hp
 env : Env
 outer : List Env
 stack : List Env
 ex : List Addr
 fn : Str → Bool
 calm : Bool
 pn : List (Addr × Obj)
 xe : Value → Shared → Prop
noncomputable def frs (l : List Env) : List Addr := l.filterMap (·.frame)
noncomputable abbrev Cx.fs (X : Cx) : List Addr := frs X.outer
noncomputable def Vis (sc : Scope) (x : Str) : Prop := sc.names.lookup x = some .local ∨ sc.names.lookup x = some .cell ∨ sc.names.lookup x = some .free
noncomputable def Loc (sc : Scope) (x : Str) : Prop := sc.names.lookup x = some .local ∨ sc.names.lookup x = some .cell
noncomputable def Look (env : Env) (h : Heap) (m : Str → Option Value) (x : Str) (u : Value) : Prop :=
 (env.kindOf x = some .local ∧ m x = some u) ∨ ((env.kindOf x = some .cell ∨ env.kindOf x = some .free) ∧ ∃ c, env.cells.lookup x = some c ∧ h.IsCell c (some u))
structure Cx.Ok (X : Cx) : Prop where
 mod : Mod X.K X.mg X.base
 kind : X.env.scope.kind = .function
 glob : X.env.globals = mainGlobals
 blt : X.env.builtins = builtinsNs
 above : X.s₀.heap.objs.size ≤ X.env.locals
 inj : ∀ x y c, X.env.cells.lookup x = some c → X.env.cells.lookup y = some c → x = y
 has : ∀ x, (X.env.kindOf x = some .cell ∨ X.env.kindOf x = some .free) → ∃ c, X.env.cells.lookup x = some c
 cab : ∀ x c, X.fn x = true → X.env.cells.lookup x = some c → X.s₀.heap.objs.size ≤ c
 hd : X.calm = true → X.A.handled = none
 frames : X.A.frames = some X.stack
 stk : X.stack = X.outer ∨ (X.stack = X.env :: X.outer ∧ X.env.frame = some X.env.locals)
 exf : ∀ b ∈ X.ex, b ≠ X.env.locals ∧ ∀ x c, X.env.cells.lookup x = some c → c ≠ b
 bs : ∀ b o, X.base.get? b = some o → X.s₀.heap.get? b = some o ∧ X.H₀ b = none
 bsz : X.base.objs.size ≤ X.s₀.heap.objs.size
 noex : ∀ b o, X.base.get? b = some o → b ∉ X.ex
 exfs : ∀ b ∈ X.ex, b ∉ X.fs
 funs : X.s₀.heap.FunFrames X.base X.outer
 frf : ∀ b ∈ X.fs, X.H₀ b = none
structure Inv (X : Cx) (pins : List (Addr × Obj)) (σ : List (Option V)) (H : Hp) (s : Shared) : Prop where
 ok : X.Ok
 os : s.os = X.s₀.os
 bare : AllBare s.gens
 base : Un X.fs X.ex X.H₀ H X.s₀.heap s.heap
 loc : ∃ m, s.heap.Ns X.env.locals m ∧ ∀ (i : Nat) (x : Str) (v : V), X.N[i]? = some x → σ[i]? = some (some v) → Vis X.env.scope x → ∃ u, RelV v u ∧ Look X.env s.heap m x u
 cell : ∀ x c, X.env.cells.lookup x = some c → ∃ v, s.heap.IsCell c v
 free : H X.env.locals = none
 freeC : ∀ x c, X.env.cells.lookup x = some c → H c = none
 pin : ∀ p ∈ X.pn ++ pins, s.heap.get? p.1 = some p.2 ∧ H p.1 = none ∧ p.1 ≠ X.env.locals ∧ p.1 ∉ X.fs ∧ ∀ v, p.2.data ≠ .cell v
 hok : HOk X.prog X.w H s.heap
 len : σ.length = X.N.length
section
variable {X : Cx} {pins : List (Addr × Obj)} {σ : List (Option V)} {H H' : Hp} {s : Shared} {h' : Heap}
theorem Cx.Ok.nofr (ok : X.Ok) {b : Addr} {o : Obj} (e : X.base.get? b = some o) : b ∉ X.fs := fun hb => by
 have := (ok.funs.mem hb).1
 rw [e] at this; cases this
theorem Inv.bs (I : Inv X pins σ H s) : ∀ b o, X.base.get? b = some o → s.heap.get? b = some o ∧ H b = none := fun b o e =>
 ⟨I.base.keep b o (I.ok.bs b o e).1 (I.ok.bs b o e).2 (I.ok.nofr e) (I.ok.noex b o e), I.base.free b o (I.ok.bs b o e).1 (I.ok.bs b o e).2 (I.ok.noex b o e)⟩
theorem Inv.bk (I : Inv X pins σ H s) : ∀ b o, X.base.get? b = some o → s.heap.get? b = some o := fun b o e => (I.bs b o e).1
theorem Inv.mod (I : Inv X pins σ H s) : Mod X.K X.mg X.base := I.ok.mod
theorem Inv.kIn (I : Inv X pins σ H s) : X.K.In s.heap := I.ok.mod.kin.keeps I.bk
theorem Inv.lt (I : Inv X pins σ H s) : X.env.locals < s.heap.objs.size := let ⟨_, hn, _⟩ := I.loc; hn.lt
theorem Inv.sz (I : Inv X pins σ H s) : X.s₀.heap.objs.size ≤ s.heap.objs.size := Nat.le_trans I.ok.above (Nat.le_of_lt I.lt)
theorem Inv.nofs (I : Inv X pins σ H s) {a : Addr} (h : s.heap.objs.size ≤ a) : a ∉ X.fs := fun hb => by
 obtain ⟨_, o, ho, _⟩ := I.ok.funs.mem hb
 exact absurd (Nat.lt_of_lt_of_le (Heap.lt_size ho) (Nat.le_trans I.sz h)) (Nat.lt_irrefl _)
theorem Inv.cne (I : Inv X pins σ H s) : ∀ x c, X.env.cells.lookup x = some c → c ≠ X.env.locals := fun x c e z => by
 obtain ⟨v, o, ho, hd⟩ := I.cell x c e
 obtain ⟨m, ⟨o', es, ep, ho', hd', _⟩, _⟩ := I.loc
 rw [z, ho'] at ho; cases ho; rw [hd'] at hd; cases hd
theorem Inv.funs (I : Inv X pins σ H s) : s.heap.FunFrames X.base X.outer := by
 have all : ∀ (l : List Env), (∀ b ∈ frs l, b ∈ X.fs) → X.s₀.heap.FunFrames X.base l → s.heap.FunFrames X.base l := by
  intro l
  induction l with
  | nil => intro _ _; trivial
  | cons env r ih =>
   intro hs hl
   obtain ⟨hk, ⟨L, o, hf, hn, ho, hd⟩, hr⟩ := hl
   have hL : L ∈ X.fs := hs L (by unfold frs; rw [List.filterMap_cons, hf]; exact List.mem_cons_self)
   obtain ⟨sl, e⟩ := I.base.slot L o ho (I.ok.frf L hL) hL fun z => I.ok.exfs L z hL
   exact ⟨hk, ⟨L, _, hf, hn, e, hd⟩, ih (fun b hb => hs b (by unfold frs; rw [List.filterMap_cons, hf]; exact List.mem_cons_of_mem _ hb)) hr⟩
 exact all X.outer (fun _ hb => hb) I.ok.funs
theorem Inv.stack (I : Inv X pins σ H s) : s.heap.FunFrames X.base X.stack := by
 rcases I.ok.stk with e | ⟨e, hf⟩
 ·rw [e]; exact I.funs
 ·rw [e]
  obtain ⟨m, hn, _⟩ := I.loc
  refine .cons (by rw [I.ok.kind]; decide) hf hn ?_ I.funs
  exact Heap.get?_none_of_le (Nat.le_trans I.ok.bsz I.ok.above)
theorem Inv.stkSub (I : Inv X pins σ H s) : ∀ b ∈ frs X.stack, b ∈ X.env.locals :: X.fs := fun b hb => by
 rcases I.ok.stk with e | ⟨e, hf⟩
 ·rw [e] at hb; exact List.mem_cons_of_mem _ hb
 ·rw [e] at hb
  unfold frs at hb
  rw [List.filterMap_cons, hf] at hb
  exact hb
theorem Inv.stkFree (I : Inv X pins σ H s) : ∀ b ∈ frs X.stack, H b = none := fun b hb => by
 rcases List.mem_cons.mp (I.stkSub b hb) with e | hb
 ·rw [e]; exact I.free
 ·obtain ⟨_, o, ho, _⟩ := I.ok.funs.mem hb
  exact I.base.free b o ho (I.ok.frf b hb) fun z => I.ok.exfs b z hb
theorem Inv.step {g' : Array GenState} {t' : Nat} {d' : Drawn} {ch : List Addr} (I : Inv X pins σ H s)
  (hch : ∀ b ∈ ch, (b ∈ X.ex ∨ X.s₀.heap.objs.size ≤ b) ∧ b ≠ X.env.locals ∧ (∀ x c, X.env.cells.lookup x = some c → c ≠ b) ∧ ∀ p ∈ X.pn ++ pins, p.1 ≠ b)
  (keep : ∀ b o, b ≠ X.env.locals → b ∉ X.fs → b ∉ ch → s.heap.get? b = some o → H b = none → h'.get? b = some o)
  (slot : ∀ b o, b ≠ X.env.locals → b ∈ X.fs → b ∉ ch → s.heap.get? b = some o → H b = none → ∃ sl, h'.get? b = some { o with slots := sl }) (free : ∀ b o, b ∉ ch → s.heap.get? b = some o → H b = none → H' b = none)
  (there : ∀ b o, b ∉ ch → s.heap.get? b = some o → ∃ o', h'.get? b = some o')
  (tups : ∀ b xs, H b = some (.tup xs) → H' b = some (.tup xs)) (frzs : ∀ b o u, H b = some (.frz o u) → H' b = some (.frz o u)) (tbls : ∀ b ps, H b = some (.tbl ps) → ∃ more, H' b = some (.tbl (ps ++ more)))
  (ns : ∀ m, s.heap.Ns X.env.locals m → h'.Ns X.env.locals m) (hok : HOk X.prog X.w H' h') (hg : AllBare g') :
  Inv X pins σ H' { s with heap := h', gens := g', drawn := d', toks := t' } := by
 have neL : ∀ b o, X.s₀.heap.get? b = some o → b ≠ X.env.locals := fun b o e => Nat.ne_of_lt (Nat.lt_of_lt_of_le (Heap.lt_size e) I.ok.above)
 have neC : ∀ b o, X.s₀.heap.get? b = some o → b ∉ X.ex → b ∉ ch := fun b o e hx hb => by
  rcases (hch b hb).1 with z | z
  ·exact hx z
  ·exact absurd (Nat.lt_of_lt_of_le (Heap.lt_size e) z) (Nat.lt_irrefl _)
 have cellK : ∀ x c, X.env.cells.lookup x = some c → ∀ v, s.heap.IsCell c v → h'.IsCell c v := fun x c e v ⟨o, ho, hd⟩ => by
  have nch : c ∉ ch := fun z => (hch c z).2.2.1 x c e rfl
  by_cases hc : c ∈ X.fs
  ·obtain ⟨sl, q⟩ := slot c o (I.cne x c e) hc nch ho (I.freeC x c e)
   exact ⟨_, q, hd⟩
  ·exact ⟨o, keep c o (I.cne x c e) hc nch ho (I.freeC x c e), hd⟩
 refine ⟨I.ok, I.os, hg, ⟨fun b o e n hb hx => ?_, fun b o e n hb hx => ?_, fun b o e n hx => ?_, fun b o e hx => ?_, fun b xs e => tups b xs (I.base.tups b xs e), fun b o xs e => frzs b o xs (I.base.frzs b o xs e), fun b ps e => ?_⟩, ?_, fun x c e => ?_, ?_, fun x c e => ?_, fun p hp => ?_, hok, I.len⟩
 ·exact keep b o (neL b o e) hb (neC b o e hx) (I.base.keep b o e n hb hx) (I.base.free b o e n hx)
 ·obtain ⟨sl, e1⟩ := I.base.slot b o e n hb hx
  obtain ⟨sl', e2⟩ := slot b _ (neL b o e) hb (neC b o e hx) e1 (I.base.free b o e n hx)
  exact ⟨sl', e2⟩
 ·obtain ⟨o', e1⟩ := I.base.there b o e hx
  exact free b o' (neC b o e hx) e1 (I.base.free b o e n hx)
 ·obtain ⟨o', e1⟩ := I.base.there b o e hx
  exact there b o' (neC b o e hx) e1
 ·obtain ⟨m1, e1⟩ := I.base.tbls b ps e
  obtain ⟨m2, e2⟩ := tbls b _ e1
  exact ⟨m1 ++ m2, by rw [e2, Array.append_assoc]⟩
 ·obtain ⟨m, hn, hl⟩ := I.loc
  refine ⟨m, ns m hn, fun i x v e1 e2 e3 => ?_⟩
  obtain ⟨u, r, l⟩ := hl i x v e1 e2 e3
  refine ⟨u, r, ?_⟩
  rcases l with l | ⟨k, c, e, z⟩
  ·exact .inl l
  ·exact .inr ⟨k, c, e, cellK x c e _ z⟩
 ·obtain ⟨v, z⟩ := I.cell x c e
  exact ⟨v, cellK x c e v z⟩
 ·obtain ⟨m, ⟨o, _, _, ho, _⟩, _⟩ := I.loc
  exact free _ o (fun z => (hch _ z).2.1 rfl) ho I.free
 ·obtain ⟨v, o, ho, hd⟩ := I.cell x c e
  exact free c o (fun z => (hch c z).2.2.1 x c e rfl) ho (I.freeC x c e)
 ·obtain ⟨e, n, ne, nf, d⟩ := I.pin p hp
  have nch : p.1 ∉ ch := fun z => (hch p.1 z).2.2.2 p hp rfl
  exact ⟨keep p.1 p.2 ne nf nch e n, free p.1 p.2 nch e n, ne, nf, d⟩
theorem Inv.un {t' : Nat} (I : Inv X pins σ H s) (u : Un X.fs [] H H' s.heap h') (hok : HOk X.prog X.w H' h') : Inv X pins σ H' { s with heap := h', toks := t' } := by
 obtain ⟨m, ⟨o, es, ep, ho, r⟩, _⟩ := id I.loc
 obtain ⟨sl, hL⟩ := u.any ho I.free (by simp)
 exact I.step (g' := s.gens) (d' := s.drawn) (ch := []) (fun _ z => nomatch z) (fun b o _ hb _ e n => u.keep b o e n hb (by simp)) (fun b o _ hb _ e n => u.slot b o e n hb (by simp)) (fun b o _ e n => u.free b o e n (by simp)) (fun b o _ e => u.there b o e (by simp)) u.tups u.frzs u.tbls (fun m' hm => by
  obtain ⟨o', es', ep', ho', r'⟩ := hm
  rw [ho] at ho'; cases ho'
  exact ⟨_, es', ep', hL, r'⟩) hok I.bare
theorem Inv.call {g' : Array GenState} {t' : Nat} {d' : Drawn} {ch : List Addr} (I : Inv X pins σ H s) (u : Un (frs X.stack) ch H H' s.heap h') (hok : HOk X.prog X.w H' h') (hg : AllBare g')
  (hch : ∀ b ∈ ch, (b ∈ X.ex ∨ X.s₀.heap.objs.size ≤ b) ∧ b ≠ X.env.locals ∧ (∀ x c, X.env.cells.lookup x = some c → c ≠ b) ∧ ∀ p ∈ X.pn ++ pins, p.1 ≠ b) :
  Inv X pins σ H' { s with heap := h', gens := g', drawn := d', toks := t' } := by
 obtain ⟨m, ⟨o, es, ep, ho, r⟩, _⟩ := id I.loc
 obtain ⟨sl, hL⟩ := u.any ho I.free fun z => (hch _ z).2.1 rfl
 exact I.step (ch := ch) hch (fun b o hL hb hc e n => u.keep b o e n (fun z => (List.mem_cons.mp (I.stkSub b z)).elim hL hb) hc) (fun b o _ _ hc e n => u.any e n hc) (fun b o hc e n => u.free b o e n hc) (fun b o hc e => u.there b o e hc) u.tups u.frzs u.tbls (fun m' hm => by
  obtain ⟨o', es', ep', ho', r'⟩ := hm
  rw [ho] at ho'; cases ho'
  exact ⟨_, es', ep', hL, r'⟩) hok hg
theorem Inv.turned {t' : Nat} {it : Addr} (I : Inv X pins σ H s) (k : ∀ b o, b ≠ it → s.heap.get? b = some o → h'.get? b = some o) (hn : H it = none) (hL : it ≠ X.env.locals)
  (h1 : it ∈ X.ex ∨ X.s₀.heap.objs.size ≤ it) (h2 : ∀ x c, X.env.cells.lookup x = some c → c ≠ it) (h3 : ∀ p ∈ X.pn ++ pins, p.1 ≠ it) : Inv X pins σ H { s with heap := h', toks := t' } := by
 have nit : ∀ b u, H b = some u → b ≠ it := fun b u e z => by rw [z, hn] at e; cases e
 refine I.step (g' := s.gens) (d' := s.drawn) (ch := [it]) (fun b hb => ?_) (fun b o _ _ hc e _ => k b o (fun z => hc (by simp [z])) e) (fun b o _ _ hc e _ => ⟨o.slots, k b o (fun z => hc (by simp [z])) e⟩) (fun _ _ _ _ n => n)
  (fun b o hc e => ⟨o, k b o (fun z => hc (by simp [z])) e⟩) (fun _ _ e => e) (fun _ _ _ e => e) (fun b ps e => ⟨#[], by rw [e]; simp⟩) (fun m hm => ?_) (fun b u e => ?_) I.bare
 ·have e : b = it := by simpa using hb
  subst e
  exact ⟨h1, hL, h2, h3⟩
 ·obtain ⟨o, es, ep, ho, r⟩ := hm
  exact ⟨o, es, ep, k _ o (Ne.symm hL) ho, r⟩
 ·refine (I.hok b u e).stay (fun c v hc q => k c v ?_ q) (fun _ q => q) fun _ _ q => q
  rcases hc with z | z
  ·rw [z]; exact nit b u e
  ·exact nit c _ z
theorem Inv.tok (I : Inv X pins σ H s) (t : Nat) : Inv X pins σ H { s with toks := t } := I.un (h' := s.heap) (t' := t) Un.refl I.hok
theorem Inv.kept {t' : Nat} (I : Inv X pins σ H s) (k : ∀ b u, s.heap.get? b = some u → h'.get? b = some u) : Inv X pins σ H { s with heap := h', toks := t' } := I.un (Un.kept k) (I.hok.kept k)
theorem Inv.laid {a : Addr} {o : HO} {t' : Nat} (I : Inv X pins σ H s) (k : ∀ b u, s.heap.get? b = some u → h'.get? b = some u) (hp : s.heap.objs.size ≤ a) (new : ObjOk X.prog X.w (upd H a o) h' a o) :
  Inv X pins σ (upd H a o) { s with heap := h', toks := t' } := I.un (Un.laid k hp (I.hok.fresh hp)) (I.hok.laid k hp new)
theorem Inv.write {x e : Addr} {o : HO} {t' : Nat} (I : Inv X pins σ H s) (mu : Mut (H x)) (he : e = x ∨ H e = some (.own x)) (k : ∀ b u, b ≠ e → s.heap.get? b = some u → h'.get? b = some u) (heo : ∃ u, h'.get? e = some u)
  (new : ObjOk X.prog X.w (upd H x o) h' x o) : Inv X pins σ (upd H x o) { s with heap := h', toks := t' } := I.un (Un.write mu he k heo) (I.hok.write mu he k heo new)
theorem Inv.pins_of {pins' : List (Addr × Obj)} (I : Inv X pins σ H s) (h : ∀ p ∈ pins', s.heap.get? p.1 = some p.2 ∧ H p.1 = none ∧ p.1 ≠ X.env.locals ∧ p.1 ∉ X.fs ∧ ∀ v, p.2.data ≠ .cell v) : Inv X pins' σ H s :=
 ⟨I.ok, I.os, I.bare, I.base, I.loc, I.cell, I.free, I.freeC, fun p hp => (List.mem_append.mp hp).elim (fun z => I.pin p (List.mem_append_left _ z)) (h p), I.hok, I.len⟩
theorem nodup_ix {N : List Str} (hN : N.Nodup) {i j : Nat} {x : Str} (a : N[i]? = some x) (b : N[j]? = some x) : i = j := by
 obtain ⟨h1, e1⟩ := List.getElem?_eq_some_iff.mp a
 obtain ⟨h2, e2⟩ := List.getElem?_eq_some_iff.mp b
 exact (List.getElem_inj hN).mp (e1.trans e2.symm)
theorem store_ok2 {M : Model} {A : Around} {E : Value → Shared → Prop} {i : Nat} {x : Str} {v : V} {u : Value} {Q : Unit → Shared → Prop} (I : Inv X pins σ H s) (hN : X.N.Nodup) (hi : X.N[i]? = some x) (hx : Loc X.env.scope x) (r : RelV v u)
  (h : ∀ s', Inv X pins (σ.set i (some v)) H s' → (∃ a, Heap.SameBut a s.heap s'.heap ∧ (a = X.env.locals ∨ X.env.cells.lookup x = some a)) → Q () s') (hf : X.fn x = true ∨ X.env.scope.names.lookup x = some .local := by first | exact .inl rfl | exact .inr rfl | assumption) : wpAny M A (storeName X.env x u) Q E s := by
 obtain ⟨m, hn, hl⟩ := id I.loc
 have hcls : (X.env.scope.kind == .class || (X.env.scope.kind == .module && X.env.locals != X.env.globals)) = false := by rw [I.ok.kind]; rfl
 have hiσ : i < σ.length := by rw [I.len]; exact (List.getElem?_eq_some_iff.mp hi).1
 have cne := I.cne
 have tracked : ∀ {a : Addr} {h' : Heap}, (∃ o, s.heap.get? a = some o ∧ H a = none) → Heap.SameBut a s.heap h' → HOk X.prog X.w H h' := fun {a h'} ha hs b ob e => by
  obtain ⟨_, _, hfree⟩ := ha
  refine (I.hok b ob e).stay (fun c w' hc q => (hs.2 c ?_).trans q) (fun _ q => q) fun _ _ q => q
  rintro rfl
  rcases hc with rfl | hc
  ·rw [hfree] at e; cases e
  ·rw [hfree] at hc; cases hc
 rcases hx with hk | hk
 ·refine wpAny_storeName_local hk hn (fun h' hn' hs => ?_) hcls
  obtain ⟨oL, _, _, hoL, _⟩ := id hn
  refine h _ ⟨I.ok, I.os, I.bare, ⟨fun b o e n hb hx => ?_, fun b o e n hb hx => ?_, I.base.free, fun b o e hx => ?_, I.base.tups, I.base.frzs, I.base.tbls⟩, ⟨_, hn', fun j y v' e1 e2 e3 => ?_⟩, fun y c e => ?_, I.free, I.freeC, fun p hp => ?_, tracked ⟨oL, hoL, I.free⟩ hs, by simpa using I.len⟩ ⟨_, hs, .inl rfl⟩
  ·exact (hs.2 b (Nat.ne_of_lt (Nat.lt_of_lt_of_le (Heap.lt_size e) I.ok.above))).trans (I.base.keep b o e n hb hx)
  ·obtain ⟨sl, e1⟩ := I.base.slot b o e n hb hx
   exact ⟨sl, (hs.2 b (Nat.ne_of_lt (Nat.lt_of_lt_of_le (Heap.lt_size e) I.ok.above))).trans e1⟩
  ·obtain ⟨o', e1⟩ := I.base.there b o e hx
   exact ⟨o', (hs.2 b (Nat.ne_of_lt (Nat.lt_of_lt_of_le (Heap.lt_size e) I.ok.above))).trans e1⟩
  ·by_cases hj : j = i
   ·subst hj
    rw [hi] at e1; cases e1
    rw [List.getElem?_set_self hiσ] at e2
    cases e2
    exact ⟨u, r, .inl ⟨hk, by simp⟩⟩
   ·rw [List.getElem?_set_ne (Ne.symm hj)] at e2
    obtain ⟨u', r', q⟩ := hl j y v' e1 e2 e3
    refine ⟨u', r', ?_⟩
    rcases q with ⟨k, e⟩ | ⟨k, c, e, z⟩
    ·refine .inl ⟨k, ?_⟩
     have : y ≠ x := fun e => hj (nodup_ix hN e1 (e ▸ hi))
     simp [this, e]
    ·exact .inr ⟨k, c, e, z.sameBut hs (cne y c e)⟩
  ·obtain ⟨w', z⟩ := I.cell y c e
   exact ⟨w', z.sameBut hs (cne y c e)⟩
  ·obtain ⟨e, n, ne, nf, d⟩ := I.pin p hp
   exact ⟨(hs.2 p.1 ne).trans e, n, ne, nf, d⟩
 ·have hfn : X.fn x = true := by
   rcases hf with z | z
   ·exact z
   ·rw [z] at hk; cases hk
  obtain ⟨c, hc⟩ := I.ok.has x (.inl hk)
  obtain ⟨w', z⟩ := I.cell x c hc
  refine wpAny_storeName_cell I.ok.kind hk hc z (fun h' hc' hs => ?_)
  obtain ⟨oc, hoc, hocd⟩ := id z
  refine h { s with heap := h' } ⟨I.ok, I.os, I.bare, ⟨fun b o e n hb hx => ?_, fun b o e n hb hx => ?_, I.base.free, fun b o e hx => ?_, I.base.tups, I.base.frzs, I.base.tbls⟩, ⟨m, hn.sameBut hs (Ne.symm (cne x c hc)), fun j y v' e1 e2 e3 => ?_⟩, fun y c' e => ?_, I.free, I.freeC, fun p hp => ?_, tracked ⟨oc, hoc, I.freeC x c hc⟩ hs, by simpa using I.len⟩ ⟨c, hs, .inr hc⟩
  ·exact (hs.2 b (Nat.ne_of_lt (Nat.lt_of_lt_of_le (Heap.lt_size e) (I.ok.cab x c hfn hc)))).trans (I.base.keep b o e n hb hx)
  ·obtain ⟨sl, e1⟩ := I.base.slot b o e n hb hx
   exact ⟨sl, (hs.2 b (Nat.ne_of_lt (Nat.lt_of_lt_of_le (Heap.lt_size e) (I.ok.cab x c hfn hc)))).trans e1⟩
  ·obtain ⟨o', e1⟩ := I.base.there b o e hx
   exact ⟨o', (hs.2 b (Nat.ne_of_lt (Nat.lt_of_lt_of_le (Heap.lt_size e) (I.ok.cab x c hfn hc)))).trans e1⟩
  ·by_cases hj : j = i
   ·subst hj
    rw [hi] at e1; cases e1
    rw [List.getElem?_set_self hiσ] at e2
    cases e2
    exact ⟨u, r, .inr ⟨.inl hk, c, hc, hc'⟩⟩
   ·rw [List.getElem?_set_ne (Ne.symm hj)] at e2
    obtain ⟨u', r', q⟩ := hl j y v' e1 e2 e3
    refine ⟨u', r', ?_⟩
    rcases q with q | ⟨k, c', e, z'⟩
    ·exact .inl q
    ·refine .inr ⟨k, c', e, z'.sameBut hs ?_⟩
     rintro rfl
     exact hj (nodup_ix hN e1 (I.ok.inj _ _ _ e hc ▸ hi))
  ·by_cases hcc : c' = c
   ·subst hcc; exact ⟨_, hc'⟩
   ·obtain ⟨w2, z2⟩ := I.cell y c' e
    exact ⟨w2, z2.sameBut hs hcc⟩
  ·obtain ⟨e, n, ne, nf, d⟩ := I.pin p hp
   refine ⟨(hs.2 p.1 ?_).trans e, n, ne, nf, d⟩
   intro q
   rw [q, hoc] at e
   have q' : oc = p.2 := Option.some.inj e
   exact d w' (by rw [← q']; exact hocd)
theorem store_ok {M : Model} {A : Around} {E : Value → Shared → Prop} {i : Nat} {x : Str} {v : V} {u : Value} {Q : Unit → Shared → Prop} (I : Inv X pins σ H s) (hN : X.N.Nodup) (hi : X.N[i]? = some x) (hx : Loc X.env.scope x) (r : RelV v u)
  (h : ∀ s', Inv X pins (σ.set i (some v)) H s' → Q () s') (hf : X.fn x = true ∨ X.env.scope.names.lookup x = some .local := by first | exact .inl rfl | exact .inr rfl | assumption) : wpAny M A (storeName X.env x u) Q E s :=
 store_ok2 I hN hi hx r (fun s' I' _ => h s' I') hf
theorem Inv.call' {s' : Shared} {ch : List Addr} (I : Inv X pins σ H s) (ho : s'.os = s.os) (u : Un (frs X.stack) ch H H' s.heap s'.heap) (hok : HOk X.prog X.w H' s'.heap) (hg : AllBare s'.gens)
  (hch : ∀ b ∈ ch, (b ∈ X.ex ∨ X.s₀.heap.objs.size ≤ b) ∧ b ≠ X.env.locals ∧ (∀ x c, X.env.cells.lookup x = some c → c ≠ b) ∧ ∀ p ∈ X.pn ++ pins, p.1 ≠ b) : Inv X pins σ H' s' := by
 obtain ⟨h', g', d', t', o'⟩ := s'
 have e : o' = s.os := ho
 subst e
 exact I.call (g' := g') (t' := t') (d' := d') u hok hg hch
end
noncomputable abbrev XK := Value → Option Addr → Hp → Prop
noncomputable abbrev St := List (Option V)
noncomputable abbrev VK := V → Hp → Prop
noncomputable abbrev TE := St → Hp → VK → Prop
noncomputable abbrev TT := St → Hp → (Bool → Hp → Prop) → Prop
noncomputable abbrev TA := St → Hp → (List V → Hp → Prop) → Prop
structure Ends where
 nx : St → Hp → Prop
 rt : VK
 bk : St → Hp → Prop := fun _ _ => False
 ct : St → Hp → Prop := fun _ _ => False
noncomputable abbrev TS := Ends → St → Hp → Prop
noncomputable def EP (X : Cx) (pins : List (Addr × Obj)) (σ : St) (Q : VK) (u : Value) (s' : Shared) : Prop := ∃ v H', Inv X pins σ H' s' ∧ RelV v u ∧ Q v H'
noncomputable def TP (X : Cx) (pins : List (Addr × Obj)) (σ : St) (Q : Bool → Hp → Prop) (b : Bool) (s' : Shared) : Prop := ∃ H', Inv X pins σ H' s' ∧ Q b H'
noncomputable def AP (X : Cx) (pins : List (Addr × Obj)) (σ : St) (Q : List V → Hp → Prop) (us : List Value) (s' : Shared) : Prop := ∃ vs H', Inv X pins σ H' s' ∧ Vals vs us ∧ Q vs H'
noncomputable def SP (X : Cx) (pins : List (Addr × Obj)) (D : Ends) (f : Flow) (s' : Shared) : Prop :=
 match f with
 | .next => ∃ σ' H', Inv X pins σ' H' s' ∧ D.nx σ' H'
 | .brk => ∃ σ' H', Inv X pins σ' H' s' ∧ D.bk σ' H'
 | .cont => ∃ σ' H', Inv X pins σ' H' s' ∧ D.ct σ' H'
 | .ret u => ∃ v σ' H', Inv X pins σ' H' s' ∧ RelV v u ∧ D.rt v H'
noncomputable def PE (X : Cx) (e : Expr) (t : TE) : Prop :=
 ∀ (pins : List (Addr × Obj)) (s : Shared) (σ : St) (H : Hp) (Q : VK), Inv X pins σ H s → t σ H Q → wpAny (model X.prog X.w) X.A (eval e X.env) (EP X pins σ Q) X.xe s
noncomputable def PT (X : Cx) (e : Expr) (t : TT) : Prop :=
 ∀ (pins : List (Addr × Obj)) (s : Shared) (σ : St) (H : Hp) (Q : Bool → Hp → Prop), Inv X pins σ H s → t σ H Q → wpAny (model X.prog X.w) X.A (isTrue e X.env (eval e X.env)) (TP X pins σ Q) X.xe s
noncomputable def PW (X : Cx) (e : Expr) (t : TT) : Prop :=
 ∀ (whole : Sem Value) (pins : List (Addr × Obj)) (s : Shared) (σ : St) (H : Hp) (Q : Bool → Hp → Prop), Inv X pins σ H s → t σ H Q → wpAny (model X.prog X.w) X.A (isTrue e X.env whole) (TP X pins σ Q) X.xe s
theorem PW.pt {X : Cx} {e : Expr} {t : TT} (h : PW X e t) : PT X e t := h _
noncomputable def PA (X : Cx) (es : List Expr) (t : TA) : Prop :=
 ∀ (pos : Pos) (pins : List (Addr × Obj)) (s : Shared) (σ : St) (H : Hp) (Q : List V → Hp → Prop), Inv X pins σ H s → t σ H Q → wpAny (model X.prog X.w) X.A (spliced (backTo pos (starEach es X.env))) (AP X pins σ Q) X.xe s
noncomputable def PS (X : Cx) (st : Stmt) (t : TS) : Prop :=
 ∀ (pins : List (Addr × Obj)) (s : Shared) (σ : St) (H : Hp) (D : Ends), Inv X pins σ H s → t D σ H → wpAny (model X.prog X.w) X.A (exec st X.env) (SP X pins D) X.xe s
noncomputable def PSs (X : Cx) (st : List Stmt) (t : TS) : Prop :=
 ∀ (pins : List (Addr × Obj)) (s : Shared) (σ : St) (H : Hp) (D : Ends), Inv X pins σ H s → t D σ H → wpAny (model X.prog X.w) X.A (execs st X.env) (SP X pins D) X.xe s
theorem thn {α : Type} {t : Sem α} {Q Q' : α → Shared → Prop} {M : Model} {A : Around} {E : Value → Shared → Prop} {s : Shared} (h : wpAny M A t Q E s) (hQ : ∀ a s, Q a s → Q' a s) : wpAny M A t Q' E s := wpAny_mono h hQ fun _ _ x => x
end L2
namespace L2
open PySem PySem.Spec PyProof.Rows
section
variable {X : Cx}
noncomputable def tVar (i : Nat) : TE := fun σ H Q => ∃ v, σ[i]? = some (some v) ∧ Q v H
noncomputable def tC (v : V) : TE := fun _ H Q => Q v H
theorem pe_var {i : Nat} {x : Str} {pos : Pos} (hN : X.N[i]? = some x) (hv : Vis X.env.scope x) (hd : (x == ("__debug__" : Str)) = false := by decide) (hcd : (x == ("__classdict__" : Str)) = false := by decide) : PE X (.Name x pos) (tVar i) := by
 intro pins s σ H Q I h
 obtain ⟨v, e, h⟩ := h
 obtain ⟨m, hn, hl⟩ := I.loc
 obtain ⟨u, r, l⟩ := hl i x v hN e hv
 have fin : EP X pins σ Q u s := ⟨v, H, I, r, h⟩
 rcases l with ⟨hk, hm⟩ | ⟨hk, c, hc, hcell⟩
 ·exact wpAny_Name (wpAny_loadName_local I.ok.kind hk hn hm fin) hd
 ·rcases hk with hk | hk
  ·exact wpAny_Name (wpAny_loadName_cell I.ok.kind hk hc hcell fin) hd
  ·exact wpAny_Name (wpAny_loadName_free I.ok.kind hk hc hcell fin hcd) hd
theorem pe_int {i j pos} : PE X (.Constant (.int i) j pos) (tC (.int i)) := fun _ _ _ H _ I h => wpAny_Constant_int ⟨.int i, H, I.tok _, ⟨_, rfl⟩, h⟩
theorem pe_bl {b j pos} : PE X (.Constant (.bool b) j pos) (tC (.bl b)) := fun _ _ _ H _ I h => Constant_bool ⟨.bl b, H, I, rfl, h⟩
theorem pe_non {j pos} : PE X (.Constant .none j pos) (tC .non) := fun _ _ _ H _ I h => Constant_none ⟨.non, H, I, rfl, h⟩
theorem pe_str {x j pos} : PE X (.Constant (.str x) j pos) (tC (.str x)) := fun _ _ _ H _ I h => Calls.Constant_str ⟨.str x, H, I.tok _, ⟨_, rfl⟩, h⟩
noncomputable def Gl (X : Cx) (x : Str) : Prop := X.env.kindOf x = some .globalImplicit
theorem ld_glob {E : Value → Shared → Prop} {pins : List (Addr × Obj)} {s : Shared} {σ : St} {H : Hp} {x : Str} {u : Value} {pos : Pos} {Q : Value → Shared → Prop} (I : Inv X pins σ H s) (hg : Gl X x) (hm : X.mg x = some u) (h : Q u s)
  (hd : (x == ("__debug__" : Str)) = false := by decide) : wpAny (model X.prog X.w) X.A (eval (.Name x pos) X.env) Q E s :=
 Calls.Name_function_global I.ok.kind hg (Calls.loadGlobal_global (by rw [I.ok.glob]; exact I.mod.glob.keeps I.bk) hm h) hd
theorem ld_blt {E : Value → Shared → Prop} {pins : List (Addr × Obj)} {s : Shared} {σ : St} {H : Hp} {x : Str} {u : Value} {pos : Pos} {Q : Value → Shared → Prop} (I : Inv X pins σ H s) (hg : Gl X x) (hm : X.mg x = none) (hv : bootBuiltins x = some u) (h : Q u s)
  (hn : x ≠ "__name__" := by decide) (hd : (x == ("__debug__" : Str)) = false := by decide) : wpAny (model X.prog X.w) X.A (eval (.Name x pos) X.env) Q E s := by
 obtain ⟨mb, h1, h2⟩ := I.mod.blt
 exact Calls.Name_function_global I.ok.kind hg (Calls.loadGlobal_builtin (by rw [I.ok.glob]; exact I.mod.glob.keeps I.bk) hm (by rw [I.ok.blt]; exact h1.keeps I.bk) ((h2 x hn).trans hv) h) hd
theorem pe_glob {x : Str} {v : V} {u : Value} {pos : Pos} (hg : Gl X x) (hm : X.mg x = some u) (r : RelV v u) (hd : (x == ("__debug__" : Str)) = false := by decide) : PE X (.Name x pos) (tC v) :=
 fun _ _ _ H _ I h => ld_glob I hg hm ⟨v, H, I, r, h⟩ hd
theorem pe_bltn {x : Str} {v : V} {u : Value} {pos : Pos} (hg : Gl X x) (hm : X.mg x = none) (hv : bootBuiltins x = some u) (r : RelV v u) (hn : x ≠ "__name__" := by decide) (hd : (x == ("__debug__" : Str)) = false := by decide) : PE X (.Name x pos) (tC v) :=
 fun _ _ _ H _ I h => ld_blt I hg hm hv ⟨v, H, I, r, h⟩ hn hd
variable {a b : Expr} {ta tb : TE} {pos : Pos}
noncomputable def PC (X : Cx) (op : CmpOp) (a b : Expr) (t : TE) : Prop :=
 ∀ (pins : List (Addr × Obj)) (s : Shared) (σ : St) (H : Hp) (Q : VK), Inv X pins σ H s → t σ H Q →
  wpAny (model X.prog X.w) X.A (eval a X.env) (fun v s₁ => wpAny (model X.prog X.w) X.A (eval b X.env) (fun u s₂ => wpAny (model X.prog X.w) X.A (compareOp op v u) (EP X pins σ Q) X.xe s₂) X.xe s₁) X.xe s
noncomputable def tB (t : TE) : TT := fun σ H Q => t σ H fun x H1 => ∃ c, x = .bl c ∧ Q c H1
theorem pt_cmp {op : CmpOp} {t : TE} (h : PC X op a b t) (h1 : behindInMarks op b = false := by first | exact nobehind _ (by decide) (by decide) | rfl) : PT X (.Compare a [op] [b] pos) (tB t) := by
 intro pins s σ H Q I hw
 refine wpAny_isTrue_Compare1 (thn (h pins s σ H _ I hw) fun v s1 h1 => thn h1 fun u s2 h2 => thn h2 fun c s3 zz0 => ?_) h1
 obtain ⟨x, H1, I1, r1, q1⟩ := zz0
 obtain ⟨d, rfl, q⟩ := q1
 cases r1
 exact wpAny_truthy_bool ⟨H1, I1, q⟩
theorem pt_val {e : Expr} {t : TE} (h : PE X e t) (he : ∀ whole, isTrue e X.env whole = (do let v ← whole; standAt e.pos; holding [v] (truthy v)) := by intro _; rfl) : PT X e (tB t) := by
 intro pins s σ H Q I hw
 refine isTrue_plain (thn (h pins s σ H _ I hw) fun v s1 zz1 => ?_) (he _)
 obtain ⟨x, H1, I1, r1, q1⟩ := zz1
 obtain ⟨d, rfl, q⟩ := q1
 cases r1
 exact wpAny_truthy_bool ⟨H1, I1, q⟩
variable {tA tB' : TT} {rest : List Expr}
noncomputable def tAnd (t u : TT) : TT := fun σ H Q => t σ H fun c H1 => if c = true then u σ H1 Q else Q false H1
noncomputable def tOr (t u : TT) : TT := fun σ H Q => t σ H fun c H1 => if c = true then Q true H1 else u σ H1 Q
noncomputable def tNot (t : TT) : TT := fun σ H Q => t σ H fun c H1 => Q (!c) H1
theorem pw_and1 (ha : PT X a tA) : PW X (.BoolOp .And [a] pos) tA := by
 intro wh pins s σ H Q I h
 refine isTrue_and (thn (ha pins s σ H Q I h) fun c s1 e => ?_)
 cases c with
 | true => exact isTrue_and_nil e
 | false => exact e
theorem pw_or1 (ha : PT X a tA) : PW X (.BoolOp .Or [a] pos) tA := by
 intro wh pins s σ H Q I h
 refine isTrue_or (thn (ha pins s σ H Q I h) fun c s1 e => ?_)
 cases c with
 | false => exact isTrue_or_nil e
 | true => exact e
theorem pw_and (ha : PT X a tA) (hb : PW X (.BoolOp .And (b :: rest) pos) tB') : PW X (.BoolOp .And (a :: b :: rest) pos) (tAnd tA tB') := by
 intro wh pins s σ H Q I h
 refine isTrue_and (thn (ha pins s σ H _ I h) fun c s1 zz9 => ?_)
 obtain ⟨H1, I1, q1⟩ := zz9
 cases c with
 | true => exact hb wh pins s1 σ H1 Q I1 q1
 | false => exact ⟨H1, I1, q1⟩
theorem pw_or (ha : PT X a tA) (hb : PW X (.BoolOp .Or (b :: rest) pos) tB') : PW X (.BoolOp .Or (a :: b :: rest) pos) (tOr tA tB') := by
 intro wh pins s σ H Q I h
 refine isTrue_or (thn (ha pins s σ H _ I h) fun c s1 zz9 => ?_)
 obtain ⟨H1, I1, q1⟩ := zz9
 cases c with
 | true => exact ⟨H1, I1, q1⟩
 | false => exact hb wh pins s1 σ H1 Q I1 q1
theorem pt_not (ha : PT X a tA) : PT X (.UnaryOp .Not a pos) (tNot tA) := by
 intro pins s σ H Q I h
 exact isTrue_not (ha pins s σ H (fun c H1 => Q (!c) H1) I h)
noncomputable def tAndV (ta tb : TE) : TE := fun σ H Q => ta σ H fun x H1 => ∃ c, x = .bl c ∧ if c = true then tb σ H1 Q else Q (.bl false) H1
noncomputable def tNotV (ta : TE) : TE := fun σ H Q => ta σ H fun x H1 => ∃ c, x = .bl c ∧ Q (.bl (!c)) H1
theorem pe_one {op} {t : TE} (h : PE X a t) : PE X (.BoolOp op [a] pos) t := fun pins s σ H Q I hw => BoolOp_one (h pins s σ H Q I hw)
theorem pe_and (ha : PE X a ta) (hb : PE X (.BoolOp .And (b :: rest) pos) tb) : PE X (.BoolOp .And (a :: b :: rest) pos) (tAndV ta tb) := by
 intro pins s σ H Q I h
 refine BoolOp_and (thn (ha pins s σ H _ I h) fun v s1 zz9 => ?_)
 obtain ⟨x, H1, I1, r1, q1⟩ := zz9
 obtain ⟨c, rfl, q1⟩ := q1
 cases r1
 refine wpAny_truthy_bool ?_
 cases c with
 | true => exact hb pins s1 σ H1 Q I1 q1
 | false => exact ⟨.bl false, H1, I1, rfl, q1⟩
theorem pe_not (ha : PE X a ta) : PE X (.UnaryOp .Not a pos) (tNotV ta) := by
 intro pins s σ H Q I h
 refine UnaryOp_ (thn (ha pins s σ H _ I h) fun v s1 zz9 => ?_)
 obtain ⟨x, H1, I1, r1, q1⟩ := zz9
 obtain ⟨c, rfl, q1⟩ := q1
 cases r1
 exact not_of (wpAny_truthy_bool ⟨.bl (!c), H1, I1, rfl, q1⟩)
noncomputable def tIf (t : TT) (ta tb : TE) : TE := fun σ H Q => t σ H fun c H1 => if c = true then ta σ H1 Q else tb σ H1 Q
theorem pe_ifExp {c : Expr} (hc : PT X c tA) (ha : PE X a ta) (hb : PE X b tb) : PE X (.IfExp c a b pos) (tIf tA ta tb) := by
 intro pins s σ H Q I h
 refine wpAny_IfExp (thn (hc pins s σ H _ I h) fun d s1 zz9 => ?_)
 obtain ⟨H1, I1, q1⟩ := zz9
 cases d with
 | true => exact ha pins s1 σ H1 Q I1 q1
 | false => exact hb pins s1 σ H1 Q I1 q1
end
end L2
namespace L2
open PySem PySem.Spec PyProof.Rows
noncomputable def SqL (K : PySem.W.Frag) (H : Hp) (a : Addr) (xs : List V) : Prop :=
 Rd H a (.lst xs) ∨
  ∃ (o : Obj) (its : Array Value) (n : Nat), K.lookup a = some o ∧ o.cls = .type "list" ∧ o.dict = none ∧ o.data = .seq its n ∧ its.size ≤ sizeLine ∧ Vals xs its.toList
noncomputable def SqT (K : PySem.W.Frag) (H : Hp) (a : Addr) (xs : List V) : Prop :=
 Rd H a (.tup xs) ∨
  ∃ (o : Obj) (its : Array Value) (n : Nat), K.lookup a = some o ∧ o.cls = .type "tuple" ∧ o.data = .seq its n ∧ its.size ≤ sizeLine ∧ Vals xs its.toList
noncomputable def absV : Value → Option V
 | .none => some .non
 | .bool b => some (.bl b)
 | .int i _ => some (.int i)
 | .str x _ => some (.str x)
 | .bytes b _ => some (.byt b)
 | .float b _ => some (.flt b)
 | .ref a => some (.ref a)
 | .type n => some (.ty n)
 | _ => none
theorem RelV.abs {x : V} {u : Value} (r : RelV x u) : absV u = some x := by
 cases x with
 | non => cases r; rfl
 | bl _ => cases r; rfl
 | int _ => obtain ⟨t, rfl⟩ := r; rfl
 | str _ => obtain ⟨t, rfl⟩ := r; rfl
 | byt _ => obtain ⟨t, rfl⟩ := r; rfl
 | flt _ => obtain ⟨t, rfl⟩ := r; rfl
 | ref _ => cases r; rfl
 | ty _ => cases r; rfl
theorem RelV.inj {x y : V} {u : Value} (r : RelV x u) (q : RelV y u) : x = y := Option.some.inj (r.abs.symm.trans q.abs)
theorem Vals.inj : ∀ {xs ys : List V} {us : List Value}, Vals xs us → Vals ys us → xs = ys
 | _, _, _, .nil, .nil => rfl
 | _, _, _, .cons r t, .cons r' t' => by rw [r.inj r', Vals.inj t t']
section
variable {X : Cx} {pins : List (Addr × Obj)} {σ : St} {H : Hp} {s : Shared} {a : Addr} {xs ys : List V}
theorem SqL.of {K : PySem.W.Frag} (h : H a = some (.lst xs)) : SqL K H a xs := .inl (.inl h)
theorem SqT.of {K : PySem.W.Frag} (h : H a = some (.tup xs)) : SqT K H a xs := .inl (.inl h)
theorem Inv.list (I : Inv X pins σ H s) (h : SqL X.K H a xs) : ∃ its : List Value, Vals xs its ∧ PlainL s.heap a its.toArray ∧ xs.length ≤ sizeLine := by
 rcases h with h | ⟨o, its, n, hk, hc, hd, hs, hz, r⟩
 ·obtain ⟨z, its, n, r, e⟩ := h.ok I.hok
  exact ⟨its, r, ⟨_, n, e, rfl, rfl, rfl⟩, z⟩
 ·refine ⟨its.toList, r, ⟨o, n, I.kIn a o hk, hc, hd, by simpa using hs⟩, ?_⟩
  have e := r.length
  simp only [Array.length_toList] at e
  omega
theorem Inv.tuple (I : Inv X pins σ H s) (h : SqT X.K H a xs) : ∃ its : List Value, Vals xs its ∧ IsTup s.heap a its.toArray ∧ xs.length ≤ sizeLine := by
 rcases h with h | ⟨o, its, n, hk, hc, hs, hz, r⟩
 ·obtain ⟨z, its, r, p⟩ := h.ok I.hok
  exact ⟨its, r, p, z⟩
 ·refine ⟨its.toList, r, ⟨o, I.kIn a o hk, hc, n, by simpa using hs⟩, ?_⟩
  have e := r.length
  simp only [Array.length_toList] at e
  omega
theorem Inv.list_inj (I : Inv X pins σ H s) (h : SqL X.K H a xs) (h' : SqL X.K H a ys) : xs = ys := by
 obtain ⟨its, r, ⟨o, n, e, _, _, d⟩, _⟩ := I.list h
 obtain ⟨its', r', ⟨o', n', e', _, _, d'⟩, _⟩ := I.list h'
 rw [e] at e'; cases e'
 rw [d] at d'
 injection d' with d1 _
 have : its = its' := by simpa using congrArg Array.toList d1
 subst this
 exact r.inj r'
theorem Inv.tuple_inj (I : Inv X pins σ H s) (h : SqT X.K H a xs) (h' : SqT X.K H a ys) : xs = ys := by
 obtain ⟨its, r, ⟨o, e, _, n, d⟩, _⟩ := I.tuple h
 obtain ⟨its', r', ⟨o', e', _, n', d'⟩, _⟩ := I.tuple h'
 rw [e] at e'; cases e'
 rw [d] at d'
 injection d' with d1 _
 have : its = its' := by simpa using congrArg Array.toList d1
 subst this
 exact r.inj r'
end
noncomputable abbrev Cx.wish (X : Cx) (E : Value → Shared → Prop) : Cx := { X with xe := E }
noncomputable abbrev Cx.nox (X : Cx) : Cx := X.wish fun _ _ => False
theorem Cx.Ok.wish {X : Cx} (ok : X.Ok) (E : Value → Shared → Prop) : (X.wish E).Ok :=
 ⟨ok.mod, ok.kind, ok.glob, ok.blt, ok.above, ok.inj, ok.has, ok.cab, ok.hd, ok.frames, ok.stk, ok.exf, ok.bs, ok.bsz, ok.noex, ok.exfs, ok.funs, ok.frf⟩
theorem Cx.Ok.unwish {X : Cx} {E : Value → Shared → Prop} (ok : (X.wish E).Ok) : X.Ok :=
 ⟨ok.mod, ok.kind, ok.glob, ok.blt, ok.above, ok.inj, ok.has, ok.cab, ok.hd, ok.frames, ok.stk, ok.exf, ok.bs, ok.bsz, ok.noex, ok.exfs, ok.funs, ok.frf⟩
section
variable {X : Cx} {pins : List (Addr × Obj)} {σ : St} {H : Hp} {s : Shared} {E : Value → Shared → Prop}
theorem Inv.wish (I : Inv X pins σ H s) (E : Value → Shared → Prop) : Inv (X.wish E) pins σ H s := ⟨I.ok.wish E, I.os, I.bare, I.base, I.loc, I.cell, I.free, I.freeC, I.pin, I.hok, I.len⟩
theorem Inv.unwish (I : Inv (X.wish E) pins σ H s) : Inv X pins σ H s := ⟨I.ok.unwish, I.os, I.bare, I.base, I.loc, I.cell, I.free, I.freeC, I.pin, I.hok, I.len⟩
theorem SP.unwish {D : Ends} {f : Flow} {s' : Shared} (h : SP (X.wish E) pins D f s') : SP X pins D f s' := by
 cases f with
 | next => obtain ⟨σ', H', I, q⟩ := h; exact ⟨σ', H', I.unwish, q⟩
 | brk => obtain ⟨σ', H', I, q⟩ := h; exact ⟨σ', H', I.unwish, q⟩
 | cont => obtain ⟨σ', H', I, q⟩ := h; exact ⟨σ', H', I.unwish, q⟩
 | ret u => obtain ⟨v, σ', H', I, r, q⟩ := h; exact ⟨v, σ', H', I.unwish, r, q⟩
theorem PSs.nox {st : List Stmt} {t : TS} (h : PSs X.nox st t) : PSs X st t := fun pins s σ H D I hw =>
 wpAny_mono (h pins s σ H D (I.wish _) hw) (fun _ _ q => q.unwish) fun _ _ z => False.elim z
end
section
variable {X : Cx} {st : Stmt} {rest : List Stmt} {t u : TS} {e : Expr} {te : TE} {pos : Pos}
noncomputable def tNext : TS := fun D σ H => D.nx σ H
noncomputable def tSeq (t u : TS) : TS := fun D σ H => t { D with nx := u D } σ H
theorem pss_nil : PSs X [] tNext := fun _ _ σ H _ I h => wpAny_execs_nil ⟨σ, H, I, h⟩
theorem pss_cons (h1 : PS X st t) (h2 : PSs X rest u) : PSs X (st :: rest) (tSeq t u) := by
 intro pins s σ H D I h
 refine wpAny_execs_cons (thn (h1 pins s σ H { D with nx := u D } I h) fun f s1 q => ?_)
 cases f with
 | next =>
  obtain ⟨σ', H', I', q⟩ := q
  exact h2 pins s1 σ' H' D I' q
 | ret v => exact q
 | brk => exact q
 | cont => exact q
theorem pss_one (h1 : PS X st t) : PSs X [st] t := by
 intro pins s σ H D I h
 refine wpAny_execs_cons (thn (h1 pins s σ H D I h) fun f s1 q => ?_)
 cases f with
 | next => exact wpAny_execs_nil q
 | ret v => exact q
 | brk => exact q
 | cont => exact q
noncomputable def tBreak : TS := fun D σ H => D.bk σ H
theorem ps_break : PS X (.Break pos) tBreak := fun _ _ σ H _ I h => wpAny_Break ⟨σ, H, I, h⟩
theorem Inv.quiet {pins : List (Addr × Obj)} {σ : St} {H : Hp} {s : Shared} (I : Inv X pins σ H s) : interactive X.env = false := by simp [interactive, I.ok.kind]
noncomputable def tDrop (te : TE) : TS := fun D σ H => te σ H fun _ H1 => D.nx σ H1
theorem ps_expr (he : PE X e te) (hs : swapsWith e none pos.line X.env = pure false := by rfl) : PS X (.Expr e pos) (tDrop te) := by
 intro pins s σ H D I h
 refine wpAny_Expr_any (thn (he pins s σ H _ I h) fun v s1 zz2 => ?_) I.quiet hs
 obtain ⟨x, H1, I1, r1, q1⟩ := zz2
 exact ⟨σ, H1, I1, q1⟩
noncomputable def tRet (te : TE) : TS := fun D σ H => te σ H D.rt
theorem ps_ret (he : PE X e te) : PS X (.Return (some e) pos) (tRet te) := by
 intro pins s σ H D I h
 refine wpAny_Return_some (thn (he pins s σ H _ I h) fun v s1 zz3 => ?_)
 obtain ⟨x, H1, I1, r1, q1⟩ := zz3
 exact ⟨x, σ, H1, I1, r1, q1⟩
noncomputable def tIfS (c : TT) (t u : TS) : TS := fun D σ H => c σ H fun b H1 => if b = true then t D σ H1 else u D σ H1
theorem ps_if {c : Expr} {a b : List Stmt} {tc : TT} (hc : PT X c tc) (ha : PSs X a t) (hb : PSs X b u) : PS X (.If c a b pos) (tIfS tc t u) := by
 intro pins s σ H D I h
 refine wpAny_If (thn (hc pins s σ H _ I h) fun d s1 zz9 => ?_)
 obtain ⟨H1, I1, q1⟩ := zz9
 cases d with
 | true => exact ha pins s1 σ H1 D I1 q1
 | false => exact hb pins s1 σ H1 D I1 q1
noncomputable def tNever : TS := fun _ _ _ => False
theorem pss_never {sts : List Stmt} : PSs X sts tNever := fun _ _ _ _ _ _ h => h.elim
end
noncomputable abbrev TG := V → St → Hp → (St → Hp → Prop) → Prop
noncomputable abbrev TGs := List V → St → Hp → (St → Hp → Prop) → Prop
noncomputable def PG (X : Cx) (target : Expr) (t : TG) : Prop :=
 ∀ (pins : List (Addr × Obj)) (s : Shared) (σ : St) (H : Hp) (v : V) (u : Value) (Q : St → Hp → Prop), Inv X pins σ H s → RelV v u → t v σ H Q →
  wpAny (model X.prog X.w) X.A (assign target X.env u) (fun _ s' => ∃ σ' H', Inv X pins σ' H' s' ∧ Q σ' H') X.xe s
noncomputable def PGs (X : Cx) (ts : List Expr) (t : TGs) : Prop :=
 ∀ (pins : List (Addr × Obj)) (s : Shared) (σ : St) (H : Hp) (vs : List V) (us : List Value) (Q : St → Hp → Prop), Inv X pins σ H s → Vals vs us → t vs σ H Q →
  wpAny (model X.prog X.w) X.A (assignInOrder ((assignEach ts X.env).map (·.2)) us) (fun _ s' => ∃ σ' H', Inv X pins σ' H' s' ∧ Q σ' H') X.xe s
noncomputable abbrev TSet := V → V → V → Hp → (Hp → Prop) → Prop
noncomputable def PSet (X : Cx) (t : TSet) : Prop :=
 ∀ (pins : List (Addr × Obj)) (s : Shared) (σ : St) (H : Hp) (o i v : V) (ov iv u : Value) (Q : Hp → Prop), Inv X pins σ H s → RelV o ov → RelV i iv → RelV v u → t o i v H Q →
  wpAny (model X.prog X.w) X.A (setItem ov iv u) (fun _ s' => ∃ H', Inv X pins σ H' s' ∧ Q H') X.xe s
section
variable {X : Cx} {pos : Pos}
noncomputable def gName (i : Nat) : TG := fun v σ H Q => Q (σ.set i (some v)) H
theorem pg_name {i : Nat} {x : Str} (hN : X.N.Nodup) (hi : X.N[i]? = some x) (hx : Loc X.env.scope x) (hf : X.fn x = true ∨ X.env.scope.names.lookup x = some .local := by first | exact .inl rfl | exact .inr rfl | assumption) : PG X (.Name x pos) (gName i) := by
 intro pins s σ H v u Q I r h
 exact wpAny_assign_Name (store_ok I hN hi hx r (fun s' I' => ⟨_, H, I', h⟩) hf)
noncomputable def gNil : TGs := fun vs σ H Q => vs = [] ∧ Q σ H
noncomputable def gCons (t : TG) (u : TGs) : TGs := fun vs σ H Q => ∃ v r, vs = v :: r ∧ t v σ H fun σ' H' => u r σ' H' Q
theorem pgs_nil : PGs X [] gNil := by
 intro pins s σ H vs us Q I r h
 obtain ⟨e, h⟩ := h
 subst e
 cases r
 exact assignInOrder_nil ⟨σ, H, I, h⟩
theorem pgs_cons {e : Expr} {es : List Expr} {t : TG} {u : TGs} (h1 : PG X e t) (h2 : PGs X es u)
  (hs : (assignEach (e :: es) X.env).map (·.2) = assign e X.env :: (assignEach es X.env).map (·.2) := by rfl) : PGs X (e :: es) (gCons t u) := by
 intro pins s σ H vs us Q I r h
 obtain ⟨v, vr, e1, h⟩ := h
 subst e1
 cases r with
 | cons r rr =>
  rw [hs]
  refine assignInOrder_cons (thn (h1 pins s σ H _ _ _ I r h) fun _ s1 zz9 => ?_)
  obtain ⟨σ1, H1, I1, q1⟩ := zz9
  exact h2 pins s1 σ1 H1 _ _ Q I1 rr q1
noncomputable def gTup (K : PySem.W.Frag) (n : Nat) (t : TGs) : TG := fun v σ H Q => ∃ a xs, v = .ref a ∧ SqT K H a xs ∧ xs.length = n ∧ t xs σ H Q
theorem pg_tup {es : List Expr} {k : Nat} {t : TGs} {n : Nat} (hc : X.calm = true) (h : PGs X es t)
  (hn : (assignEach es X.env).length = n := by rfl) (hst : (assignEach es X.env).findIdx? (·.1) = none := by rfl) : PG X (.Tuple es k pos) (gTup X.K n t) := by
 intro pins s σ H v u Q I r hw
 obtain ⟨a, xs, e1, hq, hl, hw⟩ := hw
 subst e1
 cases r
 obtain ⟨its, rv, ht, hz⟩ := I.tuple hq
 refine assign_Tuple_tuple (I.ok.hd hc) ht (by simp [hn, ← hl, rv.length]) hst fun h' hx => ?_
 have I1 : Inv X pins σ H { s with heap := h' } := I.kept (t' := s.toks) fun b o e => hx b o (Nat.ne_of_lt (Heap.lt_size e)) e
 exact h pins _ σ H xs _ Q I1 (by simpa using rv) hw
noncomputable def gSub (to ti : TE) (t : TSet) : TG := fun v σ H Q => to σ H fun o H1 => ti σ H1 fun i H2 => t o i v H2 fun H3 => Q σ H3
theorem pg_sub {o i : Expr} {to ti : TE} {t : TSet} (ho : PE X o to) (hi : PE X i ti) (hs : PSet X t)
  (ha : ∀ v, assign (.Subscript o i pos) X.env v = (do
   let ov ← holding [v] (eval o X.env)
   let iv ← holding [v, ov] (eval i X.env)
   standAt pos
   holding [v, ov, iv] (setItem ov iv v)
   release [v, ov, iv] []) := by intro _; rfl) : PG X (.Subscript o i pos) (gSub to ti t) := by
 intro pins s σ H v u Q I r h
 rw [ha]
 refine wpAny_bind (wpAny_holding (thn (ho pins s σ H _ I h) fun ov s1 zz9 => ?_))
 obtain ⟨x, H1, I1, r1, q1⟩ := zz9
 refine wpAny_bind (wpAny_holding (thn (hi pins s1 σ H1 _ I1 q1) fun iv s2 zz9 => ?_))
 obtain ⟨y, H2, I2, r2, q2⟩ := zz9
 refine wpAny_bind (wpAny_standAt (wpAny_bind (wpAny_holding (thn (hs pins s2 σ H2 x y v ov iv u _ I2 r1 r2 r q2) fun _ s3 zz9 => ?_))))
 obtain ⟨H3, I3, q3⟩ := zz9
 exact wpAny_release ⟨σ, H3, I3, q3⟩
noncomputable def tAsg (te : TE) (g : TG) : TS := fun D σ H => te σ H fun x H1 => g x σ H1 D.nx
theorem ps_asg {tg e : Expr} {te : TE} {g : TG} (he : PE X e te) (hg : PG X tg g) (hs : swapsWithSole [tg] e pos.line X.env = pure false := by rfl) (hw : swappedStores [tg] e X.env = pure none := by rfl)
  (h1 : (assignEach [tg] X.env).map (·.2) = [assign tg X.env] := by rfl) : PS X (.Assign [tg] e pos) (tAsg te g) := by
 intro pins s σ H D I h
 refine wpAny_Assign_stores (thn (he pins s σ H _ I h) fun v s1 zz4 => ?_) hs hw
 obtain ⟨x, H1, I1, r1, q1⟩ := zz4
 rw [h1]
 exact thn (hg pins s1 σ H1 x v _ I1 r1 q1) fun _ s2 q => q
theorem ps_set {i : Nat} {x : Str} {e : Expr} {te : TE} {pos' : Pos} (hN : X.N.Nodup) (hi : X.N[i]? = some x) (hx : Loc X.env.scope x) (he : PE X e te) (hs : swapsWith e (some (.Name x pos')) pos.line X.env = pure false := by rfl) (hf : X.fn x = true ∨ X.env.scope.names.lookup x = some .local := by first | exact .inl rfl | exact .inr rfl | assumption) :
  PS X (.Assign [.Name x pos'] e pos) (tAsg te (gName i)) := by
 intro pins s σ H D I h
 refine wpAny_Assign_Name (thn (he pins s σ H _ I h) fun v s1 zz5 => ?_) hs
 obtain ⟨y, H1, I1, r1, q1⟩ := zz5
 exact store_ok I1 hN hi hx r1 (fun s2 I2 => ⟨_, H1, I2, q1⟩) hf
end
section
variable {X : Cx} {pos : Pos}
noncomputable def tWhile (c : TT) (tb : TS) : TS := fun D σ H => ∃ W : Nat → St → Hp → Prop, (∃ m, W m σ H) ∧ ∀ m σ H, W m σ H →
 c σ H fun b H1 => if b = true then ∃ N : St → Hp → Prop, (∀ σ' H', N σ' H' → ∃ m', m' < m ∧ W m' σ' H') ∧ tb { D with nx := N, ct := N, bk := D.nx } σ H1 else D.nx σ H1
theorem ps_while {c : Expr} {body : List Stmt} {tc : TT} {tb : TS} (hp : PassesOwn (model X.prog X.w) X.A X.env X.xe) (hc : PT X c tc) (hb : PSs X body tb) : PS X (.While c body [] pos) (tWhile tc tb) := by
 intro pins s σ H D I h
 obtain ⟨W, ⟨m0, w0⟩, turn⟩ := h
 refine wpAny_While (codeAny_whileLoop (fun n s' => ∃ σ' H', Inv X pins σ' H' s' ∧ W n σ' H') ?_ m0 ⟨σ, H, I, w0⟩)
 rintro n s1 ⟨σ1, H1, I1, w1⟩
 refine wpAny_passesOwn hp (thn (hc pins s1 σ1 H1 _ I1 (turn n σ1 H1 w1)) fun b s2 zz9 => ?_)
 obtain ⟨H2, I2, q2⟩ := zz9
 cases b with
 | true =>
  obtain ⟨N, hN, q2⟩ := q2
  rw [if_pos rfl]
  refine wpAny_passesOwn hp (thn (hb pins s2 σ1 H2 _ I2 q2) fun f s3 q3 => ?_)
  cases f with
  | next =>
   obtain ⟨σ3, H3, I3, n3⟩ := q3
   obtain ⟨m', hm, w3⟩ := hN σ3 H3 n3
   exact ⟨m', hm, σ3, H3, I3, w3⟩
  | cont =>
   obtain ⟨σ3, H3, I3, n3⟩ := q3
   obtain ⟨m', hm, w3⟩ := hN σ3 H3 n3
   exact ⟨m', hm, σ3, H3, I3, w3⟩
  | brk => exact q3
  | ret v => exact q3
 | false =>
  rw [if_neg Bool.false_ne_true]
  exact wpAny_execs_nil ⟨σ1, H2, I2, q2⟩
end
structure It where
 go : Nat → Hp → Prop
 yld : Nat → Hp → V → Hp → Prop
 stop : Nat → Hp → Prop
noncomputable def FpOk (X : Cx) (pins : List (Addr × Obj)) (H : Hp) (b : Addr) : Prop :=
 H b = none ∧ b ≠ X.env.locals ∧ b ∉ X.fs ∧ (b ∈ X.ex ∨ X.s₀.heap.objs.size ≤ b) ∧ (∀ x c, X.env.cells.lookup x = some c → c ≠ b) ∧ ∀ p ∈ X.pn ++ pins, p.1 ≠ b
theorem Inv.fpOk {X : Cx} {pins : List (Addr × Obj)} {σ : St} {H H' : Hp} {s : Shared} {b : Addr} (I : Inv X pins σ H s) (hb : s.heap.objs.size ≤ b) (hn : H' b = none) : FpOk X pins H' b := by
 refine ⟨hn, Nat.ne_of_gt (Nat.lt_of_lt_of_le I.lt hb), I.nofs hb, .inr (Nat.le_trans I.sz hb), fun x c e z => ?_, fun p hp z => ?_⟩
 ·obtain ⟨v, q⟩ := I.cell x c e
  exact absurd (Nat.lt_of_lt_of_le q.lt (by rw [z]; exact hb)) (Nat.lt_irrefl _)
 ·exact absurd (Nat.lt_of_lt_of_le (Heap.lt_size (I.pin p hp).1) (by rw [z]; exact hb)) (Nat.lt_irrefl _)
structure Turn (P : Program) (w : World) (K : PySem.W.Frag) (tg : Expr) (J : It) (fp : List Addr) (it : Addr) (tn : Nat → Heap → Prop) : Prop where
 mem : it ∈ fp
 obj : ∀ i h, tn i h → ∀ b ∈ fp, ∃ o, h.get? b = some o ∧ ∀ v, o.data ≠ .cell v
 keep : ∀ i h h', tn i h → (∀ b ∈ fp, ∀ o, h.get? b = some o → h'.get? b = some o) → tn i h'
 item : ∀ (X : Cx), X.prog = P → X.w = w → X.K = K → X.calm = true → ∀ (i : Nat) (pins : List (Addr × Obj)) (s : Shared) (σ : St) (H : Hp) (E : Value → Shared → Prop), Inv X pins σ H s → (∀ b ∈ fp, FpOk X pins H b) → tn i s.heap → J.go i H →
  wpAny (model P w) X.A (pyNext (.ref it)) (fun r s1 => ∃ u, r = some u ∧
   wpAny (model P w) X.A (letOwnedTupleGo tg (.ref it) u) (fun _ s2 => ∃ x H', Inv X pins σ H' s2 ∧ RelV x u ∧ J.yld i H x H' ∧ tn (i + 1) s2.heap ∧ ∀ b ∈ fp, H' b = none) E s1) E s
 done : ∀ (X : Cx), X.prog = P → X.w = w → X.K = K → X.calm = true → ∀ (i : Nat) (pins : List (Addr × Obj)) (s : Shared) (σ : St) (H : Hp) (E : Value → Shared → Prop), Inv X pins σ H s → (∀ b ∈ fp, FpOk X pins H b) → tn i s.heap → J.stop i H →
  wpAny (model P w) X.A (pyNext (.ref it)) (fun r s1 => r = none ∧ Inv X pins σ H s1) E s
 self : ∀ (A : Around) (i : Nat) (s : Shared) (Q : Value → Shared → Prop) (E : Value → Shared → Prop), tn i s.heap → Q (.ref it) s → wpAny (model P w) A (pyIter (.ref it)) Q E s
noncomputable abbrev TI := St → Hp → (It → Hp → Prop) → Prop
noncomputable def PIE (X : Cx) (pins : List (Addr × Obj)) (σ : St) (tg : Expr) (R : It → Hp → Prop) (itv : Value) (s2 : Shared) : Prop :=
 ∃ (it : Addr) (fp : List Addr) (tn : Nat → Heap → Prop) (J : It) (H' : Hp), itv = .ref it ∧ Inv X pins σ H' s2 ∧ Turn X.prog X.w X.K tg J fp it tn ∧ tn 0 s2.heap ∧ (∀ b ∈ fp, FpOk X pins H' b) ∧ R J H'
noncomputable def PI (X : Cx) (tg iter : Expr) (wi : TI) : Prop :=
 ∀ (pins : List (Addr × Obj)) (s : Shared) (σ : St) (H : Hp) (R : It → Hp → Prop), Inv X pins σ H s → wi σ H R →
  wpAny (model X.prog X.w) X.A (eval iter X.env) (fun v s1 => wpAny (model X.prog X.w) X.A (pyIter v) (PIE X pins σ tg R) X.xe s1) X.xe s
theorem go_of {M : Model} {A : Around} {E : Value → Shared → Prop} {s : Shared} {tg : Expr} {it : Addr} {u : Value} {o : Obj} {n : String} {vs : Array Value} {Q : Unit → Shared → Prop} (ho : s.heap.get? it = some o) (hc : o.cls = .type n) (hd : o.data = .fields vs)
    (hn : ["enumerate", "zip", "dict_itemiterator", "dict_reverseitemiterator", "odict_iterator", "itertools.zip_longest", "itertools.pairwise"].contains n = false) (hQ : Q () s) : wpAny M A (letOwnedTupleGo tg (.ref it) u) Q E s := by
  unfold letOwnedTupleGo
  cases tg <;> first
    | exact wpAny_pure hQ
    | (cases u <;> first
        | exact wpAny_pure hQ
        | (refine wpAny_bind (wpAny_load ho ?_)
           rw [hc, hd]
           show wpAny M A (if (["enumerate", "zip", "dict_itemiterator", "dict_reverseitemiterator", "odict_iterator", "itertools.zip_longest", "itertools.pairwise"].contains n && vs[0]? == some (rawInt _)) = true then _ else _) Q E s
           rw [if_neg (by intro h; rw [hn, Bool.false_and] at h; cases h)]
           exact wpAny_pure hQ))
noncomputable def Itl (K : PySem.W.Frag) (a : Addr) : It :=
 ⟨fun i H => ∃ xs x, SqL K H a xs ∧ xs[i]? = some x, fun i H x H' => H' = H ∧ ∀ xs, SqL K H a xs → xs[i]? = some x, fun i H => ∃ xs, SqL K H a xs ∧ xs.length ≤ i⟩
noncomputable def Itt (K : PySem.W.Frag) (a : Addr) : It :=
 ⟨fun i H => ∃ xs x, SqT K H a xs ∧ xs[i]? = some x, fun i H x H' => H' = H ∧ ∀ xs, SqT K H a xs → xs[i]? = some x, fun i H => ∃ xs, SqT K H a xs ∧ xs.length ≤ i⟩
noncomputable def Itr (lo : Int) (n : Nat) : It := ⟨fun i _ => i < n, fun i H x H' => H' = H ∧ x = .int (lo + i), fun i _ => n ≤ i⟩
theorem turn_list {P : Program} {w : World} {K : PySem.W.Frag} {tg : Expr} (a it : Addr) : Turn P w K tg (Itl K a) [it] it (fun i h => h.IsListIter it a i) where
 mem := by simp
 obj := fun i h st b hb => by
  have e : b = it := by simpa using hb
  subst e
  obtain ⟨o, e, c, d⟩ := st
  exact ⟨o, e, fun v z => by rw [d] at z; cases z⟩
 keep := fun i h h' st k => st.at fun o e => k it (by simp) o e
 item := by
  intro X hP hw hK hc i pins s σ H E I hf st hg
  subst hP hw hK
  obtain ⟨xs, x, hq, hx⟩ := hg
  obtain ⟨its, rv, p, hz⟩ := I.list hq
  obtain ⟨u, hu, ru⟩ := rv.get hx
  obtain ⟨f0, f1, f2, f3, f4, f5⟩ := hf it (by simp)
  refine wpAny_pyNext_list_item st p.isList (x := u) (by simpa using hu) fun h' st' sb => ?_
  have I1 : Inv X pins σ H { s with heap := h' } := I.turned (t' := s.toks) (fun b o hb e => (sb.2 b hb).trans e) f0 f1 f3 f4 f5
  obtain ⟨o, e, c, d⟩ := id st'
  exact ⟨u, rfl, go_of (s := { s with heap := h' }) e c d (by decide) ⟨x, H, I1, ru, ⟨rfl, fun ys hy => by rw [I.list_inj hy hq]; exact hx⟩, st', fun b hb => (hf b hb).1⟩⟩
 done := by
  intro X hP hw hK hc i pins s σ H E I hf st hg
  subst hP hw hK
  obtain ⟨xs, hq, hx⟩ := hg
  obtain ⟨its, rv, p, hz⟩ := I.list hq
  obtain ⟨f0, f1, f2, f3, f4, f5⟩ := hf it (by simp)
  have hl := rv.length
  exact wpAny_pyNext_list_end (I.ok.hd hc) st p.isList (by simp; omega) fun h' eb => ⟨rfl, I.turned (t' := s.toks) (fun b o hb e => eb b o hb e) f0 f1 f3 f4 f5⟩
 self := fun _ _ _ _ _ st h => wpAny_pyIter_listiter st h
theorem turn_tuple {P : Program} {w : World} {K : PySem.W.Frag} {tg : Expr} (a it : Addr) : Turn P w K tg (Itt K a) [it] it (fun i h => h.IsTupleIter it a i) where
 mem := by simp
 obj := fun i h st b hb => by
  have e : b = it := by simpa using hb
  subst e
  obtain ⟨o, e, c, d⟩ := st
  exact ⟨o, e, fun v z => by rw [d] at z; cases z⟩
 keep := fun i h h' st k => st.at fun o e => k it (by simp) o e
 item := by
  intro X hP hw hK hc i pins s σ H E I hf st hg
  subst hP hw hK
  obtain ⟨xs, x, hq, hx⟩ := hg
  obtain ⟨its, rv, p, hz⟩ := I.tuple hq
  obtain ⟨u, hu, ru⟩ := rv.get hx
  obtain ⟨f0, f1, f2, f3, f4, f5⟩ := hf it (by simp)
  refine wpAny_pyNext_tuple_item st (show s.heap.IsTuple a its.toArray from p) (x := u) (by simpa using hu) fun h' st' sb => ?_
  have I1 : Inv X pins σ H { s with heap := h' } := I.turned (t' := s.toks) (fun b o hb e => (sb.2 b hb).trans e) f0 f1 f3 f4 f5
  obtain ⟨o, e, c, d⟩ := id st'
  exact ⟨u, rfl, go_of (s := { s with heap := h' }) e c d (by decide) ⟨x, H, I1, ru, ⟨rfl, fun ys hy => by rw [I.tuple_inj hy hq]; exact hx⟩, st', fun b hb => (hf b hb).1⟩⟩
 done := by
  intro X hP hw hK hc i pins s σ H E I hf st hg
  subst hP hw hK
  obtain ⟨xs, hq, hx⟩ := hg
  obtain ⟨its, rv, p, hz⟩ := I.tuple hq
  obtain ⟨f0, f1, f2, f3, f4, f5⟩ := hf it (by simp)
  have hl := rv.length
  exact wpAny_pyNext_tuple_end (I.ok.hd hc) st (show s.heap.IsTuple a its.toArray from p) (by simp; omega) fun h' eb => ⟨rfl, I.turned (t' := s.toks) (fun b o hb e => eb b o hb e) f0 f1 f3 f4 f5⟩
 self := fun _ _ _ _ _ st h => wpAny_pyIter_tupleiter st h
theorem turn_range {P : Program} {w : World} {K : PySem.W.Frag} {tg : Expr} (it : Addr) (lo : Int) (n : Nat) : Turn P w K tg (Itr lo n) [it] it (fun i h => IsRangeIter h it (lo + (i : Nat) * 1) ((n : Int) - (i : Nat)) 1) where
 mem := by simp
 obj := fun i h st b hb => by
  have e : b = it := by simpa using hb
  subst e
  exact ⟨_, st, fun v z => by
   have z' : Data.fields _ = Data.cell v := z
   cases z'⟩
 keep := fun i h h' st k => k it (by simp) _ st
 item := by
  intro X hP hw hK hc i pins s σ H E I hf st hg
  subst hP hw hK
  obtain ⟨f0, f1, f2, f3, f4, f5⟩ := hf it (by simp)
  have W := Walks.range (prog := X.prog) (w := X.w) (I.ok.hd hc) it lo 1 n
  refine W.item i s _ _ hg st fun v h' tk hv st' kk => ?_
  obtain ⟨t, rfl⟩ := hv
  have I1 : Inv X pins σ H { s with heap := h', toks := tk } := I.turned (fun b o hb e => kk b o (by simpa using hb) e) f0 f1 f3 f4 f5
  refine ⟨_, rfl, go_of (s := { s with heap := h', toks := tk }) (n := "range_iterator") st' rfl rfl (by decide) ⟨.int (lo + i), H, I1, ⟨t, ?_⟩, ⟨rfl, rfl⟩, st', fun b hb => (hf b hb).1⟩⟩
  rw [Int.mul_one]
 done := by
  intro X hP hw hK hc i pins s σ H E I hf st hg
  subst hP hw hK
  obtain ⟨f0, f1, f2, f3, f4, f5⟩ := hf it (by simp)
  exact wpAny_pyNext_range_end (I.ok.hd hc) st (by have : n ≤ i := hg; omega) fun h' eb => ⟨rfl, I.turned (t' := s.toks) (fun b o hb e => eb b o hb e) f0 f1 f3 f4 f5⟩
 self := fun _ _ _ _ _ st h => wpAny_pyIter_rangeiter st h
end L2
namespace L2
open PySem PySem.Spec PyProof.Rows
section
variable {X : Cx} {tg : Expr}
noncomputable def iList (K : PySem.W.Frag) (tl : TE) : TI := fun σ H R => tl σ H fun x H1 => ∃ a, x = .ref a ∧ (∃ xs, SqL K H1 a xs) ∧ R (Itl K a) H1
noncomputable def iTup (K : PySem.W.Frag) (tl : TE) : TI := fun σ H R => tl σ H fun x H1 => ∃ a, x = .ref a ∧ (∃ xs, SqT K H1 a xs) ∧ R (Itt K a) H1
theorem pi_list {l : Expr} {tl : TE} (hl : PE X l tl) : PI X tg l (iList X.K tl) := by
 intro pins s σ H R I h
 refine thn (hl pins s σ H _ I h) fun v s1 zz9 => ?_
 obtain ⟨x, H1, I1, r1, q1⟩ := zz9
 obtain ⟨a, e, ⟨xs, hq⟩, q⟩ := q1
 subst e
 cases r1
 obtain ⟨its, rv, p, hz⟩ := I1.list hq
 refine wpAny_pyIter_list p.isList ?_
 refine ⟨s1.heap.objs.size, [s1.heap.objs.size], _, _, H1, rfl, I1.kept (t' := s1.toks) fun b o e => Heap.get?_push_of_some _ e, turn_list a _, ⟨_, Heap.get?_push_size _ rfl, rfl, rfl⟩, fun b hb => ?_, q⟩
 have e : b = s1.heap.objs.size := by simpa using hb
 subst e
 exact I1.fpOk (Nat.le_refl _) (I1.hok.fresh (Nat.le_refl _))
theorem pi_tup {l : Expr} {tl : TE} (hl : PE X l tl) : PI X tg l (iTup X.K tl) := by
 intro pins s σ H R I h
 refine thn (hl pins s σ H _ I h) fun v s1 zz9 => ?_
 obtain ⟨x, H1, I1, r1, q1⟩ := zz9
 obtain ⟨a, e, ⟨xs, hq⟩, q⟩ := q1
 subst e
 cases r1
 obtain ⟨its, rv, p, hz⟩ := I1.tuple hq
 refine wpAny_pyIter_tuple (show s1.heap.IsTuple a its.toArray from p) ?_
 refine ⟨s1.heap.objs.size, [s1.heap.objs.size], _, _, H1, rfl, I1.kept (t' := s1.toks) fun b o e => Heap.get?_push_of_some _ e, turn_tuple a _, ⟨_, Heap.get?_push_size _ rfl, rfl, rfl⟩, fun b hb => ?_, q⟩
 have e : b = s1.heap.objs.size := by simpa using hb
 subst e
 exact I1.fpOk (Nat.le_refl _) (I1.hok.fresh (Nat.le_refl _))
theorem range_it {pins : List (Addr × Obj)} {σ : St} {H : Hp} {s : Shared} {R : It → Hp → Prop} {E : Value → Shared → Prop} {lo hi : Int} {t u v : Tok} {tk : Nat} (I : Inv X pins σ H s) (h1 : -(2 ^ 62) ≤ lo) (h2 : lo < 2 ^ 62) (h3 : -(2 ^ 62) ≤ hi) (h4 : hi < 2 ^ 62)
  (q : R (Itr lo (hi - lo).toNat) H) : wpAny (model X.prog X.w) X.A (pyIter (.ref s.heap.objs.size)) (PIE X pins σ tg R) E { s with heap := s.heap.push { cls := .type "range", data := .fields #[.int lo t, .int hi u, .int 1 v] }, toks := tk } := by
 refine wpAny_pyIter_range (IsRange.new ..) (small_one h1 h2 h3 h4) ?_
 have I1 : Inv X pins σ H { s with heap := s.heap.push { cls := .type "range", data := .fields #[.int lo t, .int hi u, .int 1 v] }, toks := tk } := I.kept fun b o e => Heap.get?_push_of_some _ e
 refine ⟨(s.heap.push { cls := .type "range", data := .fields #[.int lo t, .int hi u, .int 1 v] }).objs.size, [(s.heap.push { cls := .type "range", data := .fields #[.int lo t, .int hi u, .int 1 v] }).objs.size], _, _, H, rfl,
  I1.kept (t' := tk) fun b o e => Heap.get?_push_of_some _ e, turn_range _ lo (hi - lo).toNat, ?_, fun b hb => ?_, q⟩
 ·have e1 : lo + ((0 : Nat) : Int) * 1 = lo := by simp
  have e2 : (((hi - lo).toNat : Nat) : Int) - ((0 : Nat) : Int) = Builtin.Range.rangeSize lo hi 1 := by rw [rangeSize_one]; split <;> omega
  show IsRangeIter _ _ (lo + ((0 : Nat) : Int) * 1) ((((hi - lo).toNat : Nat) : Int) - ((0 : Nat) : Int)) 1
  rw [e1, e2]
  exact Heap.get?_push_size _ rfl
 ·have e : b = (s.heap.push { cls := .type "range", data := .fields #[.int lo t, .int hi u, .int 1 v] }).objs.size := by simpa using hb
  subst e
  exact I1.fpOk (Nat.le_refl _) (I1.hok.fresh (Nat.le_refl _))
noncomputable def iRng1 (ta : TA) : TI := fun σ H R => ta σ H fun vs H1 => ∃ j : Int, vs = [.int j] ∧ -(2 ^ 62) ≤ j ∧ j < 2 ^ 62 ∧ R (Itr 0 j.toNat) H1
theorem pi_range1 {a : Expr} {ta : TA} {p pos : Pos} (hg : Gl X "range") (hm : X.mg "range" = none) (ha : PA X [a] ta) (hs : starEach [a] X.env = [(false, eval a X.env)] := by rfl) : PI X tg (.Call (.Name "range" p) [a] [] pos) (iRng1 ta) := by
 intro pins s σ H R I h
 refine Call_ (ld_blt I hg hm boot_range (PyProof.Rows.callWith_type1 (thn (ha pos pins s σ H _ I h) fun us s1 zz6 => ?_) hs rfl))
 obtain ⟨vs, H1, I1, r1, q1⟩ := zz6
 obtain ⟨j, e, q1, q2, q⟩ := q1
 subst e
 cases r1 with
 | cons r rr =>
  cases rr
  obtain ⟨t, rfl⟩ := r
  exact call_range_1 (range_it I1 (by omega) (by omega) q1 q2 (by simpa using q))
noncomputable def tFor (wi : TI) (g : TG) (tb : TS) : TS := fun D σ H => wi σ H fun J H1 => ∃ W : Nat → Nat → St → Hp → Prop, (∃ m, W 0 m σ H1) ∧ ∀ i m σ H, W i m σ H →
 (J.stop i H ∧ D.nx σ H) ∨ (J.go i H ∧ ∃ N : St → Hp → Prop, (∀ σ' H', N σ' H' → ∃ m', m' < m ∧ W (i + 1) m' σ' H') ∧ ∀ x H', J.yld i H x H' → g x σ H' fun σ2 H2 => tb { D with nx := N, ct := N, bk := D.nx } σ2 H2)
noncomputable def pinsAt (fp : List Addr) (h : Heap) : List (Addr × Obj) := fp.filterMap fun b => (h.get? b).map fun o => (b, o)
theorem mem_pinsAt {fp : List Addr} {h : Heap} {b : Addr} {o : Obj} (hb : b ∈ fp) (e : h.get? b = some o) : (b, o) ∈ pinsAt fp h := List.mem_filterMap.mpr ⟨b, hb, by rw [e]; rfl⟩
theorem of_pinsAt {fp : List Addr} {h : Heap} {p : Addr × Obj} (hp : p ∈ pinsAt fp h) : p.1 ∈ fp ∧ h.get? p.1 = some p.2 := by
 obtain ⟨b, hb, e⟩ := List.mem_filterMap.mp hp
 cases q : h.get? b with
 | none => rw [q] at e; cases e
 | some o =>
  rw [q] at e
  have e' : (b, o) = p := Option.some.inj e
  subst e'
  exact ⟨hb, q⟩
theorem Inv.pinned {pins : List (Addr × Obj)} {σ : St} {H : Hp} {s : Shared} {fp : List Addr} (I : Inv X pins σ H s) (hf : ∀ b ∈ fp, FpOk X pins H b) (ho : ∀ b ∈ fp, ∃ o, s.heap.get? b = some o ∧ ∀ v, o.data ≠ .cell v) : Inv X (pins ++ pinsAt fp s.heap) σ H s :=
 I.pins_of fun p hp => (List.mem_append.mp hp).elim (fun z => I.pin p (List.mem_append_right _ z)) fun z => by
  obtain ⟨hb, e⟩ := of_pinsAt z
  obtain ⟨f0, f1, f2, _⟩ := hf p.1 hb
  obtain ⟨o, e', d⟩ := ho p.1 hb
  rw [e] at e'; cases e'
  exact ⟨e, f0, f1, f2, d⟩
theorem Inv.unpinned {pins pl : List (Addr × Obj)} {σ : St} {H : Hp} {s : Shared} (I : Inv X (pins ++ pl) σ H s) : Inv X pins σ H s := I.pins_of fun p hp => I.pin p (List.mem_append_right _ (List.mem_append_left _ hp))
theorem ps_for {iter : Expr} {body : List Stmt} {wi : TI} {g : TG} {tb : TS} {pos : Pos} (hp : PassesOwn (model X.prog X.w) X.A X.env X.xe) (hc : X.calm = true) (hi : PI X tg iter wi) (hg : PG X tg g) (hb : PSs X body tb)
  (hs : ∀ x, foldedSetIterable iter X.env x = pure x := by intro _; rfl) : PS X (.For tg iter body [] pos) (tFor wi g tb) := by
 intro pins s σ H D I h
 refine wpAny_For (thn (hi pins s σ H _ I h) fun v s1 h1 => thn h1 fun itv s2 h2 => ?_) hs
 obtain ⟨it, fp, tn, J, H2, e, I2, T, st2, f2, W, ⟨m0, w0⟩, turn⟩ := h2
 subst e
 have stat : ∀ {H' : Hp}, (∀ b ∈ fp, H' b = none) → ∀ b ∈ fp, FpOk X pins H' b := fun hn b hb => ⟨hn b hb, (f2 b hb).2⟩
 refine codeAny_forLoop_any (fun n s' => ∃ i σ' H', Inv X pins σ' H' s' ∧ tn i s'.heap ∧ (∀ b ∈ fp, H' b = none) ∧ W i n σ' H') ?_ m0 ⟨0, σ, H2, I2, st2, fun b hb => (f2 b hb).1, w0⟩
 rintro n s3 ⟨i, σ3, H3, I3, st3, fr3, w3⟩
 rcases turn i n σ3 H3 w3 with ⟨stop, qn⟩ | ⟨go, N, hN, step⟩
 ·refine wpAny_passesOwn hp (thn (T.done X rfl rfl rfl hc i pins s3 σ3 H3 X.xe I3 (stat fr3) st3 stop) fun r s4 ⟨hr, I4⟩ => ?_)
  subst hr
  exact wpAny_execs_nil ⟨σ3, H3, I4, qn⟩
 ·refine wpAny_passesOwn hp (thn (T.item X rfl rfl rfl hc i pins s3 σ3 H3 X.xe I3 (stat fr3) st3 go) fun r s4 ⟨u, hr, h4⟩ => ?_)
  subst hr
  refine wpAny_passesOwn hp (thn h4 fun _ s5 zz9 => ?_)
  obtain ⟨x, H5, I5, r5, y5, st5, fr5⟩ := zz9
  have I5' := I5.pinned (stat fr5) (T.obj _ _ st5)
  refine wpAny_passesOwn hp (thn (hg _ s5 σ3 H5 x u _ I5' r5 (step x H5 y5)) fun _ s6 zz9 => ?_)
  obtain ⟨σ6, H6, I6, q6⟩ := zz9
  refine wpAny_passesOwn hp (thn (hb _ s6 σ6 H6 _ I6 q6) fun f s7 q7 => ?_)
  have again : ∀ {σ7 : St} {H7 : Hp}, Inv X (pins ++ pinsAt fp s5.heap) σ7 H7 s7 → N σ7 H7 → ∃ m, m < n ∧ ∃ i σ' H', Inv X pins σ' H' s7 ∧ tn i s7.heap ∧ (∀ b ∈ fp, H' b = none) ∧ W i m σ' H' := fun {σ7 H7} I7 n7 => by
   obtain ⟨m', hm, w7⟩ := hN σ7 H7 n7
   refine ⟨m', hm, i + 1, σ7, H7, I7.unpinned, T.keep _ _ _ st5 fun b hb o e => (I7.pin (b, o) (List.mem_append_right _ (List.mem_append_right _ (mem_pinsAt hb e)))).1, fun b hb => ?_, w7⟩
   obtain ⟨o, e, d⟩ := T.obj _ _ st5 b hb
   exact (I7.pin (b, o) (List.mem_append_right _ (List.mem_append_right _ (mem_pinsAt hb e)))).2.1
  cases f with
  | next => obtain ⟨σ7, H7, I7, n7⟩ := q7; exact again I7 n7
  | cont => obtain ⟨σ7, H7, I7, n7⟩ := q7; exact again I7 n7
  | brk => obtain ⟨σ7, H7, I7, q7⟩ := q7; exact ⟨σ7, H7, I7.unpinned, q7⟩
  | ret v => obtain ⟨x7, σ7, H7, I7, r7, q7⟩ := q7; exact ⟨x7, σ7, H7, I7.unpinned, r7, q7⟩
end
theorem for_list {K : PySem.W.Frag} {a : Addr} {xs : List V} {g : TG} {tb : TS} {D : Ends} {σ : St} {H : Hp} (Pv : Nat → St → Hp → Prop) (h0 : Pv 0 σ H) (hl : ∀ i σ H, i ≤ xs.length → Pv i σ H → SqL K H a xs)
  (hs : ∀ i x σ H, xs[i]? = some x → Pv i σ H → g x σ H fun σ2 H2 => tb { D with nx := Pv (i + 1), ct := Pv (i + 1), bk := D.nx } σ2 H2) (hd : ∀ σ H, Pv xs.length σ H → D.nx σ H) :
  ∃ W : Nat → Nat → St → Hp → Prop, (∃ m, W 0 m σ H) ∧ ∀ i m σ H, W i m σ H →
   ((Itl K a).stop i H ∧ D.nx σ H) ∨ ((Itl K a).go i H ∧ ∃ N : St → Hp → Prop, (∀ σ' H', N σ' H' → ∃ m', m' < m ∧ W (i + 1) m' σ' H') ∧ ∀ x H', (Itl K a).yld i H x H' → g x σ H' fun σ2 H2 => tb { D with nx := N, ct := N, bk := D.nx } σ2 H2) := by
 refine ⟨fun i m σ H => m = xs.length - i ∧ i ≤ xs.length ∧ Pv i σ H, ⟨xs.length, by simp, Nat.zero_le _, h0⟩, ?_⟩
 rintro i m σ H ⟨rfl, hi, p⟩
 have q := hl i σ H hi p
 by_cases hlt : i < xs.length
 ·refine .inr ⟨⟨xs, xs[i], q, by simp [hlt]⟩, Pv (i + 1), fun σ' H' p' => ⟨xs.length - (i + 1), by omega, rfl, hlt, p'⟩, fun x H' y => ?_⟩
  obtain ⟨e, y⟩ := y
  subst e
  exact hs i x σ _ (y xs q) p
 ·have e : i = xs.length := by omega
  subst e
  exact .inl ⟨⟨xs, q, Nat.le_refl _⟩, hd σ H p⟩
theorem for_range {lo : Int} {n : Nat} {g : TG} {tb : TS} {D : Ends} {σ : St} {H : Hp} (Pv : Nat → St → Hp → Prop) (h0 : Pv 0 σ H)
  (hs : ∀ i σ H, i < n → Pv i σ H → g (.int (lo + i)) σ H fun σ2 H2 => tb { D with nx := Pv (i + 1), ct := Pv (i + 1), bk := D.nx } σ2 H2) (hd : ∀ σ H, Pv n σ H → D.nx σ H) :
  ∃ W : Nat → Nat → St → Hp → Prop, (∃ m, W 0 m σ H) ∧ ∀ i m σ H, W i m σ H →
   ((Itr lo n).stop i H ∧ D.nx σ H) ∨ ((Itr lo n).go i H ∧ ∃ N : St → Hp → Prop, (∀ σ' H', N σ' H' → ∃ m', m' < m ∧ W (i + 1) m' σ' H') ∧ ∀ x H', (Itr lo n).yld i H x H' → g x σ H' fun σ2 H2 => tb { D with nx := N, ct := N, bk := D.nx } σ2 H2) := by
 refine ⟨fun i m σ H => m = n - i ∧ i ≤ n ∧ Pv i σ H, ⟨n, by simp, Nat.zero_le _, h0⟩, ?_⟩
 rintro i m σ H ⟨rfl, hi, p⟩
 by_cases hlt : i < n
 ·refine .inr ⟨hlt, Pv (i + 1), fun σ' H' p' => ⟨n - (i + 1), by omega, rfl, hlt, p'⟩, fun x H' y => ?_⟩
  obtain ⟨e, y⟩ := y
  subst e y
  exact hs i σ _ hlt p
 ·have e : i = n := by omega
  subst e
  exact .inl ⟨Nat.le_refl _, hd σ H p⟩
end L2
namespace L2
open PySem PySem.Spec PyProof.Rows
noncomputable abbrev R2 := V → V → Hp → VK → Prop
noncomputable def OpR (X : Cx) (f : Value → Value → Sem Value) (r : R2) : Prop :=
 ∀ (pins : List (Addr × Obj)) (s : Shared) (σ : St) (H : Hp) (x y : V) (v u : Value) (Q : VK), Inv X pins σ H s → RelV x v → RelV y u → r x y H Q →
  wpAny (model X.prog X.w) X.A (f v u) (EP X pins σ Q) X.xe s
noncomputable def UnR (X : Cx) (f : Value → Sem Value) (r : V → Hp → VK → Prop) : Prop :=
 ∀ (pins : List (Addr × Obj)) (s : Shared) (σ : St) (H : Hp) (x : V) (v : Value) (Q : VK), Inv X pins σ H s → RelV x v → r x H Q →
  wpAny (model X.prog X.w) X.A (f v) (EP X pins σ Q) X.xe s
noncomputable def CallR (X : Cx) (f : Value) (r : List V → Hp → VK → Prop) : Prop :=
 ∀ (pins : List (Addr × Obj)) (s : Shared) (σ : St) (H : Hp) (xs : List V) (us : List Value) (Q : VK), Inv X pins σ H s → Vals xs us → r xs H Q →
  wpAny (model X.prog X.w) X.A (call f us) (EP X pins σ Q) X.xe s
noncomputable def TruR (X : Cx) (r : V → Hp → (Bool → Hp → Prop) → Prop) : Prop :=
 ∀ (pins : List (Addr × Obj)) (s : Shared) (σ : St) (H : Hp) (x : V) (v : Value) (Q : Bool → Hp → Prop), Inv X pins σ H s → RelV x v → r x H Q →
  wpAny (model X.prog X.w) X.A (truthy v) (TP X pins σ Q) X.xe s
noncomputable def tOp (r : R2) (ta tb : TE) : TE := fun σ H Q => ta σ H fun x H1 => tb σ H1 fun y H2 => r x y H2 Q
noncomputable def tUn (r : V → Hp → VK → Prop) (ta : TE) : TE := fun σ H Q => ta σ H fun x H1 => r x H1 Q
noncomputable def rI (C : Int → Int → Prop) (g : Int → Int → V) : R2 := fun x y H Q => ∃ i j, x = .int i ∧ y = .int j ∧ C i j ∧ Q (g i j) H
noncomputable def rI0 (g : Int → Int → V) : R2 := fun x y H Q => ∃ i j, x = .int i ∧ y = .int j ∧ Q (g i j) H
noncomputable def rU (g : Int → V) : V → Hp → VK → Prop := fun x H Q => ∃ i, x = .int i ∧ Q (g i) H
section
variable {X : Cx} {a b c : Expr} {ta tb tc : TE} {pos : Pos}
theorem binT (ha : PE X a ta) (hb : PE X b tb) {pins : List (Addr × Obj)} {s : Shared} {σ : St} {H : Hp} {R : V → V → Hp → Prop} (I : Inv X pins σ H s)
  (h : ta σ H fun x H1 => tb σ H1 fun y H2 => R x y H2) {Q : Value → Shared → Prop} {f : Value → Value → Sem Value}
  (hf : ∀ v u s2 x y H2, Inv X pins σ H2 s2 → RelV x v → RelV y u → R x y H2 → wpAny (model X.prog X.w) X.A (f v u) Q X.xe s2) :
  wpAny (model X.prog X.w) X.A (eval a X.env) (fun v s₁ => wpAny (model X.prog X.w) X.A (eval b X.env) (fun u s₂ => wpAny (model X.prog X.w) X.A (f v u) Q X.xe s₂) X.xe s₁) X.xe s := by
 refine thn (ha pins s σ H _ I h) fun v s1 zz9 => ?_
 obtain ⟨x, H1, I1, r1, q1⟩ := zz9
 refine thn (hb pins s1 σ H1 _ I1 q1) fun u s2 zz9 => ?_
 obtain ⟨y, H2, I2, r2, q2⟩ := zz9
 exact hf v u s2 x y H2 I2 r1 r2 q2
theorem pe_op {op : Operator} {r : R2} (ho : OpR X (binaryOp op) r) (ha : PE X a ta) (hb : PE X b tb) : PE X (.BinOp a op b pos) (tOp r ta tb) := by
 intro pins s σ H Q I h
 exact wpAny_BinOp (binT ha hb I h fun v u s2 x y H2 I2 rx ry q => ho pins s2 σ H2 x y v u Q I2 rx ry q)
theorem pe_un {op : UnaryOp} {r : V → Hp → VK → Prop} (ho : UnR X (unaryOp op) r) (ha : PE X a ta) : PE X (.UnaryOp op a pos) (tUn r ta) := by
 intro pins s σ H Q I h
 refine UnaryOp_ (thn (ha pins s σ H _ I h) fun v s1 zz7 => ?_)
 obtain ⟨x, H1, I1, r1, q1⟩ := zz7
 exact ho pins s1 σ H1 x v Q I1 r1 q1
theorem opI {f : Value → Value → Sem Value} {C : Int → Int → Prop} {g : Int → Int → Int}
  (rule : ∀ (i j : Int) (t u : Tok) (s : Shared) (Q : Value → Shared → Prop) (E : Value → Shared → Prop), C i j → Q (.int (g i j) s.toks) { s with toks := s.toks + 1 } → wpAny (model X.prog X.w) X.A (f (.int i t) (.int j u)) Q E s) :
  OpR X f (rI C fun i j => .int (g i j)) := by
 intro pins s σ H x y v u Q I rx ry h
 obtain ⟨i, j, rfl, rfl, hc, q⟩ := h
 obtain ⟨t, rfl⟩ := rx
 obtain ⟨t', rfl⟩ := ry
 exact rule i j t t' s _ _ hc ⟨.int (g i j), H, I.tok _, ⟨_, rfl⟩, q⟩
theorem opI0 {f : Value → Value → Sem Value} {g : Int → Int → Int}
  (rule : ∀ (i j : Int) (t u : Tok) (s : Shared) (Q : Value → Shared → Prop) (E : Value → Shared → Prop), Q (.int (g i j) s.toks) { s with toks := s.toks + 1 } → wpAny (model X.prog X.w) X.A (f (.int i t) (.int j u)) Q E s) :
  OpR X f (rI0 fun i j => .int (g i j)) := by
 intro pins s σ H x y v u Q I rx ry h
 obtain ⟨i, j, rfl, rfl, q⟩ := h
 obtain ⟨t, rfl⟩ := rx
 obtain ⟨t', rfl⟩ := ry
 exact rule i j t t' s _ _ ⟨.int (g i j), H, I.tok _, ⟨_, rfl⟩, q⟩
theorem opB0 {f : Value → Value → Sem Value} {g : Int → Int → Bool}
  (rule : ∀ (i j : Int) (t u : Tok) (s : Shared) (Q : Value → Shared → Prop) (E : Value → Shared → Prop), Q (.bool (g i j)) s → wpAny (model X.prog X.w) X.A (f (.int i t) (.int j u)) Q E s) :
  OpR X f (rI0 fun i j => .bl (g i j)) := by
 intro pins s σ H x y v u Q I rx ry h
 obtain ⟨i, j, rfl, rfl, q⟩ := h
 obtain ⟨t, rfl⟩ := rx
 obtain ⟨t', rfl⟩ := ry
 exact rule i j t t' s _ _ ⟨.bl (g i j), H, I, rfl, q⟩
noncomputable def CDiv (i j : Int) : Prop := 0 < j ∧ j < 1073741824
noncomputable def CPow (i j : Int) : Prop := 0 ≤ j ∧ j ≤ 1000000 ∧ i.natAbs < 2 ^ 64
noncomputable def CMul (i j : Int) : Prop := (-(2 ^ 64) < i ∧ i < 2 ^ 64) ∨ (-(2 ^ 64) < j ∧ j < 2 ^ 64)
theorem CMul.ok {i j : Int} (h : CMul i j) : IntMulOk i j := by
 rcases h with ⟨h1, h2⟩ | ⟨h1, h2⟩
 ·exact .of_left (intBits_le_64 h1 h2)
 ·exact .of_right (intBits_le_64 h1 h2)
theorem op_add : OpR X (binaryOp .Add) (rI0 fun i j => .int (i + j)) := opI0 fun _ _ _ _ _ _ _ q => add_int q
theorem op_sub : OpR X (binaryOp .Sub) (rI0 fun i j => .int (i - j)) := opI0 fun _ _ _ _ _ _ _ q => sub_int q
theorem op_mul : OpR X (binaryOp .Mult) (rI CMul fun i j => .int (i * j)) := opI fun _ _ _ _ _ _ _ hc q => mul_int q hc.ok
theorem op_fdiv : OpR X (binaryOp .FloorDiv) (rI CDiv fun i j => .int (i / j)) := opI fun i j _ _ _ _ _ hc q => by
 have h1 : (0 : Int) < j := hc.1
 have h2 : j < 1073741824 := hc.2
 exact floordiv_int (by omega) (by rw [Int.fdiv_eq_ediv_of_nonneg i (by omega)]; exact q) (.inl (PyProof.noPylong_small (by omega)))
theorem op_mod : OpR X (binaryOp .Mod) (rI (fun _ j => 0 < j) fun i j => .int (i % j)) := opI fun i j _ _ _ _ _ hc q => by
 have h1 : (0 : Int) < j := hc
 exact mod_int' (by omega) (by rw [Int.fmod_eq_emod_of_nonneg i (by omega)]; exact q)
theorem op_pow : OpR X (binaryOp .Pow) (rI CPow fun i j => .int (i ^ j.toNat)) := opI fun _ _ _ _ _ _ _ hc q => pow_int_small hc.1 hc.2.1 hc.2.2 q
theorem unI {f : Value → Sem Value} {g : Int → Int}
  (rule : ∀ (i : Int) (t : Tok) (s : Shared) (Q : Value → Shared → Prop) (E : Value → Shared → Prop), Q (.int (g i) s.toks) { s with toks := s.toks + 1 } → wpAny (model X.prog X.w) X.A (f (.int i t)) Q E s) :
  UnR X f (rU fun i => .int (g i)) := by
 intro pins s σ H x v Q I rx h
 obtain ⟨i, rfl, q⟩ := h
 obtain ⟨t, rfl⟩ := rx
 exact rule i t s _ _ ⟨.int (g i), H, I.tok _, ⟨_, rfl⟩, q⟩
theorem un_neg : UnR X (unaryOp .USub) (rU fun i => .int (-i)) := unI fun _ _ _ _ _ q => neg_int q
end
noncomputable def scal : V → V → Bool
 | .non, .non => true | .non, .int _ => true | .int _, .non => true | .non, .bl _ => true | .bl _, .non => true | .non, .str _ => true | .str _, .non => true
 | .int _, .int _ => true | .bl _, .bl _ => true | .str _, .str _ => true | .byt _, .byt _ => true
 | .int _, .str _ => true | .str _, .int _ => true | .bl _, .str _ => true | .str _, .bl _ => true
 | _, _ => false
noncomputable def rEq : R2 := fun x y H Q => scal x y = true ∧ Q (.bl (decide (x = y))) H
noncomputable def rNe : R2 := fun x y H Q => scal x y = true ∧ Q (.bl (!decide (x = y))) H
theorem dec_int {i j : Int} : decide (V.int i = V.int j) = (i == j) := by
 rw [Bool.eq_iff_iff]
 simp
theorem dec_bl {i j : Bool} : decide (V.bl i = V.bl j) = (i == j) := by
 rw [Bool.eq_iff_iff]
 simp
theorem dec_str {i j : Str} : decide (V.str i = V.str j) = (i == j) := by
 rw [Bool.eq_iff_iff]
 simp
theorem dec_byt {i j : Array UInt8} : decide (V.byt i = V.byt j) = (i.toList == j.toList) := by
 rw [Bool.eq_iff_iff]
 cases i
 cases j
 simp
section
variable {X : Cx} {a b c : Expr} {ta tb tc : TE} {pos : Pos}
theorem fin_bl {pins : List (Addr × Obj)} {σ : St} {H : Hp} {s : Shared} {Q : VK} {k k' : Bool} (I : Inv X pins σ H s) (q : Q (.bl k) H) (e : k = k') : EP X pins σ Q (.bool k') s := by
 subst e
 exact ⟨.bl k, H, I, rfl, q⟩
theorem op_eq : OpR X (compareOp .Eq) rEq := by
 intro pins s σ H x y v u Q I rx ry h
 obtain ⟨hs, q⟩ := h
 cases x with
 | non =>
  cases rx
  cases y with
  | non => cases ry; exact PySem.EqNone.eq_none_none (fin_bl I q (by simp))
  | bl j => cases ry; exact PySem.EqNone.eq_none_bool (fin_bl I q (by simp))
  | int j => obtain ⟨t', rfl⟩ := ry; exact PySem.EqNone.eq_none_int (fin_bl I q (by simp))
  | str j => obtain ⟨t', rfl⟩ := ry; exact PySem.EqNone.eq_none_str (fin_bl I q (by simp))
  | _ => exact absurd (show false = true from hs) Bool.false_ne_true
 | bl i =>
  cases rx
  cases y with
  | non => cases ry; exact PySem.EqNone.eq_bool_none (fin_bl I q (by simp))
  | bl j => cases ry; exact eq_bool (fin_bl I q dec_bl)
  | str j => obtain ⟨t', rfl⟩ := ry; exact PySem.EqMixed.eq_bool_str (fin_bl I q (by simp))
  | _ => exact absurd (show false = true from hs) Bool.false_ne_true
 | int i =>
  obtain ⟨t, rfl⟩ := rx
  cases y with
  | non => cases ry; exact PySem.EqNone.eq_int_none (fin_bl I q (by simp))
  | int j => obtain ⟨t', rfl⟩ := ry; exact eq_int (fin_bl I q dec_int)
  | str j => obtain ⟨t', rfl⟩ := ry; exact PySem.EqMixed.eq_int_str (fin_bl I q (by simp))
  | _ => exact absurd (show false = true from hs) Bool.false_ne_true
 | str i =>
  obtain ⟨t, rfl⟩ := rx
  cases y with
  | non => cases ry; exact PySem.EqNone.eq_str_none (fin_bl I q (by simp))
  | bl j => cases ry; exact PySem.EqMixed.eq_str_bool (fin_bl I q (by simp))
  | int j => obtain ⟨t', rfl⟩ := ry; exact PySem.EqMixed.eq_str_int (fin_bl I q (by simp))
  | str j => obtain ⟨t', rfl⟩ := ry; exact eq_str (fin_bl I q dec_str)
  | _ => exact absurd (show false = true from hs) Bool.false_ne_true
 | byt i =>
  obtain ⟨t, rfl⟩ := rx
  cases y with
  | byt j => obtain ⟨t', rfl⟩ := ry; exact PySem.W.eq_bytes (fin_bl I q dec_byt)
  | _ => exact absurd (show false = true from hs) Bool.false_ne_true
 | _ => cases y <;> exact absurd (show false = true from hs) Bool.false_ne_true
theorem op_ne : OpR X (compareOp .NotEq) rNe := by
 intro pins s σ H x y v u Q I rx ry h
 obtain ⟨hs, q⟩ := h
 cases x with
 | non =>
  cases rx
  cases y with
  | non => cases ry; exact PySem.EqNone.ne_none_none (fin_bl I q (by simp))
  | bl j => cases ry; exact PySem.EqNone.ne_none_bool (fin_bl I q (by simp))
  | int j => obtain ⟨t', rfl⟩ := ry; exact PySem.EqNone.ne_none_int (fin_bl I q (by simp))
  | str j => obtain ⟨t', rfl⟩ := ry; exact PySem.EqNone.ne_none_str (fin_bl I q (by simp))
  | _ => exact absurd (show false = true from hs) Bool.false_ne_true
 | bl i =>
  cases rx
  cases y with
  | non => cases ry; exact PySem.EqNone.ne_bool_none (fin_bl I q (by simp))
  | bl j => cases ry; exact ne_bool (fin_bl I q (congrArg not dec_bl))
  | str j => obtain ⟨t', rfl⟩ := ry; exact PySem.EqMixed.ne_bool_str (fin_bl I q (by simp))
  | _ => exact absurd (show false = true from hs) Bool.false_ne_true
 | int i =>
  obtain ⟨t, rfl⟩ := rx
  cases y with
  | non => cases ry; exact PySem.EqNone.ne_int_none (fin_bl I q (by simp))
  | int j => obtain ⟨t', rfl⟩ := ry; exact ne_int (fin_bl I q (congrArg not dec_int))
  | str j => obtain ⟨t', rfl⟩ := ry; exact PySem.EqMixed.ne_int_str (fin_bl I q (by simp))
  | _ => exact absurd (show false = true from hs) Bool.false_ne_true
 | str i =>
  obtain ⟨t, rfl⟩ := rx
  cases y with
  | non => cases ry; exact PySem.EqNone.ne_str_none (fin_bl I q (by simp))
  | bl j => cases ry; exact PySem.EqMixed.ne_str_bool (fin_bl I q (by simp))
  | int j => obtain ⟨t', rfl⟩ := ry; exact PySem.EqMixed.ne_str_int (fin_bl I q (by simp))
  | str j => obtain ⟨t', rfl⟩ := ry; exact ne_str (fin_bl I q (congrArg not dec_str))
  | _ => exact absurd (show false = true from hs) Bool.false_ne_true
 | byt i =>
  obtain ⟨t, rfl⟩ := rx
  cases y with
  | byt j => obtain ⟨t', rfl⟩ := ry; exact PySem.W.ne_bytes (fin_bl I q (congrArg not dec_byt))
  | _ => exact absurd (show false = true from hs) Bool.false_ne_true
 | _ => cases y <;> exact absurd (show false = true from hs) Bool.false_ne_true
theorem op_lt : OpR X (compareOp .Lt) (rI0 fun i j => .bl (decide (i < j))) := opB0 fun _ _ _ _ _ _ _ q => lt_int q
theorem op_le : OpR X (compareOp .LtE) (rI0 fun i j => .bl (decide (i ≤ j))) := opB0 fun _ _ _ _ _ _ _ q => le_int q
theorem op_gt : OpR X (compareOp .Gt) (rI0 fun i j => .bl (decide (j < i))) := opB0 fun _ _ _ _ _ _ _ q => gt_int q
theorem op_ge : OpR X (compareOp .GtE) (rI0 fun i j => .bl (decide (j ≤ i))) := opB0 fun _ _ _ _ _ _ _ q => ge_int q
theorem op_isN : OpR X (compareOp .Is) (fun x y H Q => y = .non ∧ Q (.bl (decide (x = .non))) H) := by
 intro pins s σ H x y v u Q I rx ry h
 obtain ⟨rfl, q⟩ := h
 cases ry
 refine is_none_gen (fin_bl I q ?_)
 cases x <;> first
  | (cases rx; rfl)
  | (obtain ⟨t, rfl⟩ := rx; rfl)
theorem op_notN : OpR X (compareOp .IsNot) (fun x y H Q => y = .non ∧ Q (.bl (!decide (x = .non))) H) := by
 intro pins s σ H x y v u Q I rx ry h
 obtain ⟨rfl, q⟩ := h
 cases ry
 refine isnot_none_gen (fin_bl I q ?_)
 cases x <;> first
  | (cases rx; rfl)
  | (obtain ⟨t, rfl⟩ := rx; rfl)
theorem nomark (b : Expr) {op : CmpOp} (h : op ≠ .In := by decide) (h2 : op ≠ .NotIn := by decide) : behindInMarks op b = false := by
 have e1 : (op == CmpOp.In) = false := by cases op <;> first | rfl | exact absurd rfl h
 have e2 : (op == CmpOp.NotIn) = false := by cases op <;> first | rfl | exact absurd rfl h2
 cases b <;> simp [behindInMarks, e1, e2]
theorem pe_cmpR {op : CmpOp} {r : R2} (ho : OpR X (compareOp op) r) (ha : PE X a ta) (hb : PE X b tb) (hm : behindInMarks op b = false) : PE X (.Compare a [op] [b] pos) (tOp r ta tb) := by
 intro pins s σ H Q I h
 exact wpAny_Compare1 (binT ha hb I h fun v u s2 x y H2 I2 rx ry q => ho pins s2 σ H2 x y v u Q I2 rx ry q) hm
noncomputable def tTest (t : TE) : TT := fun σ H Q => t σ H fun x H' => ∃ k, x = .bl k ∧ Q k H'
theorem pt_cmpR {op : CmpOp} {r : R2} (ho : OpR X (compareOp op) r) (ha : PE X a ta) (hb : PE X b tb) (hm : behindInMarks op b = false) : PT X (.Compare a [op] [b] pos) (tTest (tOp r ta tb)) := by
 intro pins s σ H Q I h
 refine wpAny_isTrue_Compare1 (thn (ha pins s σ H _ I h) fun v s1 ⟨x, H1, I1, r1, q1⟩ => thn (hb pins s1 σ H1 _ I1 q1) fun u s2 ⟨y, H2, I2, r2, q2⟩ =>
  thn (ho pins s2 σ H2 x y v u _ I2 r1 r2 q2) fun c s3 ⟨z, H3, I3, r3, k, e, q3⟩ => ?_) hm
 subst e
 cases r3
 exact wpAny_truthy_bool ⟨H3, I3, q3⟩
noncomputable def tChain (r r' : R2) (ta tb tc : TE) : TE := fun σ H Q => ta σ H fun x H1 => tb σ H1 fun y H2 => r x y H2 fun z H3 => ∃ k, z = .bl k ∧
 (if k = true then tc σ H3 fun w' H4 => r' y w' H4 Q else Q (.bl false) H3)
theorem pe_chain {op op' : CmpOp} {r r' : R2} (ho : OpR X (compareOp op) r) (ho' : OpR X (compareOp op') r') (ha : PE X a ta) (hb : PE X b tb) (hc : PE X c tc)
  (hm : lastMarks [op, op'] [b, c] = false := by with_unfolding_all rfl) : PE X (.Compare a [op, op'] [b, c] pos) (tChain r r' ta tb tc) := by
 intro pins s σ H Q I h
 refine Compare_chain (thn (ha pins s σ H _ I h) fun v s1 ⟨x, H1, I1, r1, q1⟩ => chain_link (thn (hb pins s1 σ H1 _ I1 q1) fun u s2 ⟨y, H2, I2, r2, q2⟩ =>
  thn (ho pins s2 σ H2 x y v u _ I2 r1 r2 q2) fun d s3 ⟨z, H3, I3, r3, k, e, q3⟩ => ?_)) hm
 subst e
 cases r3
 refine wpAny_truthy_bool ?_
 cases k with
 | false => exact ite_ff ⟨.bl false, H3, I3, rfl, q3⟩
 | true => exact ite_tt (chain_last (thn (hc pins s3 σ H3 _ I3 q3) fun w' s4 ⟨z', H4, I4, r4, q4⟩ => ho' pins s4 σ H4 y z' u w' Q I4 r2 r4 q4))
noncomputable def TruV (K : PySem.W.Frag) (x : V) (H : Hp) (k : Bool) : Prop :=
 match x with
 | .non => k = false
 | .bl b => k = b
 | .int i => k = (i != 0)
 | .str y => y.length ≤ sizeLine ∧ k = ((y.length : Int) != 0)
 | .byt y => y.size ≤ sizeLine ∧ k = ((y.size : Int) != 0)
 | .ref p => (∃ xs, SqL K H p xs ∧ k = !xs.isEmpty) ∨ (∃ xs, SqT K H p xs ∧ k = !xs.isEmpty) ∨ ∃ kvs, H p = some (.dK kvs) ∧ k = !kvs.isEmpty
 | _ => False
theorem isEmpty_kv {κ : Type} {kvs : List (κ × V)} {vs : List (κ × Value)} (r : KV kvs vs) : (!vs.isEmpty) = !kvs.isEmpty := by
 cases r <;> rfl
theorem isEmpty_of {xs : List V} {its : List Value} (r : Vals xs its) : (!its.toArray.isEmpty) = !xs.isEmpty := by
 cases r <;> simp
theorem line63 : (sizeLine : Nat) < 2 ^ 63 := by rw [sizeLine_eq]; decide
theorem tru_ok : TruR X (fun x H Q => ∃ k, TruV X.K x H k ∧ Q k H) := by
 intro pins s σ H x v Q I rx h
 obtain ⟨k, e, q⟩ := h
 have hl := line63
 have hs : sizeLine = 16777216 := sizeLine_eq
 cases x with
 | non =>
  cases rx
  have e' : k = false := e
  subst e'
  exact truthy_none ⟨H, I, q⟩
 | bl b =>
  cases rx
  have e' : k = b := e
  subst e'
  exact wpAny_truthy_bool ⟨H, I, q⟩
 | int i =>
  obtain ⟨t, rfl⟩ := rx
  have e' : k = (i != 0) := e
  subst e'
  exact PySem.P.truthy_int ⟨H, I, q⟩
 | str y =>
  obtain ⟨t, rfl⟩ := rx
  obtain ⟨hy, e'⟩ : y.length ≤ sizeLine ∧ k = ((y.length : Int) != 0) := e
  subst e'
  exact PySem.P.truthy_str (by omega) ⟨H, I.tok _, q⟩
 | byt y =>
  obtain ⟨t, rfl⟩ := rx
  obtain ⟨hy, e'⟩ : y.size ≤ sizeLine ∧ k = ((y.size : Int) != 0) := e
  subst e'
  exact PySem.W.truthy_bytes (by omega) ⟨H, I.tok _, q⟩
 | ref p =>
  cases rx
  have e' : (∃ xs, SqL X.K H p xs ∧ k = !xs.isEmpty) ∨ (∃ xs, SqT X.K H p xs ∧ k = !xs.isEmpty) ∨ ∃ kvs, H p = some (.dK kvs) ∧ k = !kvs.isEmpty := e
  rcases e' with ⟨xs, hx, e'⟩ | ⟨xs, hx, e'⟩ | ⟨kvs, hx, e'⟩
  ·subst e'
   obtain ⟨its, r, pl, hz⟩ := I.list hx
   have hlen := r.length
   exact wpAny_truthy_list pl.isList (by simp only [List.size_toArray]; omega) ⟨H, I.tok _, by rw [isEmpty_of r]; exact q⟩
  ·subst e'
   obtain ⟨its, r, pl, hz⟩ := I.tuple hx
   have hlen := r.length
   exact truthy_tuple pl (by simp only [List.size_toArray]; omega) ⟨H, I.tok _, by rw [isEmpty_of r]; exact q⟩
  ·subst e'
   obtain ⟨hz, hS, vs, r, m⟩ : kvs.length ≤ sizeLine ∧ (p == sysModules) = false ∧ ∃ vs, KV kvs vs ∧ s.heap.DictOf (mixKind X.prog X.w) p vs := I.hok p _ hx
   have hlen : kvs.length = vs.length := Paired.length r
   exact wpAny_truthy_dict hS m (by omega) ⟨H, I.tok _, by rw [isEmpty_kv r]; exact q⟩
 | _ => exact (show False from e).elim
theorem pt_truth (ha : PE X a ta) (he : ∀ whole, isTrue a X.env whole = (do let v ← whole; standAt a.pos; holding [v] (truthy v))) :
  PT X a (fun σ H Q => ta σ H fun x H' => ∃ k, TruV X.K x H' k ∧ Q k H') := by
 intro pins s σ H Q I h
 refine isTrue_plain (thn (ha pins s σ H _ I h) fun v s1 zz8 => ?_) (he _)
 obtain ⟨x, H1, I1, r1, q1⟩ := zz8
 exact tru_ok pins s1 σ H1 x v Q I1 r1 q1
theorem vals1 {x : V} {us : List Value} (r : Vals [x] us) : ∃ u, us = [u] ∧ RelV x u := by
 cases r with
 | cons r1 r2 => cases r2; exact ⟨_, rfl, r1⟩
end
end L2
namespace L2
open PySem PySem.Spec PyProof.Rows
structure ObjM (h : Heap) (x dx C : Addr) (mA : Str → Option Value) : Prop where
 obj : h.get? x = some (PySem.W.instObj C dx)
 ns : h.Ns1 dx mA
 ne : dx ≠ x
theorem lookIn_ns {h : Heap} {dx : Addr} {mA : Str → Option Value} (n : h.Ns1 dx mA) : ∃ od, h.get? dx = some od ∧ ∀ name, PySem.W.lookIn name od = some (mA name) := by
 obtain ⟨o, es, ep, ho, hd, hk, _, hm⟩ := n
 refine ⟨o, ho, fun name => ?_⟩
 have e := hm name
 unfold nsFind findBy at e
 rw [← Array.find?_toList] at e
 unfold PySem.W.lookIn
 rw [hd]
 dsimp only
 split
 ·rename_i y q
  rw [q] at e
  exact congrArg some e
 ·rename_i q
  rw [q] at e
  have a : es.toList.any (·.refKey) = false := by
   rw [List.any_eq_false]
   intro y hy
   obtain ⟨z, t, hkey⟩ := hk y (Array.mem_toList_iff.mp hy)
   simp [DictEntry.refKey, hkey]
  have a' : ¬ es.toList.any (·.refKey) = true := by rw [a]; exact Bool.false_ne_true
  rw [if_neg a']
  exact congrArg some e
theorem ObjM.look {h : Heap} {x dx C : Addr} {mA : Str → Option Value} (I : ObjM h x dx C mA) : ∃ od, PySem.W.InstAt h x (PySem.W.instObj C dx) C (some od) ∧ ∀ name, PySem.W.lookIn name od = some (mA name) :=
 let ⟨od, ho, hl⟩ := lookIn_ns I.ns
 ⟨od, ⟨I.obj, rfl, rfl, ho⟩, hl⟩
section
variable {prog : Program} {w : World} {A : Around} {E : Value → Shared → Prop} {s : Shared} {K : PySem.W.Frag} {x dx C f : Addr} {mA : Str → Option Value} {name : Str} {v : Value}
theorem get_map {expr : Bool} {Q : Value → Shared → Prop} (X : K.In s.heap) (I : ObjM s.heap x dx C mA) (hg : PySem.W.plainGet K C name = true) (hh : PySem.W.hasDictIn K C = true)
  (ha : PySem.W.findIn K (.ref C) name = some none) (hv : mA name = some v) (hv' : PySem.W.handedIn v = true) (h : Q v { s with toks := s.toks + 1 }) :
  wpAny (model prog w) A (getAttr (.ref x) name expr) Q E s := by
 obtain ⟨od, J, hl⟩ := I.look
 exact PySem.W.get_value X J (PySem.W.plainGet_of hg).1 (PySem.W.findObj_own hh ha rfl (by rw [hl, hv])) hv' h
theorem get_meth {pl : Sem Bool} {Q : Value × List Value → Shared → Prop} (X : K.In s.heap) (I : ObjM s.heap x dx C mA) (hg : PySem.W.plainGet K C name = true)
  (hf : PySem.W.findIn K (.ref C) name = some (some (.ref f))) (ht : PySem.W.isFn K (.ref f) = true) (hv : mA name = none) (h : Q (.ref f, [.ref x]) s) :
  wpAny (model prog w) A (getMethod (.ref x) name pl) Q E s := by
 obtain ⟨od, J, hl⟩ := I.look
 exact PySem.W.method_fn X J (PySem.W.plainGet_of hg).1 (PySem.W.plainGet_of hg).2 hf (beq_iff_eq.mp ht) (by show (PySem.W.lookIn name od).map (·.isSome) = some false; rw [hl, hv]; rfl) h
theorem set_map {ns : List Str} {Q : Unit → Shared → Prop} (X : K.In s.heap) (I : ObjM s.heap x dx C mA)
  (hs : PySem.W.findIn K (.ref C) "__setattr__" = some (some (.builtin "object.__setattr__"))) (hp : PySem.W.plainOver K C = true) (ht : PySem.W.takerIn K C name = some none) (hh : PySem.W.hasDictIn K C = true)
  (hw : PySem.Within mA ns) (hsz : ns.length ≤ sizeLine)
  (h : ∀ h', ObjM h' x dx C (fun y => if y = name then some v else mA y) → Heap.SameBut dx s.heap h' → Q () { s with heap := h', toks := s.toks + 2 }) :
  wpAny (model prog w) A (setAttr (.ref x) name v) Q E s := by
 obtain ⟨od, J, hl⟩ := I.look
 refine PySem.W.set_plain X J hs (PySem.W.osa_open (s := { s with toks := s.toks + 1 }) (r := none) X J hp ht fun b => ?_)
 obtain ⟨cd, hc, hd'⟩ := PySem.W.any_some hh
 have hx : s.heap.get? x = some ⟨.ref C, some dx, .plain, #[]⟩ := I.obj
 refine wpAny_bind (wpAny_pure (wpAny_bind (wpAny_bind (wpAny_loadPart hx (wpAny_bind (PySem.W.Looks.here (s := { s with toks := s.toks + 1 }) (PySem.W.looks_clsIn X hc) ?_))))))
 rw [hd']
 refine wpAny_pure (a := some dx) (wpAny_bind (wpAny_pure (wpAny_bind ?_)))
 refine wpAny_nsSet1 (s := { s with toks := s.toks + 1 }) I.ns fun h' hn2 hs2 => ?_
 obtain ⟨oD, esD, epD, hoD, hdD, hcD⟩ := hn2.count (PySem.Within.cons name v hw)
 refine wpAny_bind (wpAny_lookBehind hoD (by rw [hdD]; exact pastItsLine_dict (Nat.le_trans hcD (by rw [List.length_cons]; omega))) ?_)
 exact wpAny_pure (h _ ⟨(hs2.2 _ (Ne.symm I.ne)).trans I.obj, hn2, I.ne⟩ hs2)
theorem make_map {R : Result → Shared → Prop} {vs : List Value} {kw : List (Str × Value)} (X : K.In s.heap) (hm : PySem.W.makesIn K C = true)
  (hi : PySem.W.findIn K (.ref C) "__init__" = some (some (.ref f))) (hf : PySem.W.typeIn K (.ref f) = some (.type "function"))
  (h : codeAny (model prog w) (A.under (.builtin "type.__call__" ⟨.ref C :: vs, kw⟩)) (.call (.ref f) ⟨.ref (s.heap.objs.size + 1) :: vs, kw⟩) (PySem.W.InitBack (s.heap.objs.size + 1) R)
   { s with heap := (s.heap.push PySem.W.emptyDict).push (PySem.W.instObj C s.heap.objs.size) }) :
  codeAny (model prog w) A (.call (.ref C) ⟨vs, kw⟩) R s := by
 obtain ⟨hh, g, d, t, os⟩ := s
 exact PySem.W.make_core (PySem.W.makes_of X hm) (PySem.W.looks_findIn X hi) (fun self => PySem.W.bind_fn X self hf) (.inl rfl) h
end
noncomputable def putF (f : Str) (v : V) : List (Str × V) → List (Str × V)
 | [] => [(f, v)]
 | (g, x) :: r => if g = f then (g, v) :: r else (g, x) :: putF f v r
theorem lookup_putF (f g : Str) (v : V) : ∀ fs : List (Str × V), (putF f v fs).lookup g = if g = f then some v else fs.lookup g
 | [] => by
  show List.lookup g [(f, v)] = _
  by_cases h : g = f
  ·have hb : (g == f) = true := beq_iff_eq.mpr h
   simp only [List.lookup, hb, if_pos h]
  ·have hb : (g == f) = false := beq_eq_false_iff_ne.mpr h
   simp only [List.lookup, hb, if_neg h]
 | (k, x) :: r => by
  have ih := lookup_putF f g v r
  rw [show putF f v ((k, x) :: r) = (if k = f then (k, v) :: r else (k, x) :: putF f v r) from rfl]
  by_cases hk : k = f
  ·rw [if_pos hk]
   by_cases h : g = k
   ·have hb : (g == k) = true := beq_iff_eq.mpr h
    simp only [List.lookup, hb, if_pos (h.trans hk)]
   ·have hb : (g == k) = false := beq_eq_false_iff_ne.mpr h
    simp only [List.lookup, hb, if_neg (fun e : g = f => h (e.trans hk.symm))]
  ·rw [if_neg hk]
   by_cases h : g = k
   ·have hb : (g == k) = true := beq_iff_eq.mpr h
    simp only [List.lookup, hb, if_neg (fun e : g = f => hk (h.symm.trans e))]
   ·have hb : (g == k) = false := beq_eq_false_iff_ne.mpr h
    simp only [List.lookup, hb]
    exact ih
theorem keys_putF (f : Str) (v : V) : ∀ fs : List (Str × V), f ∈ (putF f v fs).map (·.1) ∧ ∀ g, g ∈ fs.map (·.1) → g ∈ (putF f v fs).map (·.1)
 | [] => ⟨by simp [putF], fun g h => by simp at h⟩
 | (k, x) :: r => by
  obtain ⟨i1, i2⟩ := keys_putF f v r
  rw [show putF f v ((k, x) :: r) = (if k = f then (k, v) :: r else (k, x) :: putF f v r) from rfl]
  by_cases hk : k = f
  ·rw [if_pos hk]
   subst hk
   exact ⟨by simp, fun g h => by simpa using h⟩
  ·rw [if_neg hk]
   refine ⟨?_, fun g h => ?_⟩
   ·rw [List.map_cons]
    exact List.mem_cons_of_mem _ i1
   ·rw [List.map_cons] at h ⊢
    rcases List.mem_cons.mp h with e | e
    ·exact List.mem_cons.mpr (.inl e)
    ·exact List.mem_cons_of_mem _ (i2 g e)
theorem length_putF (f : Str) (v : V) : ∀ fs : List (Str × V), (putF f v fs).length ≤ fs.length + 1
 | [] => by simp [putF]
 | (k, x) :: r => by
  have ih := length_putF f v r
  rw [show putF f v ((k, x) :: r) = (if k = f then (k, v) :: r else (k, x) :: putF f v r) from rfl]
  by_cases hk : k = f
  ·rw [if_pos hk, List.length_cons, List.length_cons]; omega
  ·rw [if_neg hk, List.length_cons, List.length_cons]; omega
theorem RelO.some_of {v : V} {o : Option Value} (r : RelO (some v) o) : ∃ u, o = some u ∧ RelV v u := by
 cases o with
 | none => exact (show False from r).elim
 | some u => exact ⟨u, rfl, r⟩
theorem RelO.none_of {o : Option Value} (r : RelO none o) : o = none := by
 cases o with
 | none => rfl
 | some u => exact (show False from r).elim
theorem handed_of {v : V} {u : Value} (r : RelV v u) : PySem.W.handedIn u = true := by
 cases v with
 | non => cases (show u = Value.none from r); rfl
 | bl b => cases (show u = Value.bool b from r); rfl
 | int i => obtain ⟨t, e⟩ := (show ∃ t, u = Value.int i t from r); cases e; rfl
 | str x => obtain ⟨t, e⟩ := (show ∃ t, u = Value.str x t from r); cases e; rfl
 | byt b => obtain ⟨t, e⟩ := (show ∃ t, u = Value.bytes b t from r); cases e; rfl
 | flt b => obtain ⟨t, e⟩ := (show ∃ t, u = Value.float b t from r); cases e; rfl
 | ref a => cases (show u = Value.ref a from r); rfl
 | ty n => cases (show u = Value.type n from r); rfl
section
variable {P : Program} {w : World} {H H' : Hp} {h h' : Heap} {a C dx : Addr} {fs fs' : List (Str × V)}
theorem ins_get (hok : HOk P w H h) (e : H a = some (.ins C dx fs)) : ∃ mA, ObjM h a dx C mA ∧ (∀ f, RelO (fs.lookup f) (mA f)) ∧ PySem.Within mA (fs.map (·.1)) ∧ fs.length ≤ 1000 ∧ H dx = some (.own a) := by
 obtain ⟨d, z, ne, ob, mA, n, r, q⟩ := (show ObjOk P w H h a (.ins C dx fs) from hok a _ e)
 exact ⟨mA, ⟨ob, n, ne⟩, r, q, z, d⟩
end
structure Cls (K : PySem.W.Frag) (C : Addr) : Prop where
 pg : PySem.W.plainGet K C Str.empty = true
 hd : PySem.W.hasDictIn K C = true
 po : PySem.W.plainOver K C = true
 sa : PySem.W.findIn K (.ref C) "__setattr__" = some (some (.builtin "object.__setattr__"))
theorem Cls.get {K : PySem.W.Frag} {C : Addr} (c : Cls K C) (f : Str) : PySem.W.plainGet K C f = true := c.pg
noncomputable def NoAttr (K : PySem.W.Frag) (C : Addr) (f : Str) : Prop := PySem.W.findIn K (.ref C) f = some none
theorem NoAttr.taker {K : PySem.W.Frag} {C : Addr} {f : Str} (n : NoAttr K C f) : PySem.W.takerIn K C f = some none := by
 unfold PySem.W.takerIn
 rw [show PySem.W.findIn K (.ref C) f = some none from n]
 rfl
structure Meth (K : PySem.W.Frag) (C : Addr) (m : Str) (f : Addr) : Prop where
 at_ : PySem.W.findIn K (.ref C) m = some (some (.ref f))
 fn : PySem.W.isFn K (.ref f) = true
 kp : PySem.W.keepIn K (.ref f) = true
section
variable {X : Cx} {pins : List (Addr × Obj)} {σ : St} {H : Hp} {s : Shared} {a C dx : Addr} {fs : List (Str × V)} {f : Str} {v : V} {A : Around} {E : Value → Shared → Prop}
theorem getattr_ok {b : Bool} {Q : Value → Shared → Prop} (I : Inv X pins σ H s) (e : H a = some (.ins C dx fs)) (c : Cls X.K C) (n : NoAttr X.K C f) (l : fs.lookup f = some v)
  (h : ∀ u s', Inv X pins σ H s' → RelV v u → Q u s') : wpAny (model X.prog X.w) A (getAttr (.ref a) f b) Q E s := by
 obtain ⟨mA, O, r, _, _, _⟩ := ins_get I.hok e
 obtain ⟨u, hu, ru⟩ := RelO.some_of (v := v) (o := mA f) (by rw [← l]; exact r f)
 exact get_map I.kIn O (c.get f) c.hd n hu (handed_of ru) (h u _ (I.tok _) ru)
theorem getmeth_ok {m : Str} {g : Addr} {pl : Sem Bool} {Q : Value × List Value → Shared → Prop} (I : Inv X pins σ H s) (e : H a = some (.ins C dx fs)) (c : Cls X.K C) (k : Meth X.K C m g) (l : fs.lookup m = none)
  (h : Q (.ref g, [.ref a]) s) : wpAny (model X.prog X.w) A (getMethod (.ref a) m pl) Q E s := by
 obtain ⟨mA, O, r, _, _, _⟩ := ins_get I.hok e
 have hn : mA m = none := RelO.none_of (by rw [← l]; exact r m)
 exact get_meth I.kIn O (c.get m) k.at_ k.fn hn h
theorem setattr_ok {y : V} {u : Value} {Q : Unit → Shared → Prop} (I : Inv X pins σ H s) (e : H a = some (.ins C dx fs)) (c : Cls X.K C) (n : NoAttr X.K C f) (hl : fs.length < 1000) (ry : RelV y u)
  (h : ∀ s', Inv X pins σ (upd H a (.ins C dx (putF f y fs))) s' → Q () s') : wpAny (model X.prog X.w) A (setAttr (.ref a) f u) Q E s := by
 obtain ⟨mA, O, r, wi, _, ho⟩ := ins_get I.hok e
 have hz : (fs.map (·.1)).length ≤ sizeLine := by rw [List.length_map, sizeLine_eq]; omega
 refine set_map I.kIn O c.sa c.po n.taker c.hd wi hz fun h' O' sb => h _ ?_
 have hd : ∃ o, h'.get? dx = some o := let ⟨o, _, _, e', _⟩ := O'.ns; ⟨o, e'⟩
 refine I.write (x := a) (e := dx) (by rw [e]; exact True.intro) (.inr ho) (fun b q hb z => (sb.2 b hb).trans z) hd ?_
 refine ⟨by rw [upd_ne O.ne]; exact ho, ?_, O.ne, O'.obj, _, O'.ns, fun g => ?_, fun g hg => ?_⟩
 ·have := length_putF f y fs; omega
 ·show RelO ((putF f y fs).lookup g) (if g = f then some u else mA g)
  rw [lookup_putF]
  by_cases q : g = f
  ·rw [if_pos q, if_pos q]; exact ry
  ·rw [if_neg q, if_neg q]; exact r g
 ·by_cases q : g = f
  ·rw [q]; exact (keys_putF f y fs).1
  ·refine (keys_putF f y fs).2 g (wi g fun z => hg ?_)
   show (if g = f then some u else mA g) = none
   rw [if_neg q]; exact z
theorem Inv.made (I : Inv X pins σ H s) : Inv X pins σ (upd (upd H s.heap.objs.size (.own (s.heap.objs.size + 1))) (s.heap.objs.size + 1) (.ins C s.heap.objs.size []))
  { s with heap := (s.heap.push PySem.W.emptyDict).push (PySem.W.instObj C s.heap.objs.size) } := by
 have e1 : (s.heap.push PySem.W.emptyDict).get? s.heap.objs.size = some PySem.W.emptyDict := Heap.get?_push_size s.heap rfl
 have e2 : ((s.heap.push PySem.W.emptyDict).push (PySem.W.instObj C s.heap.objs.size)).get? (s.heap.objs.size + 1) = some (PySem.W.instObj C s.heap.objs.size) := by
  have := Heap.get?_push_size (s.heap.push PySem.W.emptyDict) (o := PySem.W.instObj C s.heap.objs.size) rfl
  rwa [Heap.size_push] at this
 have e3 : (s.heap.push PySem.W.emptyDict).Ns s.heap.objs.size (fun _ => none) := ⟨PySem.W.emptyDict, #[], _, e1, rfl, (fun e he => absurd he (by simp)), fun _ => rfl⟩
 have I1 := I.laid (a := s.heap.objs.size) (o := .own (s.heap.objs.size + 1)) (h' := s.heap.push PySem.W.emptyDict) (t' := s.toks) (fun b u q => Heap.get?_push_of_some _ q) (Nat.le_refl _) ⟨_, e1⟩
 refine I1.laid (a := s.heap.objs.size + 1) (o := .ins C s.heap.objs.size []) (t' := s.toks) (fun b u q => Heap.get?_push_of_some _ q) (Nat.le_of_eq (Heap.size_push _ _)) ?_
 have ne : s.heap.objs.size ≠ s.heap.objs.size + 1 := Nat.ne_of_lt (Nat.lt_succ_self _)
 refine ⟨by rw [upd_ne ne, upd_same], Nat.zero_le _, ne, e2, fun _ => none, (Heap.Ns1.of_empty e3).at fun o q => Heap.get?_push_of_some _ q, fun _ => True.intro, fun y hy => absurd rfl hy⟩
theorem attr_of {prog : Program} {w : World} {env : Env} {e : Expr} {f : Str} {pos : Pos} {s : Shared} {Q : Value → Shared → Prop} (hb : attributeBase e f env (eval e env) = eval e env)
  (h : wpAny (model prog w) A (eval e env) (fun o s₁ => wpAny (model prog w) A (getAttr o f true) Q E s₁) E s) : wpAny (model prog w) A (eval (.Attribute e f pos) env) Q E s :=
 Attribute_any_ h (by rw [arm_eval_Attribute, hb])
end
noncomputable def tFld (K : PySem.W.Frag) (ta : TE) (f : Str) : TE := fun σ H Q => ta σ H fun x H1 => ∃ a C dx fs v, x = .ref a ∧ H1 a = some (.ins C dx fs) ∧ Cls K C ∧ NoAttr K C f ∧ fs.lookup f = some v ∧ Q v H1
noncomputable def sFld (K : PySem.W.Frag) (ta tv : TE) (f : Str) : TS := fun D σ H => tv σ H fun y H1 => ta σ H1 fun x H2 => ∃ a C dx fs, x = .ref a ∧ H2 a = some (.ins C dx fs) ∧ Cls K C ∧ NoAttr K C f ∧ fs.length < 1000 ∧
 D.nx σ (upd H2 a (.ins C dx (putF f y fs)))
section
variable {X : Cx} {o e value : Expr} {f : Str} {pos pos' tpos : Pos} {ta tv : TE}
theorem pe_fld (he : PE X e ta) (hb : attributeBase e f X.env (eval e X.env) = eval e X.env) : PE X (.Attribute e f pos) (tFld X.K ta f) := by
 intro pins s σ H Q I h
 refine attr_of hb (thn (he pins s σ H _ I h) fun u s1 zz9 => ?_)
 obtain ⟨x, H1, I1, rx, a, C, dx, fs, v, ex, ea, c, n, l, q⟩ := zz9
 subst ex
 obtain rfl : u = Value.ref a := rx
 exact getattr_ok I1 ea c n l fun u' s2 I2 ru => ⟨v, H1, I2, ru, q⟩
theorem ps_fld (ha : PE X o ta) (hv : PE X value tv) (hs : swapsWith value (some (.Attribute o f pos')) pos.line X.env = pure false) : PS X (.Assign [.Attribute o f pos'] value pos) (sFld X.K ta tv f) := by
 intro pins s σ H D I h
 refine plainObj_wpAny_Assign_Attribute (thn (hv pins s σ H _ I h) fun u s1 zz9 => ?_) hs
 obtain ⟨y, H1, I1, ry, q⟩ := zz9
 refine thn (ha pins s1 σ H1 _ I1 q) fun ov s2 zz10 => ?_
 obtain ⟨x, H2, I2, rx, a, C, dx, fs, ex, ea, c, n, l, q2⟩ := zz10
 subst ex
 obtain rfl : ov = Value.ref a := rx
 exact setattr_ok I2 ea c n l ry fun s3 I3 => ⟨σ, _, I3, q2⟩
end
section
variable {X : Cx} {pins : List (Addr × Obj)} {σ : St} {H : Hp} {s : Shared} {A : Around} {E : Value → Shared → Prop} {Q : Value → Shared → Prop} {c : Value} {b : Bool}
inductive TyOf (K : PySem.W.Frag) (H : Hp) : V → Value → Prop where
 | non : TyOf K H .non (.type "NoneType")
 | bl (x : Bool) : TyOf K H (.bl x) (.type "bool")
 | int (i : Int) : TyOf K H (.int i) (.type "int")
 | str (x : Str) : TyOf K H (.str x) (.type "str")
 | flt (x : UInt64) : TyOf K H (.flt x) (.type "float")
 | lst {a : Addr} {xs : List V} (e : H a = some (.lst xs)) : TyOf K H (.ref a) (.type "list")
 | frz {a : Addr} {o : Obj} {xs : List V} (e : H a = some (.frz o (.lst xs))) : TyOf K H (.ref a) (.type "list")
 | tup {a : Addr} {xs : List V} (e : H a = some (.tup xs)) : TyOf K H (.ref a) (.type "tuple")
 | dK {a : Addr} {kvs : List (Key × V)} (e : H a = some (.dK kvs)) : TyOf K H (.ref a) (.type "dict")
 | dT {a : Addr} {kvs : List (List Key × V)} (e : H a = some (.dT kvs)) : TyOf K H (.ref a) (.type "dict")
 | ins {a C dx : Addr} {fs : List (Str × V)} (e : H a = some (.ins C dx fs)) (cl : Cls K C) (ha : PySem.W.findIn K (.ref C) "__class__" = some (some (.builtin "object.__class__")))
   (hn : PySem.W.specialIn K (.builtin "object.__class__") "__get__" = some (some (.builtin "getset_descriptor.__get__"))) (htk : PySem.W.takesIn K (.builtin "object.__class__") = some true)
   (hm : PySem.W.mroIn K C (.type "object") = some true) : TyOf K H (.ref a) (.ref C)
theorem isinst_ok {x : V} {u t : Value} (I : Inv X pins σ H s) (rx : RelV x u) (ty : TyOf X.K H x t) (e : PySem.W.kitOne X.K t c = some b) (h : ∀ tk, Q (.bool b) { s with toks := tk }) :
  wpAny (model X.prog X.w) A (call (.builtin "isinstance") [u, c]) Q E s := by
 cases ty with
 | non => cases (show u = Value.none from rx); exact PySem.W.kia_one PySem.W.kitx_none I.kIn True.intro e (fun z => nomatch z) h
 | bl y => cases (show u = Value.bool y from rx); exact PySem.W.kia_one PySem.W.kitx_bool I.kIn True.intro e (fun z => nomatch z) h
 | int i => obtain ⟨t, q⟩ := (show ∃ t, u = Value.int i t from rx); cases q; exact PySem.W.kia_one PySem.W.kitx_int I.kIn True.intro e (fun z => nomatch z) h
 | str y => obtain ⟨t, q⟩ := (show ∃ t, u = Value.str y t from rx); cases q; exact PySem.W.kia_one PySem.W.kitx_str I.kIn True.intro e (fun z => nomatch z) h
 | flt y => obtain ⟨t, q⟩ := (show ∃ t, u = Value.float y t from rx); cases q; exact PySem.W.kia_one PySem.W.kitx_float I.kIn True.intro e (fun z => nomatch z) h
 | @lst a xs ea =>
  cases (show u = Value.ref a from rx)
  obtain ⟨_, _, n, _, h1⟩ := (show ObjOk X.prog X.w H s.heap a (.lst xs) from I.hok a _ ea)
  exact PySem.W.kia_one PySem.W.kitx_list I.kIn ⟨_, h1, rfl⟩ e (fun z => nomatch z) h
 | @frz a ob xs ea =>
  cases (show u = Value.ref a from rx)
  obtain ⟨_, _, _, n, _, h1⟩ := (show ObjOk X.prog X.w H s.heap a (.frz ob (.lst xs)) from I.hok a _ ea)
  exact PySem.W.kia_one PySem.W.kitx_list I.kIn ⟨_, h1, rfl⟩ e (fun z => nomatch z) h
 | @tup a xs ea =>
  cases (show u = Value.ref a from rx)
  obtain ⟨_, _, _, p⟩ := (show ObjOk X.prog X.w H s.heap a (.tup xs) from I.hok a _ ea)
  obtain ⟨o, h1, h2, _⟩ := p
  exact PySem.W.kia_one PySem.W.kitx_tuple I.kIn ⟨o, h1, h2⟩ e (fun z => nomatch z) h
 | @dK a kvs ea =>
  cases (show u = Value.ref a from rx)
  obtain ⟨_, _, vs, _, p⟩ := (show ObjOk X.prog X.w H s.heap a (.dK kvs) from I.hok a _ ea)
  obtain ⟨o, es, ep, h1, h2, _⟩ := p
  exact PySem.W.kia_one PySem.W.kitx_dict I.kIn ⟨o, h1, h2.1⟩ e (fun z => nomatch z) h
 | @dT a kvs ea =>
  cases (show u = Value.ref a from rx)
  obtain ⟨_, _, xs, _, o, es, ep, h1, h2, _⟩ := (show ObjOk X.prog X.w H s.heap a (.dT kvs) from I.hok a _ ea)
  exact PySem.W.kia_one PySem.W.kitx_dict I.kIn ⟨o, h1, h2.1⟩ e (fun z => nomatch z) h
 | @ins a C dx fs ea cl ha hn htk hm =>
  cases (show u = Value.ref a from rx)
  obtain ⟨mA, O, _⟩ := ins_get I.hok ea
  obtain ⟨od, J, _⟩ := O.look
  exact PySem.W.kia_one (PySem.W.kitx_own (cl.get _) cl.hd ha hn htk hm) I.kIn J e (fun z => nomatch z) h
end
end L2
namespace L2
open PySem PySem.Spec PyProof.Rows
structure Room (k : Nat) (A : Around) : Prop where
 hd : A.handled = none
 dp : A.depth + 3 * k + 5 < recursionLimit
 un : A.units + 16 * k + 200 < cLine
theorem Room.mono {j k : Nat} {A : Around} (r : Room k A) (h : j ≤ k) : Room j A := ⟨r.hd, by have := r.dp; omega, by have := r.un; omega⟩
theorem Room.deeper {k : Nat} {A : Around} (r : Room (k + 1) A) (env : Env) : Room k (A.deeper env) :=
 ⟨r.hd, by have := r.dp; show A.depth + 1 + 3 * k + 5 < _; omega, by have := r.un; show A.units + 3 + 16 * k + 200 < _; omega⟩
theorem make_depth {A : Around} {C : Addr} {us : List Value} {kw : List (Str × Value)} : (A.under (.builtin "type.__call__" ⟨.ref C :: us, kw⟩)).depth = A.depth + 1 := by
 first | rfl | simp [Around.under, Code.weight, Code.isCreation, Code.isGuard, Code.isCaller, Code.frames, Code.isFrame, guardIds]
theorem make_units {A : Around} {C : Addr} {us : List Value} {kw : List (Str × Value)} : (A.under (.builtin "type.__call__" ⟨.ref C :: us, kw⟩)).units = A.units + 1 := by
 first | rfl | simp [Around.under, Code.cUnits, Code.frames, Code.isFrame]
theorem Room.make {k : Nat} {A : Around} (r : Room (k + 1) A) (C : Addr) (us : List Value) (kw : List (Str × Value)) : Room k (A.under (.builtin "type.__call__" ⟨.ref C :: us, kw⟩)) :=
 ⟨r.hd, by have := r.dp; rw [make_depth]; omega, by have := r.un; rw [make_units]; omega⟩
theorem Room.depth {k : Nat} {A : Around} (r : Room k A) : A.depth < recursionLimit := by have := r.dp; omega
theorem Room.units {k : Nat} {A : Around} (r : Room k A) : A.units + 64 < cLine := by have := r.un; omega
noncomputable def tNil : TA := fun _ H Q => Q [] H
noncomputable def tCons (ta : TE) (tr : TA) : TA := fun σ H Q => ta σ H fun x H1 => tr σ H1 fun xs H2 => Q (x :: xs) H2
section
variable {X : Cx} {e : Expr} {es : List Expr} {te : TE} {t : TA} {pos : Pos}
theorem pa_nil : PA X [] tNil := fun _ _ _ _ H Q I h => Calls.spliced_nil ⟨[], H, I, .nil, h⟩
theorem pa_cons (ha : PE X e te) (hr : PA X es t) (hs : starEach (e :: es) X.env = (false, eval e X.env) :: starEach es X.env := by rfl) : PA X (e :: es) (tCons te t) := by
 intro pos pins s σ H Q I h
 rw [hs]
 show wpAny _ _ (spliced ((false, eval e X.env) :: backTo pos (starEach es X.env))) _ _ s
 refine Calls.spliced_cons (thn (ha pins s σ H _ I h) fun u s1 zz9 => ?_)
 obtain ⟨x, H1, I1, r1, q1⟩ := zz9
 refine thn (hr pos pins s1 σ H1 _ I1 q1) fun us s2 zz11 => ?_
 obtain ⟨xs, H2, I2, r2, q2⟩ := zz11
 exact ⟨x :: xs, H2, I2, .cons r1 r2, q2⟩
noncomputable def tTup (t : TA) : TE := fun σ H Q => t σ H fun xs H1 => xs.length ≤ sizeLine ∧ ∀ p, H1 p = none → Q (.ref p) (upd H1 p (.tup xs))
noncomputable def tLst (t : TA) : TE := fun σ H Q => t σ H fun xs H1 => xs.length ≤ sizeLine ∧ ∀ p, H1 p = none → Q (.ref p) (upd H1 p (.lst xs))
theorem pe_tup {x1} (h : PA X es t) : PE X (.Tuple es x1 pos) (tTup t) := by
 intro pins s σ H Q I hq
 refine wpAny_Tuple_spliced (thn (h pos pins s σ H _ I hq) fun us s1 zz7 => ?_)
 obtain ⟨xs, H1, I1, r, z, q⟩ := zz7
 refine ⟨by rw [← r.length]; exact z, ?_⟩
 have hf : H1 s1.heap.objs.size = none := I1.hok.fresh (Nat.le_refl _)
 refine ⟨.ref s1.heap.objs.size, upd H1 s1.heap.objs.size (.tup xs), I1.laid (t' := s1.toks) (fun b u e => Heap.get?_push_of_some _ e) (Nat.le_refl _) ?_, rfl, q _ hf⟩
 exact ⟨z, us, r, ⟨_, Heap.get?_push_size _ rfl, rfl, _, rfl⟩⟩
theorem pe_lst (h : PA X es t) : PE X (.List es pos) (tLst t) := by
 intro pins s σ H Q I hq
 refine wpAny_List_spliced (thn (h pos pins s σ H _ I hq) fun us s1 zz7 => ?_)
 obtain ⟨xs, H1, I1, r, z, q⟩ := zz7
 refine ⟨by rw [← r.length]; exact z, ?_⟩
 have hf : H1 s1.heap.objs.size = none := I1.hok.fresh (Nat.le_refl _)
 refine ⟨.ref s1.heap.objs.size, upd H1 s1.heap.objs.size (.lst xs), I1.laid (t' := s1.toks) (fun b u e => Heap.get?_push_of_some _ e) (Nat.le_refl _) ?_, rfl, q _ hf⟩
 exact ⟨z, us, 0, r, Heap.get?_push_size _ rfl⟩
end
noncomputable abbrev Sp := List V → Hp → VK → XK → Prop
noncomputable abbrev CXT := List Env → Hp → Shared → XK → Value → Shared → Prop
structure Env0 (P : Program) (w : World) (K : PySem.W.Frag) (mg : Str → Option Value) (base : Heap) (A : Around) (outer : List Env) (s : Shared) (H : Hp) : Prop where
 frames : A.frames = some outer
 mod : Mod K mg base
 bs : ∀ b o, base.get? b = some o → s.heap.get? b = some o ∧ H b = none
 bsz : base.objs.size ≤ s.heap.objs.size
 funs : s.heap.FunFrames base outer
 frf : ∀ b ∈ frs outer, H b = none
 hok : HOk P w H s.heap
 bare : AllBare s.gens
noncomputable def CE (outer : List Env) (P : Program) (w : World) (H : Hp) (s : Shared) (Q : VK) (u : Value) (s' : Shared) : Prop :=
 ∃ v H', s'.os = s.os ∧ AllBare s'.gens ∧ Un (frs outer) [] H H' s.heap s'.heap ∧ HOk P w H' s'.heap ∧ RelV v u ∧ Q v H'
noncomputable def CR (CX : CXT) (outer : List Env) (P : Program) (w : World) (H : Hp) (s : Shared) (Q : VK) (E : XK) (r : Result) (s' : Shared) : Prop :=
 match r with
 | .ok (.ret u) => CE outer P w H s Q u s'
 | .ok _ => False
 | .error e => CX outer H s E e s'
structure FnOk (P : Program) (w : World) (K : PySem.W.Frag) (mg : Str → Option Value) (base : Heap) (CX : CXT) (k : Nat) (f : Addr) (fd : FuncData) (ps : List Str) (sp : Sp) : Prop where
 len : ∀ vs H Q E, sp vs H Q E → vs.length = ps.length
 run : ∀ (A : Around) (outer : List Env) (s : Shared) (H : Hp) (args : Args) (us : List Value) (vs : List V) (Q : VK) (E : XK), Room k A → Env0 P w K mg base A outer s H → BindsTo s fd args (ps.zip us) → Vals vs us → sp vs H Q E →
  codeAny (model P w) A (.call (.ref f) args) (CR CX outer P w H s Q E) s
theorem Env0.make {P : Program} {w : World} {K : PySem.W.Frag} {mg : Str → Option Value} {base : Heap} {A : Around} {outer : List Env} {s : Shared} {H : Hp} (e : Env0 P w K mg base A outer s H) (C : Addr) (us : List Value) (kw : List (Str × Value)) :
  Env0 P w K mg base (A.under (.builtin "type.__call__" ⟨.ref C :: us, kw⟩)) outer s H := ⟨by first | exact e.frames | (simpa [Around.under, Code.envs, Code.isFrame, pushEnvs] using e.frames), e.mod, e.bs, e.bsz, e.funs, e.frf, e.hok, e.bare⟩
section
variable {X : Cx} {pins : List (Addr × Obj)} {σ : St} {H : Hp} {s s' : Shared}
theorem Inv.env0 (I : Inv X pins σ H s) : Env0 X.prog X.w X.K X.mg X.base X.A X.stack s H :=
 ⟨I.ok.frames, I.ok.mod, I.bs, Nat.le_trans I.ok.bsz I.sz, I.stack, I.stkFree, I.hok, I.bare⟩
theorem Inv.after {Q : VK} {u : Value} (I : Inv X pins σ H s) (h : CE X.stack X.prog X.w H s Q u s') : EP X pins σ Q u s' := by
 obtain ⟨v, H', os, bare, un, hok, r, q⟩ := h
 obtain ⟨hh, g, d, t, os'⟩ := s'
 obtain rfl : os' = s.os := os
 exact ⟨v, H', I.call (h' := hh) (g' := g) (d' := d) (t' := t) (ch := []) un hok bare (fun b z => absurd z (by simp)), r, q⟩
end
noncomputable def tCall (sp : Sp) (dvs : List V) (E : XK) (t : TA) : TE := fun σ H Q => t σ H fun vs H1 => sp (vs ++ dvs) H1 Q E
noncomputable def tMeth (C : Addr) (m : Str) (sp : Sp) (dvs : List V) (E : XK) (ta : TE) (t : TA) : TE := fun σ H Q => ta σ H fun x H1 => ∃ a dx fs, x = .ref a ∧ H1 a = some (.ins C dx fs) ∧ fs.lookup m = none ∧
 t σ H1 fun vs H2 => sp (x :: (vs ++ dvs)) H2 Q E
noncomputable def tMake (C : Addr) (sp : Sp) (dvs : List V) (E : XK) (t : TA) : TE := fun σ H Q => t σ H fun vs H1 => ∀ x dx, H1 x = none → H1 dx = none → dx ≠ x →
 sp (.ref x :: (vs ++ dvs)) (upd (upd H1 dx (.own x)) x (.ins C dx [])) (fun v H2 => v = .non ∧ Q (.ref x) H2) E
noncomputable def Binds (K : PySem.W.Frag) (fd : FuncData) (ps : List Str) (ds : List Value) : Prop :=
 ∀ (s : Shared) (us : List Value), K.In s.heap → (us ++ ds).length = ps.length → BindsTo s fd ⟨us, []⟩ (ps.zip (us ++ ds))
theorem Binds.all {K : PySem.W.Frag} {fd : FuncData} {ps : List Str} (h : ∀ us : List Value, us.length = ps.length → bindArgs fd ⟨us, []⟩ = pure (ps.zip us)) : Binds K fd ps [] := fun s us _ hl => by
 rw [List.append_nil] at hl ⊢
 exact .of_eq (h us hl)
noncomputable def Passes (CX : CXT) (X : Cx) (E : XK) : Prop := ∀ (pins : List (Addr × Obj)) (σ : St) (H : Hp) (s : Shared) (e : Value) (s' : Shared), Inv X pins σ H s → CX X.stack H s E e s' → X.xe e s'
section
variable {X : Cx} {CX : CXT} {k : Nat} {f C : Addr} {fd : FuncData} {ps : List Str} {sp : Sp} {dvs : List V} {ds : List Value} {E : XK} {x m : Str} {p pos apos : Pos} {e o : Expr} {es : List Expr} {ta : TE} {t : TA}
theorem run_fn {pins : List (Addr × Obj)} {σ : St} {H : Hp} {s : Shared} {Q : VK} {us : List Value} {vs : List V} (F : FnOk X.prog X.w X.K X.mg X.base CX k f fd ps sp) (hr : Room k X.A) (hb : Binds X.K fd ps ds) (hd : Vals dvs ds) (hx : Passes CX X E)
  (I : Inv X pins σ H s) (r : Vals vs us) (h : sp (vs ++ dvs) H Q E) : wpAny (model X.prog X.w) X.A (call (.ref f) us) (EP X pins σ Q) X.xe s := by
 have r2 : Vals (vs ++ dvs) (us ++ ds) := r.append hd
 have hl : (us ++ ds).length = ps.length := by rw [← r2.length]; exact F.len _ _ _ _ h
 refine wpAny_call (codeAny_mono (F.run X.A X.stack s H ⟨us, []⟩ (us ++ ds) (vs ++ dvs) Q E hr I.env0 (hb s us I.kIn hl) r2 h) fun r s' hq => ?_)
 cases r with
 | error e => exact hx pins σ H s e s' I hq
 | ok fl =>
  cases fl with
  | ret u => exact I.after hq
  | next => exact False.elim hq
  | brk => exact False.elim hq
  | cont => exact False.elim hq
theorem pe_call (F : FnOk X.prog X.w X.K X.mg X.base CX k f fd ps sp) (hr : Room k X.A) (hg : Gl X x) (hm : X.mg x = some (.ref f)) (hk : PySem.W.keepIn X.K (.ref f) = true) (hb : Binds X.K fd ps ds) (hd : Vals dvs ds) (hx : Passes CX X E)
  (ha : PA X (e :: es) t) (hdb : (x == ("__debug__" : Str)) = false := by decide) (he : starEach (e :: es) X.env = (false, eval e X.env) :: starEach es X.env := by rfl) (hpl : (backTo pos (starEach es X.env)).any (·.1) = false := by rfl) :
  PE X (.Call (.Name x p) (e :: es) [] pos) (tCall sp dvs E t) := by
 intro pins s σ H Q I h
 refine wpAny_Call_Name_kw (ld_glob I hg hm ?_ hdb)
 refine PySem.W.callWith_K (h₀ := X.base) I.ok.mod.kin hk (thn (ha pos pins s σ H _ I h) fun us s1 zz12 => ?_) he hpl
 obtain ⟨vs, H1, I1, r, q⟩ := zz12
 refine ⟨I1.kIn, ?_⟩
 exact run_fn F hr hb hd hx I1 r q
theorem pe_meth {pl : Sem Bool} (he : PE X o ta) (c : Cls X.K C) (hm : Meth X.K C m f) (F : FnOk X.prog X.w X.K X.mg X.base CX k f fd ps sp) (hr : Room k X.A) (hb : Binds X.K fd ps ds) (hd : Vals dvs ds) (hx : Passes CX X E) (ha : PA X (e :: es) t)
  (hst : starEach (e :: es) X.env = (false, eval e X.env) :: starEach es X.env := by rfl) (hpl : (backTo pos (starEach es X.env)).any (·.1) = false := by rfl)
  (ht : eval (.Call (.Attribute o m apos) (e :: es) [] pos) X.env = (do
   let ov ← eval o X.env
   standAt apos.atName
   let (f, first) ← holding [ov] (getMethod ov m pl)
   callWith pos f first (backTo pos (starEach (e :: es) X.env)) (backToKw pos (keywordEach [] X.env))) := by rfl) :
  PE X (.Call (.Attribute o m apos) (e :: es) [] pos) (tMeth C m sp dvs E ta t) := by
 intro pins s σ H Q I h
 refine PySem.W.methodCall_KW (pl := pl) (thn (he pins s σ H _ I h) fun u s1 zz13 => ?_) ht
 obtain ⟨x, H1, I1, rx, a, dx, fs, ex, ea, l, q⟩ := zz13
 subst ex
 obtain rfl : u = Value.ref a := rx
 refine getmeth_ok I1 ea c hm l ?_
 refine PySem.W.callWith_K (first := [.ref a]) (h₀ := X.base) I.ok.mod.kin hm.kp (thn (ha pos pins s1 σ H1 _ I1 q) fun us s2 zz14 => ?_) hst hpl
 obtain ⟨vs, H2, I2, r, q2⟩ := zz14
 refine ⟨I2.kIn, ?_⟩
 exact run_fn (us := .ref a :: us) (vs := .ref a :: vs) F hr hb hd hx I2 (.cons rfl r) q2
theorem pe_meth0 {pl : Sem Bool} (he : PE X o ta) (c : Cls X.K C) (hm : Meth X.K C m f) (F : FnOk X.prog X.w X.K X.mg X.base CX k f fd ps sp) (hr : Room k X.A) (hb : Binds X.K fd ps ds) (hd : Vals dvs ds) (hx : Passes CX X E)
  (ht : eval (.Call (.Attribute o m apos) [] [] pos) X.env = (do
   let ov ← eval o X.env
   standAt apos.atName
   let (f, first) ← holding [ov] (getMethod ov m pl)
   callWith pos f first (backTo pos (starEach [] X.env)) (backToKw pos (keywordEach [] X.env))) := by rfl) :
  PE X (.Call (.Attribute o m apos) [] [] pos) (tMeth C m sp dvs E ta tNil) := by
 intro pins s σ H Q I h
 refine PySem.W.methodCall_KW (pl := pl) (thn (he pins s σ H _ I h) fun u s1 zz15 => ?_) ht
 obtain ⟨x, H1, I1, rx, a, dx, fs, ex, ea, l, q⟩ := zz15
 subst ex
 obtain rfl : u = Value.ref a := rx
 refine getmeth_ok I1 ea c hm l ?_
 exact PySem.W.callWith_K0 (first := [.ref a]) I1.kIn hm.kp (run_fn (us := [.ref a]) (vs := [.ref a]) F hr hb hd hx I1 (.cons rfl .nil) q)
structure Mk (K : PySem.W.Frag) (C f : Addr) : Prop where
 makes : PySem.W.makesIn K C = true
 init : PySem.W.findIn K (.ref C) "__init__" = some (some (.ref f))
 fn : PySem.W.isFn K (.ref f) = true
 kp : PySem.W.keepIn K (.ref C) = true
theorem run_make {pins : List (Addr × Obj)} {σ : St} {H : Hp} {s : Shared} {Q : VK} {us : List Value} {vs : List V} (M : Mk X.K C f) (F : FnOk X.prog X.w X.K X.mg X.base CX k f fd ps sp) (hr : Room (k + 1) X.A) (hb : Binds X.K fd ps ds) (hd : Vals dvs ds)
  (hx : Passes CX X E) (I : Inv X pins σ H s) (r : Vals vs us)
  (h : ∀ x dx, H x = none → H dx = none → dx ≠ x → sp (.ref x :: (vs ++ dvs)) (upd (upd H dx (.own x)) x (.ins C dx [])) (fun v H2 => v = .non ∧ Q (.ref x) H2) E) :
  wpAny (model X.prog X.w) X.A (call (.ref C) us) (EP X pins σ Q) X.xe s := by
 have hq := h (s.heap.objs.size + 1) s.heap.objs.size (I.hok.fresh (Nat.le_succ _)) (I.hok.fresh (Nat.le_refl _)) (Nat.ne_of_lt (Nat.lt_succ_self _))
 have I2 := Inv.made (C := C) I
 have r2 : Vals (V.ref (s.heap.objs.size + 1) :: (vs ++ dvs)) (Value.ref (s.heap.objs.size + 1) :: (us ++ ds)) := .cons rfl (r.append hd)
 have hl : (Value.ref (s.heap.objs.size + 1) :: us ++ ds).length = ps.length := by
  have e := r2.length
  rw [F.len _ _ _ _ hq] at e
  exact e.symm
 refine wpAny_call (make_map (f := f) I.kIn M.makes M.init (beq_iff_eq.mp M.fn) (codeAny_mono (F.run _ X.stack _ _ ⟨Value.ref (s.heap.objs.size + 1) :: us, []⟩ (Value.ref (s.heap.objs.size + 1) :: (us ++ ds)) _ _ E (hr.make C us [])
  (I2.env0.make C us []) (hb _ (Value.ref (s.heap.objs.size + 1) :: us) I2.kIn hl) r2 hq) fun r s' hq' => ?_))
 cases r with
 | error e => exact hx pins σ _ _ e s' I2 hq'
 | ok fl =>
  cases fl with
  | ret u =>
   obtain ⟨v, H', I3, rv, ev, q3⟩ := I2.after hq'
   subst ev
   exact ⟨rv, ⟨V.ref (s.heap.objs.size + 1), H', I3, rfl, q3⟩⟩
  | next => exact False.elim hq'
  | brk => exact False.elim hq'
  | cont => exact False.elim hq'
theorem pe_make (M : Mk X.K C f) (F : FnOk X.prog X.w X.K X.mg X.base CX k f fd ps sp) (hr : Room (k + 1) X.A) (hg : Gl X x) (hm : X.mg x = some (.ref C)) (hb : Binds X.K fd ps ds) (hd : Vals dvs ds) (hx : Passes CX X E)
  (ha : PA X (e :: es) t) (hdb : (x == ("__debug__" : Str)) = false := by decide) (he : starEach (e :: es) X.env = (false, eval e X.env) :: starEach es X.env := by rfl) (hpl : (backTo pos (starEach es X.env)).any (·.1) = false := by rfl) :
  PE X (.Call (.Name x p) (e :: es) [] pos) (tMake C sp dvs E t) := by
 intro pins s σ H Q I h
 refine wpAny_Call_Name_kw (ld_glob I hg hm ?_ hdb)
 refine PySem.W.callWith_K (h₀ := X.base) I.ok.mod.kin M.kp (thn (ha pos pins s σ H _ I h) fun us s1 zz16 => ?_) he hpl
 obtain ⟨vs, H1, I1, r, q⟩ := zz16
 refine ⟨I1.kIn, ?_⟩
 exact run_make M F hr hb hd hx I1 r q
end
structure FnScope (N P : List Str) (sc : Scope) : Prop where
 kind : sc.kind = .function
 co : sc.isCoroutine = false
 gen : sc.isGenerator = false
 nd : N.Nodup
 pre : N.take P.length = P
 par : ∀ x ∈ P, sc.names.lookup x = some .local ∨ sc.names.lookup x = some .cell
 nofree : ∀ y ∈ sc.names, y.2 ≠ .free
theorem bindL_out {kindOf : Str → Option NameKind} {x : Str} : ∀ {binds : List (Str × Value)} {m : Str → Option Value}, (∀ v, (x, v) ∉ binds) → bindL kindOf binds m x = m x
 | [], _, _ => rfl
 | (n, v) :: r, m, h => by
  unfold bindL
  rw [bindL_out fun w hw => h w (List.mem_cons_of_mem _ hw)]
  split
  ·have : x ≠ n := by rintro rfl; exact h v List.mem_cons_self
   simp [this]
  ·rfl
theorem bindC_out {kindOf : Str → Option NameKind} {x : Str} : ∀ {binds : List (Str × Value)} {m : Str → Option Value}, (∀ v, (x, v) ∉ binds) → bindC kindOf binds m x = m x
 | [], _, _ => rfl
 | (n, v) :: r, m, h => by
  unfold bindC
  rw [bindC_out fun w hw => h w (List.mem_cons_of_mem _ hw)]
  split
  ·rfl
  ·have : x ≠ n := by rintro rfl; exact h v List.mem_cons_self
   simp [this]
theorem bindL_get {kindOf : Str → Option NameKind} {x : Str} {v : Value} : ∀ {P : List Str} {vs : List Value} {i : Nat} {m : Str → Option Value}, P.Nodup → P[i]? = some x → vs[i]? = some v → kindOf x = some .local →
  bindL kindOf (P.zip vs) m x = some v
 | [], _, _, _, _, h, _, _ => by simp at h
 | _ :: _, [], _, _, _, _, h, _ => by simp at h
 | p :: P, w :: vs, 0, m, nd, h1, h2, hk => by
  simp at h1 h2; subst h1; subst h2
  show bindL kindOf ((p, w) :: P.zip vs) m p = _
  unfold bindL
  rw [bindL_out fun v hv => (List.nodup_cons.mp nd).1 (List.of_mem_zip hv).1, if_pos hk]
  simp
 | p :: P, w :: vs, i + 1, m, nd, h1, h2, hk => by
  show bindL kindOf ((p, w) :: P.zip vs) m x = _
  unfold bindL
  exact bindL_get (i := i) (List.nodup_cons.mp nd).2 (by simpa using h1) (by simpa using h2) hk
theorem bindC_get {kindOf : Str → Option NameKind} {x : Str} {v : Value} : ∀ {P : List Str} {vs : List Value} {i : Nat} {m : Str → Option Value}, P.Nodup → P[i]? = some x → vs[i]? = some v → kindOf x ≠ some .local →
  bindC kindOf (P.zip vs) m x = some v
 | [], _, _, _, _, h, _, _ => by simp at h
 | _ :: _, [], _, _, _, _, h, _ => by simp at h
 | p :: P, w :: vs, 0, m, nd, h1, h2, hk => by
  simp at h1 h2; subst h1; subst h2
  show bindC kindOf ((p, w) :: P.zip vs) m p = _
  unfold bindC
  rw [bindC_out fun v hv => (List.nodup_cons.mp nd).1 (List.of_mem_zip hv).1, if_neg hk]
  simp
 | p :: P, w :: vs, i + 1, m, nd, h1, h2, hk => by
  show bindC kindOf ((p, w) :: P.zip vs) m x = _
  unfold bindC
  exact bindC_get (i := i) (List.nodup_cons.mp nd).2 (by simpa using h1) (by simpa using h2) hk
noncomputable def start (N : List Str) (vs : List V) : St := vs.map some ++ List.replicate (N.length - vs.length) none
noncomputable def cxOf (CX : CXT) (P : Program) (w : World) (K : PySem.W.Frag) (mg : Str → Option Value) (base : Heap) (N : List Str) (qual : Str) (scope : Scope) (f : Addr) (cd : Value) (A : Around) (outer : List Env) (s : Shared) (H : Hp) (E : XK) : Cx where
 prog := P
 w := w
 K := K
 mg := mg
 base := base
 A := A.deeper (envOfC qual scope s.heap.objs.size f cd)
 N := N
 s₀ := s
 H₀ := H
 env := envOfC qual scope s.heap.objs.size f cd
 outer := outer
 stack := envOfC qual scope s.heap.objs.size f cd :: outer
 ex := []
 calm := true
 fn := fun _ => true
 pn := []
 xe := fun e s' => wpAny (model P w) (A.deeper (envOfC qual scope s.heap.objs.size f cd)) (leaving (envOfC qual scope s.heap.objs.size f cd) e) (fun _ s'' => CX outer H s E e s'') (fun e' s'' => CX outer H s E e' s'') s'
theorem cell_has {sc : Scope} {n : Nat} {x : Str} (h : sc.names.lookup x = some .cell) : ∃ c, (cellsFrom n sc.names []).lookup x = some c := by
 have q := PySem.W.cellsFrom_some sc.names n [] (.inl h)
 exact Option.isSome_iff_exists.mp q
theorem inv_start {CX : CXT} {P : Program} {w : World} {K : PySem.W.Frag} {mg : Str → Option Value} {base : Heap} {N ps : List Str} {qual : Str} {scope : Scope} {f : Addr} {cd : Value} {A : Around} {outer : List Env} {s s1 : Shared} {H : Hp} {E : XK} {us : List Value} {vs : List V}
  (S : FnScope N ps scope) (hd : A.handled = none) (e0 : Env0 P w K mg base A outer s H) (hl : vs.length = ps.length) (r : Vals vs us)
  (x : InCallC s s.heap.objs.size (bindL (envOfC qual scope s.heap.objs.size f cd).kindOf (ps.zip us) fun _ => none) (cellsFrom (s.heap.objs.size + 1) scope.names []) (bindC (envOfC qual scope s.heap.objs.size f cd).kindOf (ps.zip us) fun _ => none) s1) :
  Inv (cxOf CX P w K mg base N qual scope f cd A outer s H E) [] (start N vs) H s1 := by
 have hpl : ps.length ≤ N.length := by have := congrArg List.length S.pre; rw [List.length_take] at this; omega
 obtain ⟨h1, tk, rfl, hk⟩ := x.done
 have noA : ∀ b : Addr, b ∉ (cxOf CX P w K mg base N qual scope f cd A outer s H E).ex := fun b z => absurd (show b ∈ ([] : List Addr) from z) (by simp)
 refine ⟨⟨e0.mod, S.kind, rfl, rfl, Nat.le_refl _, fun y z c h1 h2 => ?_, fun y hy => ?_, fun y c _ h => ?_, fun _ => hd, Around.frames_deeper e0.frames, .inr ⟨rfl, rfl⟩, fun b z => absurd z (noA b), e0.bs, e0.bsz, fun b _ _ => noA b, fun b z => absurd z (noA b), e0.funs, e0.frf⟩,
  rfl, e0.bare, Un.kept hk, ⟨_, x.toInCall.ns, fun i y v h1 h2 h3 => ?_⟩, fun y c h => ⟨_, x.cell y c h⟩, e0.hok.fresh (Nat.le_refl _), fun y c h => ?_, fun p hp => absurd (show p ∈ ([] : List (Addr × Obj)) from hp) (by simp), e0.hok.kept hk, ?_⟩
 ·exact name_of_addr x.apart (PySem.mem_of_lookup h1) (PySem.mem_of_lookup h2)
 ·have hy : scope.names.lookup y = some .cell ∨ scope.names.lookup y = some .free := hy
  rcases hy with hy | hy
  ·exact cell_has hy
  ·exact absurd rfl (S.nofree _ (PySem.mem_of_lookup hy))
 ·exact Nat.le_of_lt (x.above y c (PySem.mem_of_lookup h))
 ·have hi : i < vs.length := by
   unfold start at h2
   by_cases hi : i < vs.length
   ·exact hi
   ·rw [List.getElem?_append_right (by simpa using hi)] at h2
    rw [List.getElem?_replicate] at h2
    split at h2 <;> cases h2
  have ha : vs[i]? = some v := by
   unfold start at h2
   rw [List.getElem?_append_left (by simpa using hi), List.getElem?_map] at h2
   cases e : vs[i]? with
   | none => rw [e] at h2; cases h2
   | some a => rw [e] at h2; cases h2; rfl
  obtain ⟨u, hu, rv⟩ := r.get ha
  have hp : ps[i]? = some y := by
   rw [← S.pre, List.getElem?_take_of_lt (by omega)]; exact h1
  have ndP : ps.Nodup := by rw [← S.pre]; exact S.nd.sublist (List.take_sublist _ _)
  refine ⟨u, rv, ?_⟩
  rcases S.par y (List.mem_of_getElem? hp) with k | k
  ·exact .inl ⟨k, bindL_get ndP hp hu k⟩
  ·obtain ⟨c, e⟩ := cell_has (n := s.heap.objs.size + 1) k
   refine .inr ⟨.inl k, c, e, ?_⟩
   have q := x.cell y c e
   rw [bindC_get ndP hp hu (by show scope.names.lookup y ≠ _; rw [k]; decide)] at q
   exact q
 ·exact e0.hok.fresh (Nat.le_of_lt (x.above y c (PySem.mem_of_lookup h)))
 ·unfold start
  show _ = N.length
  rw [List.length_append, List.length_map, List.length_replicate]
  omega
theorem fn_of {CX : CXT} {P : Program} {w : World} {K : PySem.W.Frag} {mg : Str → Option Value} {base : Heap} {k : Nat} {f : Addr} {name qual : Str} {params : Arguments} {body : List Stmt} {scope : Scope} {dV kV doc pm cdv ct oc : Value} {an od : Option Addr}
  {osl : Array (Option Value)} {N ps : List Str} {sp : Sp} (lk : K.lookup f = some ⟨oc, od, .func (PySem.W.fnOf name qual params body scope dV kV doc pm an cdv ct), osl⟩) (hcd : PySem.W.codeIn K cdv qual = true) (S : FnScope N ps scope)
  (len : ∀ vs H Q E, sp vs H Q E → vs.length = ps.length)
  (hbody : ∀ (A : Around) (outer : List Env) (s : Shared) (H : Hp) (vs : List V) (Q : VK) (E : XK), Room k (A.deeper (envOfC qual scope s.heap.objs.size f cdv)) → sp vs H Q E →
   ∃ t, PSs (cxOf CX P w K mg base N qual scope f cdv A outer s H E) body t ∧ t { nx := fun _ H' => Q .non H', rt := Q } (start N vs) H) :
  FnOk P w K mg base CX (k + 1) f (PySem.W.fnOf name qual params body scope dV kV doc pm an cdv ct) ps sp := by
 refine ⟨len, fun A outer s H args us vs Q E hr e0 hb r hsp => ?_⟩
 have hl := len _ _ _ _ hsp
 have KX : K.In s.heap := e0.mod.kin.keeps fun b o e => (e0.bs b o e).1
 have lim : s.heap.NoLimit := e0.mod.nolimit.keeps fun b o e => (e0.bs b o e).1
 have hkind : ∀ y ∈ ps.zip us, scope.names.lookup y.1 = some .local ∨ (scope.names.lookup y.1 = some .cell ∧ ((cellsFrom (s.heap.objs.size + 1) scope.names []).lookup y.1).isSome = true) := fun ⟨n, v⟩ hy => by
  rcases S.par n (List.of_mem_zip hy).1 with q | q
  ·exact .inl q
  ·exact .inr ⟨q, PySem.W.cellsFrom_some _ _ _ (.inl q)⟩
 refine codeAny_call_function hr.depth (KX _ _ lk) rfl S.co S.gen rfl (PySem.W.codeRec_of KX hcd) (hb _ _ _ _ ?_)
 refine wpAny_newFunctionEnv_cells S.kind hkind fun env he s1 x => ?_
 subst he
 refine ⟨lim.keeps x.toInCall.keep, codeAny_func ?_⟩
 obtain ⟨t, ht, hq⟩ := hbody A outer s H vs Q E (hr.deeper _) hsp
 have I : Inv (cxOf CX P w K mg base N qual scope f cdv A outer s H E) [] (start N vs) H s1 := inv_start S hr.hd e0 hl r x
 refine wpAny_mono (ht [] s1 (start N vs) H _ I hq) (fun fl s' hs => ?_) fun e s' hs => hs
 have fin : ∀ {σ' : St} {H' : Hp} {v : V} {u : Value}, Inv (cxOf CX P w K mg base N qual scope f cdv A outer s H E) [] σ' H' s' → RelV v u → Q v H' → CE outer P w H s Q u s' :=
  fun {σ' H' v u} J rv q => ⟨v, H', J.os, J.bare, J.base, J.hok, rv, q⟩
 cases fl with
 | ret u =>
  obtain ⟨v, σ', H', J, rv, q⟩ := hs
  exact fin J rv q
 | next =>
  obtain ⟨σ', H', J, q⟩ := hs
  exact fin (v := V.non) (u := Value.none) J rfl q
 | brk =>
  obtain ⟨_, _, _, q⟩ := hs
  exact False.elim q
 | cont =>
  obtain ⟨_, _, _, q⟩ := hs
  exact False.elim q
end L2
namespace L2
open PySem PySem.Spec PyProof.Rows
section
variable {X : Cx} {x : Str} {p pos : Pos} {e : Expr} {es : List Expr} {t : TA} {id T : String} {r : List V → Hp → VK → Prop}
noncomputable def tCB (r : List V → Hp → VK → Prop) (t : TA) : TE := fun σ H Q => t σ H fun vs H1 => r vs H1 Q
theorem pe_callB (hc : CallR X (.builtin id) r) (hg : Gl X x) (hm : X.mg x = none) (hv : bootBuiltins x = some (.builtin id)) (ha : PA X (e :: es) t) (hn : x ≠ "__name__" := by decide) (hdb : (x == ("__debug__" : Str)) = false := by decide)
  (he : starEach (e :: es) X.env = (false, eval e X.env) :: starEach es X.env := by rfl) (hpl : (backTo pos (starEach es X.env)).any (·.1) = false := by rfl) : PE X (.Call (.Name x p) (e :: es) [] pos) (tCB r t) := by
 intro pins s σ H Q I h
 refine wpAny_Call_Name_kw (ld_blt I hg hm hv ?_ hn hdb)
 refine PyProof.Rows.callWith_builtin1 (thn (ha pos pins s σ H _ I h) fun us s1 zz17 => ?_) he hpl
 obtain ⟨vs, H1, I1, r1, q1⟩ := zz17
 exact hc pins s1 σ H1 vs us Q I1 r1 q1
theorem pe_callTy (hc : CallR X (.type T) r) (hg : Gl X x) (hm : X.mg x = none) (hv : bootBuiltins x = some (.type T)) (ha : PA X (e :: es) t) (hn : x ≠ "__name__" := by decide) (hdb : (x == ("__debug__" : Str)) = false := by decide)
  (he : starEach (e :: es) X.env = (false, eval e X.env) :: starEach es X.env := by rfl) (hpl : (backTo pos (starEach es X.env)).any (·.1) = false := by rfl) : PE X (.Call (.Name x p) (e :: es) [] pos) (tCB r t) := by
 intro pins s σ H Q I h
 refine wpAny_Call_Name_kw (ld_blt I hg hm hv ?_ hn hdb)
 refine PyProof.Rows.callWith_type1 (thn (ha pos pins s σ H _ I h) fun us s1 zz18 => ?_) he hpl
 obtain ⟨vs, H1, I1, r1, q1⟩ := zz18
 exact hc pins s1 σ H1 vs us Q I1 r1 q1
end
end L2
namespace HT
open PySem PyProof.Rows
section
variable {prog : Program} {w : World} {A : Around} {E : Value → Shared → Prop} {s : Shared}
noncomputable def sIx (n d : Nat) : Option Int → Nat
 | none => d
 | some v => if v < 0 then (v + (n : Int)).toNat else min v.toNat n
theorem sIx_none (n d : Nat) : sIx n d none = d := rfl
theorem sIx_nat (n d k : Nat) : sIx n d (some (k : Int)) = min k n := by
 show (if (k : Int) < 0 then ((k : Int) + (n : Int)).toNat else min (k : Int).toNat n) = min k n
 rw [if_neg (by omega), Int.toNat_natCast]
end
end HT
namespace L2
open PySem PySem.Spec PyProof.Rows
noncomputable abbrev TO := St → Hp → (Option Int → Hp → Prop) → Prop
noncomputable def PO (X : Cx) (e : Option Expr) (t : TO) : Prop :=
 ∀ (pins : List (Addr × Obj)) (s : Shared) (σ : St) (H : Hp) (Q : Option Int → Hp → Prop), Inv X pins σ H s → t σ H Q →
  wpAny (model X.prog X.w) X.A (evalPart e X.env) (fun u s' => ∃ o H', Inv X pins σ H' s' ∧ IsPart u o ∧ Q o H') X.xe s
noncomputable def tNoPart : TO := fun _ H Q => Q none H
noncomputable def tPart (t : TE) : TO := fun σ H Q => t σ H fun x H1 => ∃ i, x = .int i ∧ Q (some i) H1
theorem intsAre_of {ns : List Int} : ∀ {us : List Value}, Vals (ns.map V.int) us → IntsAre us ns := by
 induction ns with
 | nil => intro us r; rw [List.map_nil] at r; cases r; exact .nil
 | cons n ns ih =>
  intro us r
  rw [List.map_cons] at r
  cases r with
  | cons r1 r2 =>
   obtain ⟨t, e⟩ := r1
   subst e
   exact .cons n t (ih r2)
section
variable {X : Cx} {e : Expr} {te : TE} {lo hi : Option Expr} {tl th : TO} {pos p2 : Pos}
theorem po_none : PO X none tNoPart := by
 intro pins s σ H Q I h
 rw [evalPart_none]
 exact wpAny_pure ⟨none, H, I, .none, h⟩
theorem po_some (h : PE X e te) : PO X (some e) (tPart te) := by
 intro pins s σ H Q I hw
 rw [evalPart_some]
 refine thn (h pins s σ H _ I hw) fun u s1 zz9 => ?_
 obtain ⟨x, H1, I1, r1, q1⟩ := zz9
 obtain ⟨i, rfl, q⟩ := q1
 obtain ⟨t, rfl⟩ := r1
 exact ⟨some i, H1, I1, .int i t, q⟩
noncomputable def SlR (X : Cx) (r : V → Option Int → Option Int → Hp → VK → Prop) : Prop :=
 ∀ (pins : List (Addr × Obj)) (s : Shared) (σ : St) (H : Hp) (x : V) (v vl vu : Value) (lo hi : Option Int) (sl : Addr) (Q : VK), Inv X pins σ H s → RelV x v → s.heap.IsSliceOf sl vl vu .none → IsPart vl lo → IsPart vu hi → r x lo hi H Q →
  ∃ T id, typeLookup (.type T) "__getitem__" = pure (some (.builtin id)) ∧ s.TypeIs v T ∧ wpAny (model X.prog X.w) X.A (getItem v (.ref sl)) (EP X pins σ Q) X.xe s
noncomputable def tSl (r : V → Option Int → Option Int → Hp → VK → Prop) (te : TE) (tl th : TO) : TE := fun σ H Q => te σ H fun x H1 => tl σ H1 fun l H2 => th σ H2 fun u H3 => r x l u H3 Q
theorem pe_slice {r : V → Option Int → Option Int → Hp → VK → Prop} (hr : SlR X r) (he : PE X e te) (hl : PO X lo tl) (hu : PO X hi th) : PE X (.Subscript e (.Slice lo hi none p2) pos) (tSl r te tl th) := by
 intro pins s σ H Q I h
 refine Subscript_ (thn (he pins s σ H _ I h) fun v s1 zz9 => ?_)
 obtain ⟨x, H1, I1, r1, q1⟩ := zz9
 refine wpAny_Slice (thn (hl pins s1 σ H1 _ I1 q1) fun vl s2 zz19 => ?_)
 obtain ⟨l, H2, I2, pl, q2⟩ := zz19
 refine thn (hu pins s2 σ H2 _ I2 q2) fun vu s3 zz9 => ?_
 obtain ⟨u, H3, I3, pu, q3⟩ := zz9
 rw [evalPart_none]
 refine wpAny_pure ?_
 have I4 : Inv X pins σ H3 { s3 with heap := s3.heap.push { cls := .type "slice", data := .fields #[vl, vu, .none] } } := I3.kept (t' := s3.toks) fun b ob q => Heap.get?_push_of_some _ q
 obtain ⟨T, id, hT, ht, hg⟩ := hr pins { s3 with heap := s3.heap.push { cls := .type "slice", data := .fields #[vl, vu, .none] } } σ H3 x v vl vu l u s3.heap.objs.size Q I4 r1 (Heap.IsSliceOf.new ..) pl pu q3
 show wpAny (model X.prog X.w) X.A (subscriptTail e (.Slice lo hi none p2) v (.ref s3.heap.objs.size)) (EP X pins σ Q) X.xe { s3 with heap := s3.heap.push { cls := .type "slice", data := .fields #[vl, vu, .none] } }
 exact tail_any (ops := [.ref s3.heap.objs.size, v]) ht hT hg (by with_unfolding_all rfl)
noncomputable def cutV (xs : List V) (lo hi : Option Int) : List V := (xs.drop (HT.sIx xs.length 0 lo)).take (HT.sIx xs.length xs.length hi - HT.sIx xs.length 0 lo)
theorem cutV_length (xs : List V) (lo hi : Option Int) : (cutV xs lo hi).length ≤ xs.length := by
 unfold cutV
 rw [List.length_take, List.length_drop]
 omega
end
end L2
namespace L2
open PySem PySem.Spec PyProof.Rows
noncomputable def ixN (n : Nat) (i : Int) : Option Nat := if 0 ≤ i then (if i < n then some i.toNat else none) else if -(n : Int) ≤ i then some (i + n).toNat else none
noncomputable def atI {α : Type} (xs : List α) (i : Int) : Option α := (ixN xs.length i).bind fun j => xs[j]?
theorem ixN_seq {n : Nat} {i : Int} {j : Nat} (h : ixN n i = some j) : seqIndex? i n = some j ∧ j < n ∧ -(n : Int) ≤ i ∧ i < n := by
 unfold ixN at h
 by_cases h0 : 0 ≤ i
 ·rw [if_pos h0] at h
  by_cases h1 : i < n
  ·rw [if_pos h1] at h
   have e : i.toNat = j := Option.some.inj h
   exact ⟨by rw [seqIndex_of h0 h1, e], by omega, by omega, h1⟩
  ·rw [if_neg h1] at h; cases h
 ·rw [if_neg h0] at h
  by_cases h1 : -(n : Int) ≤ i
  ·rw [if_pos h1] at h
   have e : (i + n).toNat = j := Option.some.inj h
   exact ⟨by rw [seqIndex_neg (by omega) h1, e], by omega, h1, by omega⟩
  ·rw [if_neg h1] at h; cases h
theorem atI_get {α : Type} {xs : List α} {i : Int} {v : α} (h : atI xs i = some v) : ∃ j, seqIndex? i xs.length = some j ∧ xs[j]? = some v ∧ j < xs.length ∧ -(xs.length : Int) ≤ i ∧ i < xs.length := by
 unfold atI at h
 cases e : ixN xs.length i with
 | none => rw [e] at h; cases h
 | some j =>
  rw [e] at h
  obtain ⟨h1, h2, h3, h4⟩ := ixN_seq e
  exact ⟨j, h1, h, h2, h3, h4⟩
theorem atI_nat {α : Type} {xs : List α} {j : Nat} {v : α} (h : xs[j]? = some v) : atI xs (j : Int) = some v := by
 have hj : j < xs.length := (List.getElem?_eq_some_iff.mp h).1
 have e : ixN xs.length (j : Int) = some j := by
  unfold ixN
  rw [if_pos (by omega), if_pos (by omega)]; simp
 unfold atI; rw [e]; exact h
noncomputable def PlainIx (b : Expr) : Prop := ∀ o i, subscripted b false o i = operate [o, i] (getItem o i)
noncomputable def IxR (X : Cx) (r : R2) : Prop :=
 ∀ (value slice : Expr) (pins : List (Addr × Obj)) (s : Shared) (σ : St) (H : Hp) (x y : V) (v u : Value) (Q : VK), Inv X pins σ H s → RelV x v → RelV y u → r x y H Q →
  subscripted slice false v u = operate [v, u] (getItem v u) → wpAny (model X.prog X.w) X.A (subscriptTail value slice v u) (EP X pins σ Q) X.xe s
noncomputable def MtR (X : Cx) (id : String) (r : V → List V → Hp → VK → Prop) : Prop :=
 ∀ (pins : List (Addr × Obj)) (s : Shared) (σ : St) (H : Hp) (x : V) (xs : List V) (v : Value) (us : List Value) (Q : VK), Inv X pins σ H s → RelV x v → Vals xs us → r x xs H Q →
  wpAny (model X.prog X.w) X.A (call (.builtin id) (v :: us)) (EP X pins σ Q) X.xe s
section
variable {X : Cx} {a b : Expr} {ta tb : TE} {pos : Pos}
theorem pe_ix {r : R2} (hr : IxR X r) (ha : PE X a ta) (hb : PE X b tb) (hs : PlainIx b) : PE X (.Subscript a b pos) (tOp r ta tb) := by
 intro pins s σ H Q I h
 exact Subscript_ (binT ha hb I h fun v u s2 x y H2 I2 rx ry q => hr a b pins s2 σ H2 x y v u Q I2 rx ry q (hs _ _))
noncomputable def rIxL (K : PySem.W.Frag) : R2 := fun x y H Q => ∃ p xs i v, x = .ref p ∧ y = .int i ∧ SqL K H p xs ∧ atI xs i = some v ∧ Q v H
noncomputable def rIxT (K : PySem.W.Frag) : R2 := fun x y H Q => ∃ p xs i v, x = .ref p ∧ y = .int i ∧ SqT K H p xs ∧ atI xs i = some v ∧ Q v H
theorem ix_list : IxR X (rIxL X.K) := by
 intro value slice pins s σ H x y v u Q I rx ry h hs
 obtain ⟨p, xs, i, z, rfl, rfl, hq, he, q⟩ := h
 cases rx
 obtain ⟨t, rfl⟩ := ry
 obtain ⟨its, r, pl, hz⟩ := I.list hq
 obtain ⟨j, h1, h2, h3, h4, h5⟩ := atI_get he
 obtain ⟨w, ew, rw'⟩ := r.get h2
 have hl := r.length
 have hn := line63
 have fin : EP X pins σ Q w s := ⟨z, H, I, rw', q⟩
 by_cases h0 : 0 ≤ i
 ·have hj : i.toNat = j := by
   rw [seqIndex_of h0 h5] at h1
   exact Option.some.inj h1
  exact item_listR pl.isList h0 (by omega) (by rw [hj]; simpa using ew) fin hs
 ·have hj : (i + (its.toArray.size : Int)).toNat = j := by
   rw [seqIndex_neg (by omega) h4] at h1
   rw [List.size_toArray, ← hl]
   exact Option.some.inj h1
  exact subscriptTail_builtinR (x := w) pl.isList.typeIs slot_list_getitem.lookup
   (wpAny_getItem_list_neg (Q := fun r s' => r = w ∧ EP X pins σ Q r s') pl.isList (by omega) (by rw [List.size_toArray] <;> omega) (by omega) (by rw [hj]; simpa using ew) ⟨rfl, fin⟩) hs
theorem ix_tup : IxR X (rIxT X.K) := by
 intro value slice pins s σ H x y v u Q I rx ry h hs
 obtain ⟨p, xs, i, z, rfl, rfl, hq, he, q⟩ := h
 cases rx
 obtain ⟨t, rfl⟩ := ry
 obtain ⟨its, r, pl, hz⟩ := I.tuple hq
 obtain ⟨j, h1, h2, h3, h4, h5⟩ := atI_get he
 obtain ⟨w, ew, rw'⟩ := r.get h2
 have hl := r.length
 have hn := line63
 have fin : EP X pins σ Q w s := ⟨z, H, I, rw', q⟩
 exact subscriptTail_builtinR (x := w) pl.typeIs slot_tuple_getitem.lookup
  (getItem_tuple (j := j) (Q := fun r s' => r = w ∧ EP X pins σ Q r s') pl (by omega) (by omega) (by rw [List.size_toArray, ← hl]; exact h1) (by simpa using ew) ⟨rfl, fin⟩) hs
theorem mapSeq_set (its : List Value) (n j : Nat) (u : Value) : Obj.mapSeq (·.setIfInBounds j u) { cls := .type "list", data := .seq its.toArray n } = { cls := .type "list", data := .seq (its.set j u).toArray n } := by
 simp [Obj.mapSeq]
theorem Inv.lst {pins : List (Addr × Obj)} {σ : St} {H : Hp} {s : Shared} {p : Addr} {xs : List V} (I : Inv X pins σ H s) (h : H p = some (.lst xs)) :
  ∃ (its : List Value) (n : Nat), Vals xs its ∧ s.heap.get? p = some { cls := .type "list", data := .seq its.toArray n } ∧ xs.length ≤ sizeLine := by
 obtain ⟨z, its, n, r, e⟩ := I.hok p _ h
 exact ⟨its, n, r, e, z⟩
theorem Inv.lstUpd {pins : List (Addr × Obj)} {σ : St} {H : Hp} {s : Shared} {p : Addr} {xs ys : List V} {its its' : List Value} {n n' : Nat} {f : Obj → Obj} (I : Inv X pins σ H s) (h : H p = some (.lst xs))
  (ho : s.heap.get? p = some { cls := .type "list", data := .seq its.toArray n }) (hf : f { cls := .type "list", data := .seq its.toArray n } = { cls := .type "list", data := .seq its'.toArray n' }) (r : Vals ys its') (hz : ys.length ≤ sizeLine) (t : Nat) :
  Inv X pins σ (upd H p (.lst ys)) { s with heap := s.heap.update p f, toks := t } := by
 have e : (s.heap.update p f).get? p = some { cls := .type "list", data := .seq its'.toArray n' } := by
  rw [Heap.get?_update_self f ho (by rw [hf] <;> rfl), hf]
 refine I.write (x := p) (e := p) (by rw [h]; trivial) (.inl rfl) (fun b u hb q => (Heap.get?_update_other _ _ (Ne.symm hb)).trans q) ⟨_, e⟩ ?_
 exact ⟨hz, its', n', r, e⟩
noncomputable def rSetL : V → V → V → Hp → (Hp → Prop) → Prop := fun o i v H Q => ∃ p xs k j, o = .ref p ∧ i = .int k ∧ H p = some (.lst xs) ∧ ixN xs.length k = some j ∧ Q (upd H p (.lst (xs.set j v)))
theorem set_list : PSet X rSetL := by
 intro pins s σ H o i v ov iv u Q I ro ri rv h
 obtain ⟨p, xs, k, j, rfl, rfl, hp, hj, q⟩ := h
 cases ro
 obtain ⟨t, rfl⟩ := ri
 obtain ⟨its, n, r, ho, hz⟩ := I.lst hp
 obtain ⟨h1, h2, h3, h4⟩ := ixN_seq hj
 have hl := r.length
 have hn := line63
 have I' : Inv X pins σ (upd H p (.lst (xs.set j v))) { s with heap := s.heap.update p (Obj.mapSeq (·.setIfInBounds j u)) } :=
  I.lstUpd hp ho (mapSeq_set its n j u) (r.set rv j) (by rw [List.length_set]; exact hz) s.toks
 by_cases h0 : 0 ≤ k
 ·have hk : k.toNat = j := by
   rw [seqIndex_of h0 h4] at h1
   exact Option.some.inj h1
  exact PySem.W.ki_setAt ho h0 (by omega) (by rw [List.size_toArray, ← hl]; exact h4) (by rw [hk]; exact ⟨_, I', q⟩)
 ·have hk : (k + (its.toArray.size : Int)).toNat = j := by
   rw [seqIndex_neg (by omega) h3] at h1
   rw [List.size_toArray, ← hl]
   exact Option.some.inj h1
  exact PySem.W.ki_setBack ho (by omega) (by rw [List.size_toArray, ← hl]; exact h3) (by omega) (by rw [hk]; exact ⟨_, I', q⟩)
theorem slice_bounds (lo hi : Option Int) (n : Nat) : (sliceBounds lo hi none n).1 = ((HT.sIx n 0 lo : Nat) : Int) ∧ (sliceBounds lo hi none n).2.1 = ((HT.sIx n n hi : Nat) : Int) ∧ (sliceBounds lo hi none n).2.2 = 1 := by
 refine ⟨?_, ?_, rfl⟩
 ·cases lo with
  | none => simp [sliceBounds, HT.sIx]
  | some i =>
   simp only [sliceBounds, HT.sIx, Option.getD_none, show (1 : Int) > 0 by decide, if_true]
   by_cases h : i < 0
   ·simp only [h, if_true] <;> omega
   ·simp only [h, if_false] <;> omega
 ·cases hi with
  | none => simp [sliceBounds, HT.sIx]
  | some i =>
   simp only [sliceBounds, HT.sIx, Option.getD_none, show (1 : Int) > 0 by decide, if_true]
   by_cases h : i < 0
   ·simp only [h, if_true] <;> omega
   ·simp only [h, if_false] <;> omega
theorem slicePick_cut (its : List Value) (lo hi : Option Int) : slicePick its.toArray lo hi none = ((its.drop (HT.sIx its.length 0 lo)).take (HT.sIx its.length its.length hi - HT.sIx its.length 0 lo)).toArray := by
 obtain ⟨h1, h2, h3⟩ := slice_bounds lo hi its.toArray.size
 unfold slicePick
 rw [h1, h2, h3]
 simp only [sliceRange_one, pick_run, List.size_toArray] <;> rfl
noncomputable def rSlL (K : PySem.W.Frag) : V → Option Int → Option Int → Hp → VK → Prop := fun x lo hi H Q => ∃ a xs, x = .ref a ∧ SqL K H a xs ∧ ∀ p, H p = none → Q (.ref p) (upd H p (.lst (cutV xs lo hi)))
theorem sl_list : SlR X (rSlL X.K) := by
 intro pins s σ H x v vl vu lo hi sl Q I rx hs pl pu h
 obtain ⟨a, xs, rfl, hx, q⟩ := h
 cases rx
 obtain ⟨its, r, ht, hz⟩ := I.list hx
 have hlen := r.length
 refine ⟨"list", _, slot_list_getitem.lookup, ht.isList.typeIs, ?_⟩
 refine wpAny_getItem_list_slice ht.isList hs pl pu .none (by simp) ?_ (by rw [List.size_toArray] <;> omega)
 rw [slicePick_cut, ← hlen]
 refine ⟨.ref s.heap.objs.size, _, I.laid (t' := s.toks) (o := .lst (cutV xs lo hi)) (fun b ob q => Heap.get?_push_of_some _ q) (Nat.le_refl _) ?_, rfl, q _ (I.hok.fresh (Nat.le_refl _))⟩
 exact ⟨Nat.le_trans (cutV_length xs lo hi) hz, _, 0, (r.drop (HT.sIx xs.length 0 lo)).take (HT.sIx xs.length xs.length hi - HT.sIx xs.length 0 lo), Heap.get?_push_size _ rfl⟩
noncomputable def flatV : V → Bool
 | .non => true
 | .bl _ => true
 | .int _ => true
 | .str _ => true
 | _ => false
noncomputable def eqV : V → V → Bool
 | .non, .non => true
 | .bl a, .bl b => a == b
 | .bl a, .int b => (if a then 1 else 0) == b
 | .int a, .bl b => a == (if b then 1 else 0)
 | .int a, .int b => a == b
 | .str a, .str b => a == b
 | _, _ => false
theorem eqAt_V {A : Around} {s : Shared} {y x : V} {u v : Value} (ry : RelV y u) (rx : RelV x v) (fy : flatV y = true) (fx : flatV x = true) : SeqAt.EqAt A s u v (eqV y x) := by
 cases y with
 | non =>
  cases ry
  cases x with
  | non => cases rx; exact SeqAt.EqAt.same _
  | bl b => cases rx; exact SeqAt.EqAt.none_bool b
  | int b => obtain ⟨t, rfl⟩ := rx; exact SeqAt.EqAt.none_int b t
  | str b => obtain ⟨t, rfl⟩ := rx; exact SeqAt.EqAt.none_str b t
  | _ => exact absurd (show false = true from fx) Bool.false_ne_true
 | bl a =>
  cases ry
  cases x with
  | non => cases rx; exact SeqAt.EqAt.bool_none a
  | bl b => cases rx; exact SeqAt.EqAt.bool_bool a b
  | int b => obtain ⟨t, rfl⟩ := rx; exact SeqAt.EqAt.bool_int a b t
  | str b => obtain ⟨t, rfl⟩ := rx; exact SeqAt.EqAt.bool_str a b t
  | _ => exact absurd (show false = true from fx) Bool.false_ne_true
 | int a =>
  obtain ⟨t', rfl⟩ := ry
  cases x with
  | non => cases rx; exact SeqAt.EqAt.int_none a t'
  | bl b => cases rx; exact SeqAt.EqAt.int_bool a t' b
  | int b => obtain ⟨t, rfl⟩ := rx; exact SeqAt.EqAt.int_int a t' b t
  | str b => obtain ⟨t, rfl⟩ := rx; exact SeqAt.EqAt.int_str a t' b t
  | _ => exact absurd (show false = true from fx) Bool.false_ne_true
 | str a =>
  obtain ⟨t', rfl⟩ := ry
  cases x with
  | non => cases rx; exact SeqAt.EqAt.str_none a t'
  | bl b => cases rx; exact SeqAt.EqAt.str_bool a t' b
  | int b => obtain ⟨t, rfl⟩ := rx; exact SeqAt.EqAt.str_int a t' b t
  | str b => obtain ⟨t, rfl⟩ := rx; exact SeqAt.EqAt.str_str a t' b t
  | _ => exact absurd (show false = true from fx) Bool.false_ne_true
 | _ => exact absurd (show false = true from fy) Bool.false_ne_true
noncomputable def eqU (x : V) (u : Value) : Bool := match u with
 | .none => eqV .non x
 | .bool b => eqV (.bl b) x
 | .int i _ => eqV (.int i) x
 | .str z _ => eqV (.str z) x
 | _ => false
theorem eqU_of {x y : V} {u : Value} (r : RelV y u) (f : flatV y = true) : eqU x u = eqV y x := by
 cases y with
 | non => cases r; rfl
 | bl b => cases r; rfl
 | int i => obtain ⟨t, rfl⟩ := r; rfl
 | str z => obtain ⟨t, rfl⟩ := r; rfl
 | _ => exact absurd (show false = true from f) Bool.false_ne_true
theorem any_eqU {x : V} : ∀ {xs : List V} {us : List Value}, Vals xs us → xs.all flatV = true → us.any (eqU x) = xs.any fun y => eqV y x
 | _, _, .nil, _ => rfl
 | y :: xs, u :: us, .cons r t, f => by
  rw [List.all_cons, Bool.and_eq_true] at f
  rw [List.any_cons, List.any_cons, eqU_of r f.1, any_eqU t f.2]
theorem mem_eqAt {A : Around} {s : Shared} {x : V} {v : Value} (rx : RelV x v) (fx : flatV x = true) : ∀ {xs : List V} {us : List Value}, Vals xs us → xs.all flatV = true → ∀ u ∈ us, SeqAt.EqAt A s u v (eqU x u)
 | _, _, .nil, _ => fun u hu => by cases hu
 | y :: xs, u :: us, .cons r t, f => fun u' hu => by
  rw [List.all_cons, Bool.and_eq_true] at f
  rcases List.mem_cons.mp hu with rfl | hu
  ·rw [eqU_of r f.1]; exact eqAt_V r rx f.1 fx
  ·exact mem_eqAt rx fx t f.2 u' hu
noncomputable def inV (x : V) (xs : List V) : Bool := xs.any fun y => eqV y x
noncomputable def rIn (K : PySem.W.Frag) (neg : Bool) : R2 := fun x y H Q => ∃ p xs, y = .ref p ∧ (SqL K H p xs ∨ SqT K H p xs) ∧ flatV x = true ∧ xs.all flatV = true ∧ Q (.bl (if neg then !inV x xs else inV x xs)) H
theorem op_notIn_seq : OpR X (compareOp .NotIn) (rIn X.K true) := by
 intro pins s σ H x y v u Q I rx ry h
 obtain ⟨p, xs, rfl, hq, fx, fs, q⟩ := h
 cases ry
 rcases hq with hq | hq
 ·obtain ⟨its, r, pl, hz⟩ := I.list hq
  refine SeqAt.notIn_listAt (eqU x) pl.isList (fun w hw => mem_eqAt rx fx r fs w (by simpa using hw)) ⟨.bl _, H, I, rfl, ?_⟩
  rw [show its.toArray.any (eqU x) = its.any (eqU x) by simp, any_eqU r fs]
  exact q
 ·obtain ⟨its, r, pl, hz⟩ := I.tuple hq
  refine SeqAt.notIn_tupleAt (eqU x) pl (fun w hw => mem_eqAt rx fx r fs w (by simpa using hw)) ⟨.bl _, H, I, rfl, ?_⟩
  rw [show its.toArray.any (eqU x) = its.any (eqU x) by simp, any_eqU r fs]
  exact q
theorem call_len_seq : CallR X (.builtin "len") (fun xs H Q => ∃ p ys, xs = [.ref p] ∧ (SqL X.K H p ys ∨ SqT X.K H p ys) ∧ Q (.int ys.length) H) := by
 intro pins s σ H xs us Q I r h
 obtain ⟨p, ys, rfl, hq, q⟩ := h
 obtain ⟨u, rfl, rx⟩ := vals1 r
 cases rx
 have hn := line63
 rcases hq with hq | hq
 ·obtain ⟨its, r', pl, hz⟩ := I.list hq
  have hlen := r'.length
  exact Calls.call_len_list pl.isList (by simp only [List.size_toArray] <;> omega) ⟨.int ys.length, H, I.tok _, ⟨s.toks + 1, by rw [List.size_toArray, hlen]⟩, q⟩
 ·obtain ⟨its, r', pl, hz⟩ := I.tuple hq
  have hlen := r'.length
  exact len_tuple pl (by simp only [List.size_toArray] <;> omega) ⟨.int ys.length, H, I.tok _, ⟨s.toks + 1, by rw [List.size_toArray, hlen]⟩, q⟩
theorem call_list_of : CallR X (.type "list") (fun xs H Q => ∃ p ys, xs = [.ref p] ∧ (SqL X.K H p ys ∨ SqT X.K H p ys) ∧ ∀ l, H l = none → Q (.ref l) (upd H l (.lst ys))) := by
 intro pins s σ H xs us Q I r h
 obtain ⟨p, ys, rfl, hq, q⟩ := h
 obtain ⟨u, rfl, rx⟩ := vals1 r
 cases rx
 have fin : ∀ (its : List Value), Vals ys its → ys.length ≤ sizeLine → ∀ (h' : Heap) (c' : Nat), (∀ b o', s.heap.get? b = some o' → h'.get? b = some o') →
   h'.get? s.heap.objs.size = some { cls := .type "list", dict := none, data := .seq its.toArray c', slots := #[] } → EP X pins σ Q (.ref s.heap.objs.size) { s with heap := h' } := fun its r' hz h' c' kp e =>
  ⟨.ref s.heap.objs.size, _, I.laid (t' := s.toks) kp (Nat.le_refl _) (show ObjOk X.prog X.w _ h' _ (.lst ys) from ⟨hz, its, c', r', e⟩), rfl, q _ (I.hok.fresh (Nat.le_refl _))⟩
 rcases hq with hq | hq
 ·obtain ⟨its, r', pl, hz⟩ := I.list hq
  have hlen := r'.length
  obtain ⟨o, ho, hc, n, hd⟩ := pl.isList
  exact call_list_seq p (.inl rfl) ho hc hd (fun h' c' kp e => fin its r' hz h' c' kp e) (by simp only [List.size_toArray] <;> omega)
 ·obtain ⟨its, r', pl, hz⟩ := I.tuple hq
  have hlen := r'.length
  obtain ⟨o, ho, hc, n, hd⟩ := pl
  exact call_list_seq p (.inr rfl) ho hc hd (fun h' c' kp e => fin its r' hz h' c' kp e) (by simp only [List.size_toArray] <;> omega)
theorem call_tuple_of : CallR X (.type "tuple") (fun xs H Q => ∃ p ys, xs = [.ref p] ∧ ((SqL X.K H p ys ∧ ∀ l, H l = none → Q (.ref l) (upd H l (.tup ys))) ∨ (SqT X.K H p ys ∧ Q (.ref p) H))) := by
 intro pins s σ H xs us Q I r h
 obtain ⟨p, ys, rfl, h⟩ := h
 obtain ⟨u, rfl, rx⟩ := vals1 r
 cases rx
 rcases h with ⟨hq, q⟩ | ⟨hq, q⟩
 ·obtain ⟨its, r', pl, hz⟩ := I.list hq
  have hlen := r'.length
  refine call_tuple_list pl.isList (fun h' kp => ?_) (by simp only [List.size_toArray] <;> omega)
  have I1 : Inv X pins σ H { s with heap := h' } := I.kept (t' := s.toks) kp
  have I2 : Inv X pins σ (upd H h'.objs.size (.tup ys)) { s with heap := h'.push { cls := .type "tuple", data := .seq its.toArray } } :=
   I1.laid (t' := s.toks) (fun b o e => Heap.get?_push_of_some _ e) (Nat.le_refl _) (show ObjOk X.prog X.w _ _ _ (.tup ys) from ⟨hz, its, r', IsTup.new _ _⟩)
  exact ⟨.ref h'.objs.size, _, I2, rfl, q _ (I1.hok.fresh (Nat.le_refl _))⟩
 ·obtain ⟨its, r', pl, hz⟩ := I.tuple hq
  exact call_tuple_same pl ⟨.ref p, H, I, rfl, q⟩
noncomputable def tyV (K : PySem.W.Frag) (T : String) (x : V) (H : Hp) : Prop := match x with
 | .str _ => T = "str"
 | .int _ => T = "int"
 | .ref p => (T = "list" ∧ ∃ xs, SqL K H p xs) ∨ (T = "tuple" ∧ ∃ o, K.lookup p = some o ∧ o.cls = .type "tuple" ∧ o.dict = none) ∨
   (T = "dict" ∧ ((∃ kvs, H p = some (.dK kvs)) ∨ ∃ kvs, H p = some (.dT kvs))) ∨ (T = "set" ∧ ∃ S n, H p = some (.set S n))
 | _ => False
theorem tyV_is {pins : List (Addr × Obj)} {σ : St} {H : Hp} {s : Shared} {T : String} {x : V} {v : Value} (I : Inv X pins σ H s) (r : RelV x v) (ty : tyV X.K T x H) :
  s.TypeIs v T ∧ ∀ a, v = .ref a → ∃ ob, s.heap.get? a = some ob ∧ ob.dict = none := by
 cases x with
 | str z =>
  obtain ⟨t, rfl⟩ := r
  cases (show T = "str" from ty)
  exact ⟨typeIs_str s z t, fun _ e => nomatch e⟩
 | int i =>
  obtain ⟨t, rfl⟩ := r
  cases (show T = "int" from ty)
  exact ⟨typeIs_int s i t, fun _ e => nomatch e⟩
 | ref p =>
  cases r
  rcases ty with ⟨rfl, xs, hq⟩ | ⟨rfl, o, hk, hc, hd⟩ | ⟨rfl, hk⟩ | ⟨rfl, S, n, hk⟩
  ·obtain ⟨its, _, pl, _⟩ := I.list hq
   refine ⟨pl.isList.typeIs, fun a e => ?_⟩
   cases e
   obtain ⟨o, n, e, c, hd, _⟩ := pl
   exact ⟨o, e, hd⟩
  ·refine ⟨⟨o, I.kIn p o hk, hc⟩, fun a e => ?_⟩
   cases e
   exact ⟨o, I.kIn _ o hk, hd⟩
  ·have z : ∃ o, s.heap.get? p = some o ∧ o.ExactDict := by
    rcases hk with ⟨kvs, hk⟩ | ⟨kvs, hk⟩
    ·obtain ⟨_, _, _, _, o, _, _, e, ex, _⟩ := I.hok p _ hk
     exact ⟨o, e, ex⟩
    ·obtain ⟨_, _, _, _, o, _, _, e, ex, _⟩ := I.hok p _ hk
     exact ⟨o, e, ex⟩
   obtain ⟨o, e, ex⟩ := z
   refine ⟨⟨o, e, ex.1⟩, fun a e2 => ?_⟩
   cases e2
   exact ⟨o, e, ex.2.1⟩
  ·obtain ⟨o, _, _, _, e, ex, _⟩ := I.hok p _ hk
   refine ⟨⟨o, e, ex.1⟩, fun a e2 => ?_⟩
   cases e2
   exact ⟨o, e, ex.2.1⟩
 | _ => exact False.elim ty
noncomputable def tBM0 (K : PySem.W.Frag) (T : String) (r : V → List V → Hp → VK → Prop) (to : TE) : TE := fun σ H Q => to σ H fun x H1 => tyV K T x H1 ∧ r x [] H1 Q
noncomputable def tBM (K : PySem.W.Frag) (T : String) (r : V → List V → Hp → VK → Prop) (to : TE) (t : TA) : TE := fun σ H Q => to σ H fun x H1 => tyV K T x H1 ∧ t σ H1 fun xs H2 => r x xs H2 Q
variable {o e : Expr} {es : List Expr} {to : TE} {t : TA} {name : Str} {apos cpos : Pos} {T id : String} {r : V → List V → Hp → VK → Prop}
theorem pe_bm0 (pa : PlainAttrs T) (slot : Slot T name id) (hty : typeOf (.builtin id) = pure (.type "method_descriptor")) (hm : MtR X id r) (ho : PE X o to)
  (hbase : attributeBase o name X.env (eval o X.env) = eval o X.env := by rfl) (hline : (apos.endLine == cpos.line) = true := by rfl) : PE X (.Call (.Attribute o name apos) [] [] cpos) (tBM0 X.K T r to) := by
 intro pins s σ H Q I h
 refine wpAny_Call_method0_late hbase hline (thn (ho pins s σ H _ I h) fun v s1 zz9 => ?_)
 obtain ⟨x, H1, I1, r1, ty, q1⟩ := zz9
 obtain ⟨h1, h2⟩ := tyV_is I1 r1 ty
 exact ⟨T, id, pa, slot, hty, h1, h2, Calls.callWith_builtin rfl (PySem.evalArgs_none (hm pins s1 σ H1 x [] v [] Q I1 r1 .nil q1))⟩
theorem pe_bm (pa : PlainAttrs T) (slot : Slot T name id) (hty : typeOf (.builtin id) = pure (.type "method_descriptor")) (hm : MtR X id r) (ho : PE X o to) (ha : PA X (e :: es) t)
  (hbase : attributeBase o name X.env (eval o X.env) = eval o X.env := by rfl)
  (hfew : ((backTo cpos (starEach (e :: es) X.env)).all (fun x => !x.1) && (backToKw cpos (keywordEach [] X.env)).all (fun x => x.1.isSome)
   && decide ((e :: es).length + ([] : List Keyword).length + (if ([] : List Keyword).isEmpty then 0 else 1) < 30)) = true := by rfl)
  (hline : (apos.endLine == cpos.line) = true := by rfl) (hs : starEach (e :: es) X.env = (false, eval e X.env) :: starEach es X.env := by rfl) (hplain : (backTo cpos (starEach es X.env)).any (·.1) = false := by rfl) :
  PE X (.Call (.Attribute o name apos) (e :: es) [] cpos) (tBM X.K T r to t) := by
 intro pins s σ H Q I h
 refine wpAny_Call_method_late hbase hfew hline rfl (thn (ho pins s σ H _ I h) fun v s1 zz9 => ?_)
 obtain ⟨x, H1, I1, r1, ty, q1⟩ := zz9
 obtain ⟨h1, h2⟩ := tyV_is I1 r1 ty
 refine ⟨T, id, pa, slot, hty, h1, h2, ?_⟩
 have hA := ha cpos pins s1 σ H1 _ I1 q1
 rw [hs] at hA ⊢
 refine Calls.callWith_builtin (by show (false || (backTo cpos (starEach es X.env)).any (·.1)) = false; rw [hplain] <;> rfl) (Calls.evalArgs_plain ?_)
 refine thn hA fun us s2 zz20 => ?_
 obtain ⟨vs, H2, I2, r2, q2⟩ := zz20
 exact hm pins s2 σ H2 x vs v us Q I2 r1 r2 q2
end
end L2
namespace L2
open PySem PySem.Spec PyProof.Rows
noncomputable def MtM (X : Cx) (id : String) (r : V → List V → Hp → VK → Prop) : Prop :=
 ∀ (pins : List (Addr × Obj)) (s : Shared) (σ : St) (H : Hp) (x : V) (xs : List V) (v : Value) (us : List Value) (Q : VK), Inv X pins σ H s → RelV x v → Vals xs us → r x xs H Q →
  wpAny (model X.prog X.w) X.A (call (.builtin id) (v :: us)) (EP X pins σ Q) X.xe s
theorem Vals.one {x : V} {us : List Value} (h : Vals [x] us) : ∃ u, us = [u] ∧ RelV x u := by
  cases h with
  | cons r t => cases t; exact ⟨_, rfl, r⟩
theorem Vals.two {x y : V} {us : List Value} (h : Vals [x, y] us) : ∃ u v, us = [u, v] ∧ RelV x u ∧ RelV y v := by
  cases h with
  | cons r t =>
    obtain ⟨v, rfl, q⟩ := Vals.one t
    exact ⟨_, v, rfl, r, q⟩
theorem Vals.zero : ∀ {us : List Value}, Vals [] us → us = []
 | _, .nil => rfl
theorem Vals.dropLast {xs : List V} {us : List Value} (h : Vals xs us) : Vals xs.dropLast us.dropLast := by
 induction h with
 | nil => exact .nil
 | cons r t ih =>
  cases t with
  | nil => exact .nil
  | cons q t' => exact .cons r ih
theorem Vals.eraseIdx : ∀ {xs : List V} {us : List Value} (i : Nat), Vals xs us → Vals (xs.eraseIdx i) (us.eraseIdx i)
 | _, _, _, .nil => .nil
 | _, _, 0, .cons _ t => t
 | _, _, i + 1, .cons r t => .cons r (Vals.eraseIdx i t)
theorem Vals.rep {xs : List V} {us : List Value} (h : Vals xs us) : ∀ k : Nat, Vals (List.replicate k xs).flatten (List.replicate k us).flatten
 | 0 => .nil
 | k + 1 => by
  rw [List.replicate_succ, List.replicate_succ, List.flatten_cons, List.flatten_cons]
  exact Vals.append h (Vals.rep h k)
theorem erase_last {α : Type} (l : List α) : l.eraseIdx (l.length - 1) = l.dropLast := by
 induction l with
 | nil => rfl
 | cons a r ih =>
  cases r with
  | nil => rfl
  | cons b r =>
   have e : (a :: b :: r).length - 1 = ((b :: r).length - 1) + 1 := by
    have h1 : (a :: b :: r).length = r.length + 2 := rfl
    have h2 : (b :: r).length = r.length + 1 := rfl
    omega
   rw [e, List.eraseIdx_cons_succ, ih]
   all_goals rfl
theorem len_erase {α : Type} : ∀ (l : List α) (i : Nat), (l.eraseIdx i).length ≤ l.length
 | [], _ => Nat.le_refl _
 | _ :: _, 0 => Nat.le_succ _
 | _ :: r, i + 1 => Nat.succ_le_succ (len_erase r i)
theorem foldl_rep (its : List Value) : ∀ (k : Nat) (acc : List Value),
  List.foldl (fun x1 x2 => x1 ++ x2) acc.toArray (List.replicate k its.toArray) = (acc ++ (List.replicate k its).flatten).toArray
 | 0, acc => by simp
 | k + 1, acc => by
  have e : acc.toArray ++ its.toArray = (acc ++ its).toArray := by simp
  have e2 : (acc ++ its) ++ (List.replicate k its).flatten = acc ++ (List.replicate (k + 1) its).flatten := by
   rw [List.replicate_succ, List.flatten_cons, List.append_assoc]
  rw [← e2, ← foldl_rep its k (acc ++ its), ← e, List.replicate_succ, List.foldl_cons]
section
variable {X : Cx} {pins : List (Addr × Obj)} {σ : St} {H : Hp} {s : Shared} {l b : Addr} {xs ys zs : List V}
theorem Inv.lset {its its' : List Value} {n : Nat} {f : Array Value → Array Value} {t' : Nat} (I : Inv X pins σ H s) (hH : H l = some (.lst xs))
  (e : s.heap.get? l = some { cls := .type "list", data := .seq its.toArray n }) (hf : f its.toArray = its'.toArray) (hv : Vals ys its') (hz : ys.length ≤ sizeLine) :
  Inv X pins σ (upd H l (.lst ys)) { s with heap := s.heap.update l (Obj.mapSeq f), toks := t' } := by
 have q := PySem.IsL.update e f
 rw [hf] at q
 refine I.write (x := l) (e := l) (by rw [hH]; exact trivial) (.inl rfl) (fun b' u hb hu => (Heap.get?_update_other s.heap (Obj.mapSeq f) (Ne.symm hb)).trans hu) ⟨_, q⟩ ?_
 exact ⟨hz, its', _, hv, q⟩
theorem Inv.lnew {its : List Value} {t' : Nat} (I : Inv X pins σ H s) (hv : Vals ys its) (hz : ys.length ≤ sizeLine) :
  Inv X pins σ (upd H s.heap.objs.size (.lst ys)) { s with heap := s.heap.push { cls := .type "list", data := .seq its.toArray }, toks := t' } :=
 I.laid (fun _ _ q => Heap.get?_push_of_some _ q) (Nat.le_refl _) ⟨hz, its, 0, hv, Heap.get?_push_size _ rfl⟩
theorem Inv.fresh (I : Inv X pins σ H s) : H s.heap.objs.size = none := I.hok.fresh (Nat.le_refl _)
theorem Inv.lstM (I : Inv X pins σ H s) (hH : H l = some (.lst xs)) : xs.length ≤ sizeLine ∧ ∃ (its : List Value) (n : Nat), Vals xs its ∧ xs.length = its.length ∧ s.heap.get? l = some { cls := .type "list", data := .seq its.toArray n } := by
 obtain ⟨z, its, n, r, e⟩ := I.hok l _ hH
 exact ⟨z, its, n, r, r.length, e⟩
theorem notLongL {n : Nat} (h : n ≤ sizeLine) : Builtin.List.listTooLong n = false := by
 unfold Builtin.List.listTooLong
 exact decide_eq_false (by omega)
end
section
variable {X : Cx}
noncomputable def rAppend : V → List V → Hp → VK → Prop := fun x vs H Q => ∃ l xs y, x = .ref l ∧ vs = [y] ∧ H l = some (.lst xs) ∧ xs.length < sizeLine ∧ Q .non (upd H l (.lst (xs ++ [y])))
theorem mt_append : MtM X "list.append" rAppend := by
 intro pins s σ H x vs v us Q I rx rv h
 obtain ⟨l, xs, y, rfl, rfl, hH, hz, q⟩ := h
 cases rx
 obtain ⟨u, rfl, ru⟩ := rv.one
 obtain ⟨z, its, n, r, hl, e⟩ := I.lstM hH
 refine call_meets F.slot_list_append ⟨_, e, rfl⟩ F.entry_list_append (F.args_list_append_2 _ _) (PySem.list_append l its.toArray n u (by rw [List.size_toArray]; omega)) ⟨e, ?_⟩
 refine ⟨.non, _, I.lset (its' := its ++ [u]) hH e (by simp) (r.append (.cons ru .nil)) ?_, rfl, q⟩
 rw [List.length_append, List.length_singleton]
 omega
noncomputable def rPop : V → List V → Hp → VK → Prop := fun x vs H Q => ∃ l xs y, x = .ref l ∧ vs = [] ∧ H l = some (.lst xs) ∧ xs[xs.length - 1]? = some y ∧ Q y (upd H l (.lst xs.dropLast))
theorem mt_pop : MtM X "list.pop" rPop := by
 intro pins s σ H x vs v us Q I rx rv h
 obtain ⟨l, xs, y, rfl, rfl, hH, hy, q⟩ := h
 cases rx
 have hus := rv.zero
 subst hus
 obtain ⟨z, its, n, r, hl, e⟩ := I.lstM hH
 obtain ⟨u, hu, ru⟩ := r.get hy
 have hy' : its.toArray[its.toArray.size - 1]? = some u := by
  show its.toArray[its.length - 1]? = some u
  rw [← Array.getElem?_toList, ← hl]
  exact hu
 refine call_meets F.slot_list_pop ⟨_, e, rfl⟩ F.entry_list_pop (F.args_list_pop_1 _) (MeetsSeq.list_pop_last l its.toArray n u hy' (by rw [List.size_toArray]; omega)) ⟨e, ?_⟩
 refine ⟨y, _, I.lset (its' := its.dropLast) hH e ?_ r.dropLast ?_, ru, q⟩
 ·show its.toArray.eraseIdxIfInBounds (its.toArray.size - 1) = its.dropLast.toArray
  rw [List.size_toArray, List.eraseIdxIfInBounds_toArray, erase_last]
 ·rw [List.length_dropLast]
  omega
noncomputable def rPopAt : V → List V → Hp → VK → Prop := fun x vs H Q => ∃ l xs i k y, x = .ref l ∧ vs = [.int i] ∧ H l = some (.lst xs) ∧ -(2 ^ 63) ≤ i ∧ i < 2 ^ 63 ∧ seqIndex? i xs.length = some k ∧ xs[k]? = some y ∧ Q y (upd H l (.lst (xs.eraseIdx k)))
theorem mt_popAt : MtM X "list.pop" rPopAt := by
 intro pins s σ H x vs v us Q I rx rv h
 obtain ⟨l, xs, i, k, y, rfl, rfl, hH, h1, h2, hk, hy, q⟩ := h
 cases rx
 obtain ⟨u, rfl, ru⟩ := rv.one
 obtain ⟨t, rfl⟩ := ru
 obtain ⟨z, its, n, r, hl, e⟩ := I.lstM hH
 obtain ⟨w, hw, rw'⟩ := r.get hy
 refine call_meets F.slot_list_pop ⟨_, e, rfl⟩ F.entry_list_pop (F.args_list_pop_2 _ _)
  (MeetsSeq.list_pop_at l its.toArray n i t k w (fitsIndex_both h1 h2) (by rw [List.size_toArray, ← hl]; exact hk) (by rw [← Array.getElem?_toList]; exact hw) (by rw [List.size_toArray]; omega)) ⟨e, ?_⟩
 refine ⟨y, _, I.lset (its' := its.eraseIdx k) hH e ?_ (r.eraseIdx k) ?_, rw', q⟩
 ·show its.toArray.eraseIdxIfInBounds k = (its.eraseIdx k).toArray
  rw [List.eraseIdxIfInBounds_toArray]
 ·have := len_erase xs k
  omega
noncomputable def rCat : R2 := fun x y H Q => ∃ l b xs zs, x = .ref l ∧ y = .ref b ∧ H l = some (.lst xs) ∧ H b = some (.lst zs) ∧ xs.length + zs.length ≤ sizeLine ∧ ∀ p, H p = none → Q (.ref p) (upd H p (.lst (xs ++ zs)))
theorem op_cat : OpR X (binaryOp .Add) rCat := by
 intro pins s σ H x y v u Q I rx ry h
 obtain ⟨l, b, xs, zs, rfl, rfl, hH, hB, hz, q⟩ := h
 cases rx
 cases ry
 obtain ⟨z, its, n, r, hl, e⟩ := I.lstM hH
 obtain ⟨z2, its2, n2, r2, hl2, e2⟩ := I.lstM hB
 refine PySem.P.add_list e e2 ?_ (by rw [List.size_toArray, List.size_toArray]; omega)
 have ea : its.toArray ++ its2.toArray = (its ++ its2).toArray := by simp
 rw [ea]
 exact ⟨.ref _, _, I.lnew (t' := s.toks) (r.append r2) (by rw [List.length_append]; omega), rfl, q _ I.fresh⟩
noncomputable def rRep : R2 := fun x y H Q => ∃ l k xs, x = .ref l ∧ y = .int k ∧ H l = some (.lst xs) ∧ -(2 ^ 63) ≤ k ∧ k < 2 ^ 63 ∧ xs.length * k.toNat ≤ sizeLine ∧
 ∀ p, H p = none → Q (.ref p) (upd H p (.lst (List.replicate k.toNat xs).flatten))
theorem len_rep {α : Type} (xs : List α) (k : Nat) : (List.replicate k xs).flatten.length = k * xs.length := by
 induction k with
 | zero => simp
 | succ k ih => rw [List.replicate_succ, List.flatten_cons, List.length_append, ih, Nat.succ_mul, Nat.add_comm]
theorem op_rep : OpR X (binaryOp .Mult) rRep := by
 intro pins s σ H x y v u Q I rx ry h
 obtain ⟨l, k, xs, rfl, rfl, hH, h1, h2, hz, q⟩ := h
 cases rx
 obtain ⟨t, rfl⟩ := ry
 obtain ⟨z, its, n, r, hl, e⟩ := I.lstM hH
 have hlen : its.toArray.size * k.toNat ≤ sizeLine := by rw [List.size_toArray, ← hl]; exact hz
 have hcap : ¬ its.toArray.size * k.toNat > (2 ^ 63 - 1) / 8 := by
  have : (sizeLine : Nat) ≤ (2 ^ 63 - 1) / 8 := by decide
  omega
 have hfit : ¬ (!Builtin.List.listFitsIndex k) = true := by
  rw [fitsIndex_both h1 h2]
  exact Bool.false_ne_true
 have hlong : ¬ Builtin.List.listTooLong (its.toArray.size * k.toNat) = true := by
  rw [notLongL hlen]
  exact Bool.false_ne_true
 have hnew : List.foldl (fun x1 x2 => x1 ++ x2) #[] (List.replicate (if its.toArray.isEmpty = true then 0 else k.toNat) its.toArray) = (List.replicate k.toNat its).flatten.toArray := by
  have f0 : ∀ m : Nat, List.foldl (fun x1 x2 => x1 ++ x2) #[] (List.replicate m its.toArray) = (List.replicate m its).flatten.toArray := fun m => by
   have := foldl_rep its m []
   rw [List.nil_append] at this
   exact this
  rw [f0]
  cases its with
  | nil => simp
  | cons a r' => rw [if_neg (by simp)]
 refine wpAny_binaryOp_repeat_ref (T := "list") (U := "int") (by decide) ⟨_, e, rfl⟩ (fun s' => typeIs_int s' k t) noFill_list_mul F.fills_int_mul F.slot_int_rmul repeat_list F.slot_int_index.lookup
  (call_meets F.slot_int_rmul (typeIs_int s k t) F.entry_int_rmul (F.args_int_rmul_2 _ _) (int___rmul___int_list k t l its.toArray n)
   ⟨e, rfl, ⟨_, e, rfl⟩, call_meets F.slot_list_mul ⟨_, e, rfl⟩ F.entry_list_mul (F.args_list_mul_2 _ _) (AutoListH.list___mul___list_int_3 l its.toArray n k t hfit hcap hlong) ⟨e, ?_⟩⟩)
 rw [hnew]
 exact ⟨.ref _, _, I.lnew (t' := s.toks) (r.rep k.toNat) (by rw [len_rep, Nat.mul_comm]; exact hz), rfl, q _ I.fresh⟩
end
end L2
namespace L2
open PySem PySem.Spec PyProof.Rows
section
variable {κ : Type} [DecidableEq κ]
noncomputable def valV (kvs : List (κ × V)) (k : κ) : Option V := (kvs.find? fun kv => decide (kv.1 = k)).map (·.2)
noncomputable def putK (kvs : List (κ × V)) (k : κ) (v : V) : List (κ × V) :=
 if (kvs.any fun kv => decide (kv.1 = k)) = true then kvs.map (fun kv => if kv.1 = k then (kv.1, v) else kv) else kvs ++ [(k, v)]
theorem valV_pos {p : κ × V} {r : List (κ × V)} {k : κ} (e : p.1 = k) : valV (p :: r) k = some p.2 := by simp [valV, List.find?_cons, e]
theorem valV_neg {p : κ × V} {r : List (κ × V)} {k : κ} (e : ¬ p.1 = k) : valV (p :: r) k = valV r k := by simp [valV, List.find?_cons, e]
theorem valV_any (k : κ) : ∀ kvs : List (κ × V), (kvs.any fun kv => decide (kv.1 = k)) = (valV kvs k).isSome
 | [] => rfl
 | p :: r => by
  rw [List.any_cons]
  by_cases e : p.1 = k
  ·simp only [valV_pos e, decide_eq_true e, Bool.true_or, Option.isSome_some]
  ·rw [valV_neg e, decide_eq_false e, Bool.false_or]; exact valV_any k r
theorem length_putK (kvs : List (κ × V)) (k : κ) (v : V) : (putK kvs k v).length ≤ kvs.length + 1 := by
 unfold putK
 split
 ·rw [List.length_map]; omega
 ·rw [List.length_append, List.length_cons, List.length_nil]; omega
theorem RelO.isSome_eq {o : Option V} {u : Option Value} (r : RelO o u) : o.isSome = u.isSome := by
 cases o with
 | none => cases u with
  | none => rfl
  | some _ => exact (show False from r).elim
 | some _ => cases u with
  | none => exact (show False from r).elim
  | some _ => rfl
theorem RelO.getD {o : Option V} {u : Option Value} {d : V} {d' : Value} (r : RelO o u) (rd : RelV d d') : RelV (o.getD d) (u.getD d') := by
 cases o with
 | none => cases u with
  | none => exact rd
  | some _ => exact (show False from r).elim
 | some _ => cases u with
  | none => exact (show False from r).elim
  | some _ => exact r
theorem KV.val {kvs : List (κ × V)} {vs : List (κ × Value)} (r : KV kvs vs) (k : κ) : RelO (valV kvs k) (valueAt vs k) := by
 unfold KV at r
 induction r with
 | nil => exact True.intro
 | @cons p q ps qs h t ih =>
  obtain ⟨h1, h2⟩ := h
  by_cases e : p.1 = k
  ·have e' : q.1 = k := h1.symm.trans e
   have b : valueAt (q :: qs) k = some q.2 := by simp [valueAt, List.find?_cons, e']
   rw [valV_pos e, b]; exact h2
  ·have e' : ¬ q.1 = k := fun z => e (h1.trans z)
   have b : valueAt (q :: qs) k = valueAt qs k := by simp [valueAt, List.find?_cons, e']
   rw [valV_neg e, b]; exact ih
theorem KV.any {kvs : List (κ × V)} {vs : List (κ × Value)} (r : KV kvs vs) (k : κ) : (kvs.any fun kv => decide (kv.1 = k)) = vs.any fun kv => decide (kv.1 = k) := by
 unfold KV at r
 induction r with
 | nil => rfl
 | cons h t ih => rw [List.any_cons, List.any_cons, ih, h.1]
theorem KV.repl {kvs : List (κ × V)} {vs : List (κ × Value)} (r : KV kvs vs) (k : κ) {y : V} {u : Value} (ry : RelV y u) :
  KV (kvs.map fun kv => if kv.1 = k then (kv.1, y) else kv) (vs.map fun kv => if kv.1 = k then (kv.1, u) else kv) := by
 unfold KV at r ⊢
 induction r with
 | nil => exact .nil
 | @cons p q ps qs h t ih =>
  rw [List.map_cons, List.map_cons]
  refine .cons ?_ ih
  obtain ⟨h1, h2⟩ := h
  by_cases e : p.1 = k
  ·rw [if_pos e, if_pos (h1.symm.trans e)]; exact ⟨h1, ry⟩
  ·rw [if_neg e, if_neg (fun z => e (h1.trans z))]; exact ⟨h1, h2⟩
theorem KV.put {kvs : List (κ × V)} {vs : List (κ × Value)} (r : KV kvs vs) (k : κ) {y : V} {u : Value} (ry : RelV y u) : KV (putK kvs k y) (stored vs k u) := by
 unfold putK stored
 rw [r.any k]
 by_cases e : (vs.any fun kv => decide (kv.1 = k)) = true
 ·rw [if_pos e, if_pos e]; exact r.repl k ry
 ·rw [if_neg e, if_neg e]; exact Paired.snoc r ⟨rfl, ry⟩
theorem KV.length {kvs : List (κ × V)} {vs : List (κ × Value)} (r : KV kvs vs) : kvs.length = vs.length := Paired.length r
end
theorem kV_is {P : Program} {w : World} {k : Key} {u : Value} (r : RelV (kV k) u) : (mixKind P w).is k u = true := by
 cases k with
 | inl i => obtain ⟨t, e⟩ := (show ∃ t, u = Value.int i t from r); subst e; exact mixKind_int P w i t
 | inr x => obtain ⟨t, e⟩ := (show ∃ t, u = Value.str x t from r); subst e; exact mixKind_str P w x t
theorem items_are {P : Program} {w : World} : ∀ {ks : List Key} {us : List Value}, Vals (ks.map kV) us → ItemsAre (mixKind P w) ks us
 | [], _, r => by rw [List.map_nil] at r; cases r; exact .nil
 | k :: ks, _, r => by
  rw [List.map_cons] at r
  cases r with
  | cons h t => exact .cons (kV_is h) (items_are t)
noncomputable abbrev KT (H : Hp) : List (List Key × V) → List (List Key × Addr × Value) → Prop := Paired fun p q => p.1 = q.1 ∧ H q.2.1 = some (.tup (p.1.map kV)) ∧ RelV p.2 q.2.2
theorem KT.val {H : Hp} {kvs : List (List Key × V)} {xs : List (List Key × Addr × Value)} (r : KT H kvs xs) (k : List Key) : RelO (valV kvs k) ((atKey xs k).map (·.2)) := by
 induction r with
 | nil => exact True.intro
 | @cons p q ps qs h t ih =>
  obtain ⟨h1, _, h2⟩ := h
  by_cases e : p.1 = k
  ·have e' : q.1 = k := h1.symm.trans e
   have b : atKey (q :: qs) k = some q.2 := by simp [atKey, List.find?_cons, e']
   rw [valV_pos e, b]; exact h2
  ·have e' : ¬ q.1 = k := fun z => e (h1.trans z)
   have b : atKey (q :: qs) k = atKey qs k := by simp [atKey, List.find?_cons, e']
   rw [valV_neg e, b]; exact ih
theorem KT.repl {H : Hp} {kvs : List (List Key × V)} {xs : List (List Key × Addr × Value)} (r : KT H kvs xs) (k : List Key) {y : V} {u : Value} (ry : RelV y u) :
  KT H (kvs.map fun kv => if kv.1 = k then (kv.1, y) else kv) (xs.map (putAt k u)) := by
 induction r with
 | nil => exact .nil
 | @cons p q ps qs h t ih =>
  rw [List.map_cons, List.map_cons]
  refine .cons ?_ ih
  obtain ⟨h1, h2, h3⟩ := h
  unfold putAt
  by_cases e : p.1 = k
  ·rw [if_pos e, if_pos (h1.symm.trans e)]; exact ⟨h1, h2, ry⟩
  ·rw [if_neg e, if_neg (fun z => e (h1.trans z))]; exact ⟨h1, h2, h3⟩
theorem KT.put {H : Hp} {kvs : List (List Key × V)} {xs : List (List Key × Addr × Value)} (r : KT H kvs xs) (k : List Key) {b : Addr} {y : V} {u : Value} (hb : H b = some (.tup (k.map kV))) (ry : RelV y u) :
  KT H (putK kvs k y) (storedH xs k b u) := by
 have e : (kvs.any fun kv => decide (kv.1 = k)) = (atKey xs k).isSome := by
  rw [valV_any, (r.val k).isSome_eq, Option.isSome_map]
 unfold putK storedH
 rw [e]
 by_cases q : (atKey xs k).isSome = true
 ·rw [if_pos q, if_pos q]; exact r.repl k ry
 ·rw [if_neg q, if_neg q]; exact Paired.snoc r ⟨rfl, hb, ry⟩
theorem KT.keeps {H H' : Hp} {kvs : List (List Key × V)} {xs : List (List Key × Addr × Value)} (r : KT H kvs xs) (ht : ∀ b ys, H b = some (.tup ys) → H' b = some (.tup ys)) : KT H' kvs xs :=
 Paired.mapP r fun _ _ z => ⟨z.1, ht _ _ z.2.1, z.2.2⟩
section
variable {P : Program} {w : World} {H : Hp} {h : Heap} {a : Addr}
theorem rd_of {u : HO} (ok : HOk P w H h) (e : Rd H a u) : ObjOk P w H h a u := e.ok ok
theorem dk_rd {kvs : List (Key × V)} (ok : HOk P w H h) (e : Rd H a (.dK kvs)) : kvs.length ≤ sizeLine ∧ (a == sysModules) = false ∧ ∃ vs, KV kvs vs ∧ h.DictOf (mixKind P w) a vs :=
 show ObjOk P w H h a (.dK kvs) from rd_of ok e
theorem dk_of {kvs : List (Key × V)} (ok : HOk P w H h) (e : H a = some (.dK kvs)) : kvs.length ≤ sizeLine ∧ (a == sysModules) = false ∧ ∃ vs, KV kvs vs ∧ h.DictOf (mixKind P w) a vs := dk_rd ok (.inl e)
theorem key_of {ks : List Key} (ok : HOk P w H h) (e : H a = some (.tup (ks.map kV))) : (tupleKind (mixKind P w)).is h ks a := by
 obtain ⟨_, its, r, o, h1, h2, n, h3⟩ := (show ObjOk P w H h a (.tup (ks.map kV)) from ok a _ e)
 exact ⟨o, its.toArray, n, h1, h2, h3, by simpa using items_are r⟩
theorem dt_rd {kvs : List (List Key × V)} (ok : HOk P w H h) (e : Rd H a (.dT kvs)) : kvs.length ≤ sizeLine ∧ (a == sysModules) = false ∧
  ∃ xs, KT H kvs xs ∧ h.DictOfH (tupleKind (mixKind P w)) a xs := by
 obtain ⟨z, y, xs, r, o, es, ep, h1, h2, h3, h4, h5⟩ := (show ObjOk P w H h a (.dT kvs) from rd_of ok e)
 refine ⟨z, y, xs, r, o, es, ep, h1, h2, h3, h4, fun x hx => ?_, h5⟩
 have all : ∀ {l : List (List Key × V)} {m : List (List Key × Addr × Value)}, KT H l m → ∀ x ∈ m, (tupleKind (mixKind P w)).is h x.1 x.2.1 := by
  intro l m q
  induction q with
  | nil => intro x hx; exact nomatch hx
  | @cons p q ps qs hq t ih =>
   intro x hx
   rcases List.mem_cons.mp hx with e | hx
   ·subst e
    exact key_of ok (by rw [← hq.1]; exact hq.2.1)
   ·exact ih x hx
 exact all r x hx
theorem dt_of {kvs : List (List Key × V)} (ok : HOk P w H h) (e : H a = some (.dT kvs)) : kvs.length ≤ sizeLine ∧ (a == sysModules) = false ∧
  ∃ xs, KT H kvs xs ∧ h.DictOfH (tupleKind (mixKind P w)) a xs := dt_rd ok (.inl e)
end
noncomputable def DGet (H : Hp) (a : Addr) (y : V) (r : Option V) : Prop :=
 (∃ kvs k, Rd H a (.dK kvs) ∧ y = kV k ∧ r = valV kvs k) ∨ ∃ kvs k b, Rd H a (.dT kvs) ∧ y = .ref b ∧ H b = some (.tup (k.map kV)) ∧ r = valV kvs k
noncomputable def DPut (H : Hp) (a : Addr) (y v : V) (H' : Hp) : Prop :=
 (∃ kvs k, H a = some (.dK kvs) ∧ y = kV k ∧ kvs.length < sizeLine ∧ H' = upd H a (.dK (putK kvs k v))) ∨
 ∃ kvs k b, H a = some (.dT kvs) ∧ y = .ref b ∧ H b = some (.tup (k.map kV)) ∧ kvs.length < sizeLine ∧ H' = upd H a (.dT (putK kvs k v))
theorem DPut.k {H : Hp} {a : Addr} {kvs : List (Key × V)} {k : Key} {v : V} (e : H a = some (.dK kvs)) (hl : kvs.length < sizeLine) : DPut H a (kV k) v (upd H a (.dK (putK kvs k v))) := .inl ⟨kvs, k, e, rfl, hl, rfl⟩
section
variable {X : Cx} {pins : List (Addr × Obj)} {σ : St} {H : Hp} {s : Shared} {a : Addr} {y v : V} {u r : Value} {o : Option V} {A : Around} {E : Value → Shared → Prop}
theorem Inv.big (I : Inv X pins σ H s) : sysModules < s.heap.objs.size := by
 have h : mainGlobals < s.heap.objs.size := (I.mod.glob.keeps I.bk).lt
 exact Nat.lt_trans (by decide) h
theorem d_getItem {Q : Value → Shared → Prop} (hu : A.units + 1 < cLine) (I : Inv X pins σ H s) (g : DGet H a y (some v)) (ry : RelV y u) (h : ∀ w' s', Inv X pins σ H s' → RelV v w' → Q w' s') :
  wpAny (model X.prog X.w) A (getItem (.ref a) u) Q E s := by
 rcases g with ⟨kvs, k, e, ey, l⟩ | ⟨kvs, k, b, e, ey, eb, l⟩
 ·subst ey
  obtain ⟨z, hd, vs, rel, dd⟩ := dk_rd I.hok e
  obtain ⟨w', hw, rw'⟩ := RelO.some_of (v := v) (o := valueAt vs k) (by rw [l]; exact rel.val k)
  exact wpAny_getItem_of (kV_is ry) dd.mapOf hw (h w' _ (I.tok _) rw')
 ·subst ey
  cases (show u = Value.ref b from ry)
  obtain ⟨z, hd, xs, rel, dd⟩ := dt_rd I.hok e
  obtain ⟨w', hw, rw'⟩ := RelO.some_of (v := v) (o := (atKey xs k).map (·.2)) (by rw [l]; exact rel.val k)
  obtain ⟨p, hp, hp2⟩ := Option.map_eq_some_iff.mp hw
  refine wpAny_getItem_heap (tupleKind_room_in1 hu) (key_of I.hok eb) dd hp ?_
  rw [hp2]
  exact h w' _ (I.tok _) rw'
theorem d_notIn {Q : Value → Shared → Prop} (hu : A.units + 1 < cLine) (I : Inv X pins σ H s) (g : DGet H a y o) (ry : RelV y u) (h : ∀ s', Inv X pins σ H s' → Q (.bool (!o.isSome)) s') :
  wpAny (model X.prog X.w) A (compareOp .NotIn u (.ref a)) Q E s := by
 rcases g with ⟨kvs, k, e, ey, l⟩ | ⟨kvs, k, b, e, ey, eb, l⟩
 ·subst ey
  obtain ⟨z, hd, vs, rel, dd⟩ := dk_rd I.hok e
  refine wpAny_notIn_of (kV_is ry) hd dd.mapOf ?_
  rw [← (rel.val k).isSome_eq, ← l]
  exact h _ (I.tok _)
 ·subst ey
  cases (show u = Value.ref b from ry)
  obtain ⟨z, hd, xs, rel, dd⟩ := dt_rd I.hok e
  refine wpAny_notIn_heap (tupleKind_room_in1 hu) (key_of I.hok eb) hd dd ?_
  have q := (rel.val k).isSome_eq
  rw [Option.isSome_map] at q
  rw [← q, ← l]
  exact h _ (I.tok _)
theorem d_write {h' : Heap} {t' : Nat} {ob : HO} (I : Inv X pins σ H s) (mu : Mut (H a)) (hs : Heap.SameBut a s.heap h') (he : ∃ q, h'.get? a = some q) (new : ObjOk X.prog X.w (upd H a ob) h' a ob) :
  Inv X pins σ (upd H a ob) { s with heap := h', toks := t' } :=
 I.write (x := a) (e := a) mu (.inl rfl) (fun b q hb z => (hs.2 b hb).trans z) he new
theorem dk_new {P : Program} {w : World} {H' : Hp} {h' : Heap} {kvs : List (Key × V)} {vs : List (Key × Value)} (z : kvs.length ≤ sizeLine) (hd : (a == sysModules) = false) (rel : KV kvs vs) (dd : h'.DictOf (mixKind P w) a vs) :
  ObjOk P w H' h' a (.dK kvs) := ⟨z, hd, vs, rel, dd⟩
theorem d_setItem {H' : Hp} {Q : Unit → Shared → Prop} (hu : A.units + 1 < cLine) (I : Inv X pins σ H s) (g : DPut H a y v H') (ry : RelV y u) (rv : RelV v r) (h : ∀ s', Inv X pins σ H' s' → Q () s') :
  wpAny (model X.prog X.w) A (setItem (.ref a) u r) Q E s := by
 rcases g with ⟨kvs, k, e, ey, l, eH⟩ | ⟨kvs, k, b, e, ey, eb, l, eH⟩
 ·subst ey eH
  obtain ⟨z, hd, vs, rel, dd⟩ := dk_of I.hok e
  have hz : vs.length ≤ sizeLine := by rw [← rel.length]; exact z
  have hl : (putK kvs k v).length ≤ sizeLine := by have := length_putK kvs k v; omega
  refine wpAny_setItem_pairs (hsz := hz) (kV_is ry) dd fun h' dd' hs => h _ ?_
  have he : ∃ q, h'.get? a = some q := let ⟨q, _, _, hq, _⟩ := dd'; ⟨q, hq⟩
  exact d_write I (by rw [e]; exact True.intro) hs he (dk_new hl hd (rel.put k rv) dd')
 ·subst ey eH
  cases (show u = Value.ref b from ry)
  obtain ⟨z, hd, xs, rel, dd⟩ := dt_of I.hok e
  have hz : xs.length ≤ sizeLine := by rw [← Paired.length rel]; exact z
  have hl : (putK kvs k v).length ≤ sizeLine := by have := length_putK kvs k v; omega
  refine wpAny_setItem_heap (hsz := hz) (tupleKind_room_in1 hu) (key_of I.hok eb) dd fun h' dd' hs => h _ ?_
  obtain ⟨q, es, ep, hq, h2, h3, h4, _, h5⟩ := dd'
  refine d_write I (by rw [e]; exact True.intro) hs ⟨q, hq⟩ ⟨hl, hd, _, (rel.put k eb rv).keeps fun c ys ec => ?_, q, es, ep, hq, h2, h3, h4, h5⟩
  rw [upd_ne (ne_of ec e (fun z => nomatch z))]
  exact ec
end
section
variable {X : Cx} {pins : List (Addr × Obj)} {σ : St} {H : Hp} {s : Shared} {a : Addr} {kvs : List (Key × V)} {k : Key} {u : Value} {A : Around} {E : Value → Shared → Prop}
theorem d_len {Q : Value → Shared → Prop} (I : Inv X pins σ H s) (e : Rd H a (.dK kvs)) (h : ∀ t s', Inv X pins σ H s' → Q (.int kvs.length t) s') : wpAny (model X.prog X.w) A (call (.builtin "len") [.ref a]) Q E s := by
 obtain ⟨z, hd, vs, rel, dd⟩ := dk_rd I.hok e
 refine call_len_dict hd dd (by rw [← rel.length]; rw [sizeLine_eq] at z; omega) ?_
 rw [← rel.length]
 exact h _ _ (I.tok _)
end
noncomputable def NoSl (i : Expr) : Prop := ∀ ov iv, subscripted i false ov iv = operate [ov, iv] (getItem ov iv)
theorem subD_of {prog : Program} {w : World} {A : Around} {E : Value → Shared → Prop} {s : Shared} {env : Env} {value slice : Expr} {pos : Pos} {T id : String} {Q : Value → Shared → Prop}
  (hl : typeLookup (.type T) "__getitem__" = pure (some (.builtin id))) (hs : NoSl slice)
  (h : wpAny (model prog w) A (eval value env) (fun o s₁ => wpAny (model prog w) A (eval slice env) (fun i s₂ => s₂.TypeIs o T ∧ wpAny (model prog w) A (getItem o i) Q E s₂) E s₁) E s) :
  wpAny (model prog w) A (eval (.Subscript value slice pos) env) Q E s := by
 refine Subscript_ (wpAny_mono h (fun o s₁ h₁ => wpAny_mono h₁ (fun i s₂ h₂ => ?_) fun _ _ x => x) fun _ _ x => x)
 obtain ⟨hT, h₂⟩ := h₂
 unfold subscriptTail
 refine wpAny_bind ?_
 rw [getitemInPython_of_ne hT.not_modules]
 refine wpAny_bind (wpAny_specialOf hT hl ?_)
 have fin : wpAny (model prog w) A (subscripted slice false o i) (fun r s₃ => wpAny (model prog w) A (letTemporaryGo value o r >>= fun _ => pure r) Q E s₃) E s₂ := by
  rw [hs o i]
  exact wpAny_operating (wpAny_mono h₂ (fun r s₃ h₃ => wpAny_bind (wpAny_letTemporaryGo (wpAny_pure h₃))) fun _ _ x => x)
 first
  | exact wpAny_pure (wpAny_bind fin)
  | exact wpAny_bind (wpAny_pure (wpAny_bind fin))
  | exact wpAny_bind fin
theorem dict_typeIs {X : Cx} {pins : List (Addr × Obj)} {σ : St} {H : Hp} {s : Shared} {a : Addr} {y : V} {o : Option V} (I : Inv X pins σ H s) (g : DGet H a y o) : s.TypeIs (.ref a) "dict" := by
 rcases g with ⟨kvs, k, e, _, _⟩ | ⟨kvs, k, b, e, _, _, _⟩
 ·obtain ⟨_, _, vs, _, dd⟩ := dk_rd I.hok e
  exact dd.typeIs
 ·obtain ⟨_, _, xs, _, dd⟩ := dt_rd I.hok e
  exact dd.typeIs
noncomputable def tDGet (td ty : TE) : TE := fun σ H Q => td σ H fun x H1 => ty σ H1 fun y H2 => ∃ a v, x = .ref a ∧ DGet H2 a y (some v) ∧ Q v H2
noncomputable def tDNotIn (ty td : TE) : TE := fun σ H Q => ty σ H fun y H1 => td σ H1 fun x H2 => ∃ a o, x = .ref a ∧ DGet H2 a y o ∧ Q (.bl (!o.isSome)) H2
noncomputable def sDPut (td ty tv : TE) : TS := fun D σ H => tv σ H fun v H1 => td σ H1 fun x H2 => ty σ H2 fun y H3 => ∃ a H4, x = .ref a ∧ DPut H3 a y v H4 ∧ D.nx σ H4
section
variable {X : Cx} {o i e value : Expr} {pos pos' tpos : Pos} {td ty tv : TE}
theorem pe_dget (hu : X.A.units + 1 < cLine) (ho : PE X o td) (hi : PE X i ty) (hs : NoSl i) : PE X (.Subscript o i pos) (tDGet td ty) := by
 intro pins s σ H Q I h
 refine subD_of PySem.F.slot_dict_getitem.lookup hs (thn (ho pins s σ H _ I h) fun u s1 zz21 => ?_)
 obtain ⟨x, H1, I1, rx, q1⟩ := zz21
 refine thn (hi pins s1 σ H1 _ I1 q1) fun iv s2 zz9 => ?_
 obtain ⟨y, H2, I2, ry, a, v, ex, g, q2⟩ := zz9
 subst ex
 obtain rfl : u = Value.ref a := rx
 exact ⟨dict_typeIs I2 g, d_getItem hu I2 g ry fun w' s3 I3 rw' => ⟨v, H2, I3, rw', q2⟩⟩
theorem pc_dnotin (hu : X.A.units + 1 < cLine) (hi : PE X i ty) (ho : PE X o td) : PC X .NotIn i o (tDNotIn ty td) := by
 intro pins s σ H Q I h
 refine thn (hi pins s σ H _ I h) fun iv s1 zz22 => ?_
 obtain ⟨y, H1, I1, ry, q1⟩ := zz22
 refine thn (ho pins s1 σ H1 _ I1 q1) fun u s2 zz9 => ?_
 obtain ⟨x, H2, I2, rx, a, ov, ex, g, q2⟩ := zz9
 subst ex
 obtain rfl : u = Value.ref a := rx
 exact d_notIn hu I2 g ry fun s3 I3 => ⟨.bl (!ov.isSome), H2, I3, rfl, q2⟩
theorem ps_dput (hu : X.A.units + 1 < cLine) (ho : PE X o td) (hi : PE X i ty) (hv : PE X value tv) (hs : swapsWith value (some (.Subscript o i pos')) pos.line X.env = pure false) :
  PS X (.Assign [.Subscript o i pos'] value pos) (sDPut td ty tv) := by
 intro pins s σ H D I h
 refine wpAny_Assign_Subscript (thn (hv pins s σ H _ I h) fun r s1 zz23 => ?_) hs
 obtain ⟨v, H1, I1, rv, q1⟩ := zz23
 refine thn (ho pins s1 σ H1 _ I1 q1) fun u s2 zz24 => ?_
 obtain ⟨x, H2, I2, rx, q2⟩ := zz24
 refine thn (hi pins s2 σ H2 _ I2 q2) fun iv s3 zz25 => ?_
 obtain ⟨y, H3, I3, ry, a, H4, ex, g, q3⟩ := zz25
 subst ex
 obtain rfl : u = Value.ref a := rx
 exact d_setItem hu I3 g ry rv fun s4 I4 => ⟨σ, H4, I4, q3⟩
end
theorem dk_empty {P : Program} {w : World} {H : Hp} (h : Heap) (hb : sysModules < h.objs.size) : ObjOk P w H (h.push { cls := .type "dict", data := .dict #[] }) h.objs.size (.dK []) :=
 ⟨Nat.zero_le _, beq_eq_false_iff_ne.mpr (Ne.symm (Nat.ne_of_lt hb)), [], .nil, Heap.DictOf.new h⟩
noncomputable def tDNewK : TE := fun _ H Q => ∀ p, H p = none → Q (.ref p) (upd H p (.dK []))
section
variable {X : Cx} {pos : Pos}
theorem pe_dnewK : PE X (.Dict [] [] pos) tDNewK := fun pins s σ H Q I h =>
 wpAny_Dict_empty ⟨.ref s.heap.objs.size, _, I.laid (a := s.heap.objs.size) (o := .dK []) (t' := s.toks) (fun _ _ q => Heap.get?_push_of_some _ q) (Nat.le_refl _) (dk_empty s.heap I.big), rfl, h _ (I.hok.fresh (Nat.le_refl _))⟩
end
noncomputable def tPairs : List (TE × TE) → St → Hp → (List (V × V) → Hp → Prop) → Prop
 | [], _, H, Q => Q [] H
 | (tk, tv) :: r, σ, H, Q => tk σ H fun x H1 => tv σ H1 fun y H2 => tPairs r σ H2 fun ps H3 => Q ((x, y) :: ps) H3
noncomputable abbrev VV : List (V × V) → List (Value × Value) → Prop := Paired fun p q => RelV p.1 q.1 ∧ RelV p.2 q.2
noncomputable def PPs (X : Cx) (pos : Pos) (keys : List (Option Expr)) (values : List Expr) (trs : List (TE × TE)) : Prop :=
 ∀ (pins : List (Addr × Obj)) (s : Shared) (σ : St) (H : Hp) (Q : List (V × V) → Hp → Prop), Inv X pins σ H s → tPairs trs σ H Q →
  wpAny (model X.prog X.w) X.A (evalPairs (pairTrees keys values X.env pos)) (fun vs s' => ∃ ps H', Inv X pins σ H' s' ∧ VV ps vs ∧ Q ps H') X.xe s
theorem pps_nil {X : Cx} {pos : Pos} : PPs X pos [] [] [] := fun pins s σ H Q I h => pairTrees_nil_walk ⟨[], H, I, .nil, h⟩
theorem pps_cons {X : Cx} {pos : Pos} {k v : Expr} {ks : List (Option Expr)} {vs : List Expr} {tk tv : TE} {trs : List (TE × TE)} (hk : PE X k tk) (hv : PE X v tv) (hr : PPs X pos ks vs trs) :
  PPs X pos (some k :: ks) (v :: vs) ((tk, tv) :: trs) := fun pins s σ H Q I h =>
 pairTrees_cons_walk (thn (hk pins s σ H _ I h) fun u s1 ⟨x, H1, I1, rx, q1⟩ => thn (hv pins s1 σ H1 _ I1 q1) fun w2 s2 ⟨y, H2, I2, ry, q2⟩ =>
  thn (hr pins s2 σ H2 _ I2 q2) fun ws s3 ⟨ps, H3, I3, rel, q3⟩ => ⟨(x, y) :: ps, H3, I3, .cons ⟨rx, ry⟩ rel, q3⟩)
noncomputable def mergeK (kvs more : List (Key × V)) : List (Key × V) := more.foldl (fun acc kv => putK acc kv.1 kv.2) kvs
theorem KV.merge : ∀ {more : List (Key × V)} {rs : List (Key × Value)} {kvs : List (Key × V)} {vs : List (Key × Value)}, KV more rs → KV kvs vs → KV (mergeK kvs more) (merged vs rs) := by
 intro more rs kvs vs r
 unfold KV at r
 induction r generalizing kvs vs with
 | nil => intro q; exact q
 | @cons p q ps qs h t ih =>
  intro r0
  have e : KV (putK kvs p.1 p.2) (stored vs q.1 q.2) := by
   have := r0.put p.1 h.2
   rw [← h.1]; exact this
  exact ih e
theorem length_mergeK : ∀ (more kvs : List (Key × V)), (mergeK kvs more).length ≤ kvs.length + more.length
 | [], kvs => by show kvs.length ≤ kvs.length + 0; omega
 | p :: r, kvs => by
  have h1 := length_mergeK r (putK kvs p.1 p.2)
  have h2 := length_putK kvs p.1 p.2
  show (mergeK (putK kvs p.1 p.2) r).length ≤ _
  rw [List.length_cons]; omega
theorem carries_of {P : Program} {w : World} : ∀ {kvs : List (Key × V)} {ws : List (Value × Value)}, VV (kvs.map fun kv => (kV kv.1, kv.2)) ws → ∃ rs, Carries (mixKind P w) ws rs ∧ KV kvs rs
 | [], _, r => by rw [List.map_nil] at r; cases r; exact ⟨[], True.intro, .nil⟩
 | p :: kvs, _, r => by
  rw [List.map_cons] at r
  cases r with
  | @cons a b as bs h t =>
   obtain ⟨rs, c, q⟩ := carries_of (P := P) (w := w) t
   obtain ⟨b1, b2⟩ := b
   exact ⟨(p.1, b2) :: rs, ⟨kV_is h.1, rfl, c⟩, .cons ⟨rfl, h.2⟩ q⟩
noncomputable def tDisp (trs : List (TE × TE)) : TE := fun σ H Q => ∀ p, H p = none → tPairs trs σ (upd H p (.dK [])) fun ps H2 => H2 p = some (.dK []) ∧ ∃ kvs : List (Key × V), ps = kvs.map (fun kv => (kV kv.1, kv.2)) ∧ kvs.length ≤ 15 ∧ Q (.ref p) (upd H2 p (.dK (mergeK [] kvs)))
theorem pe_disp {X : Cx} {pos : Pos} {keys : List (Option Expr)} {values : List Expr} {trs : List (TE × TE)} (h : PPs X pos keys values trs) (hall : keys.all (·.isSome) = true) (hl : keys.length = values.length) (h0 : keys ≠ [])
  (h15 : keys.length ≤ 15) : PE X (.Dict keys values pos) (tDisp trs) := by
 intro pins s σ H Q I q
 have hn := I.hok.fresh (Nat.le_refl s.heap.objs.size)
 have I1 := I.laid (a := s.heap.objs.size) (o := .dK []) (h' := s.heap.push { cls := .type "dict", data := .dict #[] }) (t' := s.toks) (fun _ _ q => Heap.get?_push_of_some _ q) (Nat.le_refl _) (dk_empty s.heap I.big)
 refine wpAny_Dict_walk (knd := mixKind X.prog X.w) hall hl h0 h15 (thn (h pins _ σ _ _ I1 (q _ hn)) fun ws s2 zz9 => ?_)
 obtain ⟨ps, H2, I2, rel, e, kvs, ep, lk, q2⟩ := zz9
 subst ep
 obtain ⟨rs, c, rk⟩ := carries_of (P := X.prog) (w := X.w) rel
 obtain ⟨z, hd, vs0, r0, dd⟩ := dk_of I2.hok e
 cases r0
 refine ⟨rs, c, dd, fun h' dd' hs => ⟨.ref s.heap.objs.size, _, ?_, rfl, q2⟩⟩
 have hz : (mergeK [] kvs).length ≤ sizeLine := by
  have h1 := length_mergeK kvs []
  rw [List.length_nil] at h1
  rw [sizeLine_eq]; omega
 have he : ∃ q, h'.get? s.heap.objs.size = some q := let ⟨q, _, _, hq, _⟩ := dd'; ⟨q, hq⟩
 exact d_write I2 (by rw [e]; exact True.intro) hs he (dk_new hz hd (rk.merge .nil) dd')
structure M1 (X : Cx) (o : Expr) (m : Str) (apos : Pos) (e : Expr) (cpos : Pos) : Prop where
 base : attributeBase o m X.env (eval o X.env) = eval o X.env
 few : ((backTo cpos (starEach [e] X.env)).all (fun x => !x.1) && (backToKw cpos (keywordEach [] X.env)).all (fun x => x.1.isSome)
  && decide (([e] : List Expr).length + ([] : List Keyword).length + (if ([] : List Keyword).isEmpty then 0 else 1) < 30)) = true
 line : (apos.endLine == cpos.line) = true
 trees : backTo cpos (starEach [e] X.env) = [(false, eval e X.env)]
structure M2 (X : Cx) (o : Expr) (m : Str) (apos : Pos) (e f : Expr) (cpos : Pos) : Prop where
 base : attributeBase o m X.env (eval o X.env) = eval o X.env
 few : ((backTo cpos (starEach [e, f] X.env)).all (fun x => !x.1) && (backToKw cpos (keywordEach [] X.env)).all (fun x => x.1.isSome)
  && decide (([e, f] : List Expr).length + ([] : List Keyword).length + (if ([] : List Keyword).isEmpty then 0 else 1) < 30)) = true
 line : (apos.endLine == cpos.line) = true
 trees : backTo cpos (starEach [e, f] X.env) = [(false, eval e X.env), (false, eval f X.env)]
noncomputable def IsD (H : Hp) (a : Addr) : Prop := (∃ kvs, Rd H a (.dK kvs)) ∨ ∃ kvs, Rd H a (.dT kvs)
theorem isD_at {X : Cx} {pins : List (Addr × Obj)} {σ : St} {H : Hp} {s : Shared} {a : Addr} (I : Inv X pins σ H s) (d : IsD H a) :
  s.TypeIs (.ref a) "dict" ∧ (∀ b, Value.ref a = .ref b → ∃ ob, s.heap.get? b = some ob ∧ ob.dict = none) ∧ (a == sysModules) = false := by
 rcases d with ⟨kvs, e⟩ | ⟨kvs, e⟩
 ·obtain ⟨_, hd, vs, _, dd⟩ := dk_rd I.hok e
  refine ⟨dd.typeIs, fun b q => ?_, hd⟩
  cases q
  obtain ⟨ob, _, _, h1, h2, _⟩ := dd
  exact ⟨ob, h1, h2.2.1⟩
 ·obtain ⟨_, hd, xs, _, dd⟩ := dt_rd I.hok e
  refine ⟨dd.typeIs, fun b q => ?_, hd⟩
  cases q
  obtain ⟨ob, _, _, h1, h2, _⟩ := dd
  exact ⟨ob, h1, h2.2.1⟩
section
variable {X : Cx} {pins : List (Addr × Obj)} {σ : St} {H : Hp} {s : Shared} {a : Addr} {y d : V} {u r : Value} {o : Option V} {A : Around} {E : Value → Shared → Prop}
theorem d_get2 {Q : Value → Shared → Prop} (hu : A.units + 1 < cLine) (I : Inv X pins σ H s) (g : DGet H a y o) (ry : RelV y u) (rd : RelV d r) (h : ∀ w' s', Inv X pins σ H s' → RelV (o.getD d) w' → Q w' s') :
  wpAny (model X.prog X.w) A (call (.builtin "dict.get") [.ref a, u, r]) Q E s := by
 rcases g with ⟨kvs, k, e, ey, l⟩ | ⟨kvs, k, b, e, ey, eb, l⟩
 ·subst ey
  obtain ⟨z, hd, vs, rel, dd⟩ := dk_rd I.hok e
  refine call_meetsIn PySem.F.slot_dict_get dd.typeIs PySem.F.entry_dict_get (PySem.F.args_dict_get_3 _ _ _) (meets_dict_get_default (mixKind X.prog X.w) a (kV_is ry) hd r) ⟨_, dd.mapOf, h _ _ (I.tok _) ?_⟩
  rw [l]
  exact (rel.val k).getD rd
 ·subst ey
  cases (show u = Value.ref b from ry)
  obtain ⟨z, hd, xs, rel, dd⟩ := dt_rd I.hok e
  refine call_meetsIn PySem.F.slot_dict_get dd.typeIs PySem.F.entry_dict_get (PySem.F.args_dict_get_3 _ _ _) (meetsH_dict_get_default (tupleKind (mixKind X.prog X.w)) a b hd r) ⟨tupleKind_room_in1 hu, k, xs, key_of I.hok eb, dd, h _ _ (I.tok _) ?_⟩
  rw [l]
  exact (rel.val k).getD rd
end
noncomputable def tDGet2 (td ty tx : TE) : TE := fun σ H Q => td σ H fun x H1 => ∃ a, x = .ref a ∧ IsD H1 a ∧ ty σ H1 fun y H2 => tx σ H2 fun z H3 => ∃ o, DGet H3 a y o ∧ Q (o.getD z) H3
section
variable {X : Cx} {o e f : Expr} {apos cpos : Pos} {td ty tx : TE}
theorem pe_dget2 (hu : X.A.units + 1 < cLine) (ho : PE X o td) (he : PE X e ty) (hf : PE X f tx) (m : M2 X o "get" apos e f cpos) : PE X (.Call (.Attribute o "get" apos) [e, f] [] cpos) (tDGet2 td ty tx) := by
 intro pins s σ H Q I h
 refine wpAny_Call_method m.base m.few m.line PySem.F.plainAttrs_dict PySem.F.slot_dict_get PySem.F.type_dict_get (thn (ho pins s σ H _ I h) fun u s1 zz9 => ?_)
 obtain ⟨x, H1, I1, rx, a, ex, d, q1⟩ := zz9
 subst ex
 obtain rfl : u = Value.ref a := rx
 obtain ⟨t1, t2, _⟩ := isD_at I1 d
 refine ⟨t1, t2, ?_⟩
 rw [m.trees]
 refine Calls.callWith_builtin rfl (Calls.evalArgs_plain (Calls.spliced_cons (thn (he pins s1 σ H1 _ I1 q1) fun iv s2 ⟨y, H2, I2, ry, q2⟩ =>
  Calls.spliced_cons (thn (hf pins s2 σ H2 _ I2 q2) fun fv s3 ⟨z, H3, I3, rz, ov, g, q3⟩ => Calls.spliced_nil ?_))))
 exact d_get2 hu I3 g ry rz fun w' s4 I4 rw' => ⟨_, H3, I4, rw', q3⟩
end
end L2
namespace Att
open PySem PySem.W PySem.Calls PyProof.Rows
theorem ints_of_wellAll {P : Params} {h : Heap} : ∀ (ns : List Int) (vs : List Value), WellAll P h vs (ns.map WData.int) → IntsAre vs ns := by
 intro ns
 induction ns with
 | nil =>
  intro vs w
  rw [List.map_nil] at w
  cases w
  exact .nil
 | cons n ns ih =>
  intro vs w
  rw [List.map_cons] at w
  cases w with
  | cons a b =>
   cases a
   exact .cons _ _ (ih _ b)
theorem script_of {l : OpenLaw} {n : Nat} (hn : l.most = some n) {P : Params} {h : Heap} {args : List WData} {vals : List Value}
  (hpre : l.row.toRowW.claim.pre args = true) (hwl : WellAll P h vals args) :
  ∃ a vs ns, vals = [Value.ref a] ∧ args = [WData.list (ns.map WData.int)] ∧ h.get? a = some { cls := .type "list", data := .seq vs.toArray } ∧ IntsAre vs ns ∧ ns.length ≤ n := by
 have hsh : WShape.hasAll [] args [.list .int] = true := (pre_splitW hpre).1
 have hc : l.pre.holds [] { args := args } = true := (pre_splitW hpre).2
 obtain ⟨d, r, rfl, h1, h2⟩ := hasAllW_cons hsh
 obtain rfl := hasAllW_nil h2
 obtain ⟨xs, rfl, h3⟩ := hasW_list h1
 obtain ⟨ns, rfl⟩ := items_int h3
 have hlen : ns.length ≤ n := by
  unfold OpenLaw.pre at hc
  have h4 : (WTm.not (.lt (.lit (.int (n : Int))) (.len (.arg 0)))).holds [] { args := [.list (ns.map .int)] } = true := by
   have h4 := (holds_andW hc).1
   rw [hn] at h4
   exact h4
  have h5 := condW_of h4 (w_not (w_lt w_lit (w_len_list (w_arg rfl))))
  rw [List.length_map] at h5
  refine Nat.le_of_not_lt fun q => ?_
  have q' : (n : Int) < ((ns.length : Nat) : Int) := by omega
  first
   | (rw [decide_eq_true q'] at h5; exact absurd h5 (by decide))
   | (simp at h5; omega)
 cases hwl with
 | cons w1 w2 =>
  cases w2
  cases w1 with
  | list ho hall => exact ⟨_, _, ns, rfl, rfl, ho, ints_of_wellAll ns _ hall, hlen⟩
theorem post_true (l : OpenLaw) (args : List WData) : l.row.toRowW.claim.post args (.bool true) args = true :=
 postW_of (r := l.row.toRowW) (X := (true == true))
  (show WShape.has [] (.bool true) .bool = true by first | rfl | decide | simp [WShape.has, WShape.arms, WShape.armsAll])
  (show (WTm.eq .res (.lit (.bool true))).value [] { args := args, res := some (.bool true), after := args } = some (.bool (true == true)) from w_eq_bool (w_res rfl) w_lit) rfl
theorem attach_call {l : OpenLaw} {n : Nat} {q : Program} {loose : List Str} {XP : (Str → Option Value) → Heap → Prop} {YP : World → Heap → Prop} {d : DefRec}
  (hn : l.most = some n) (hdf : d.params.defaults = [])
  (call : ∀ (w : World) (s₀ s₁ : Shared) (mg mb : Str → Option Value) (fa : Addr) (o : Obj) (pm cd doc : Value) (a : Addr) (vs : List Value) (ns : List Int),
   Ground q loose [] XP w s₀ mg mb s₁.heap → YP w s₁.heap →
   s₁.heap.get? fa = some o → o.data = .func (docDef d.name d.params d.body d.scope pm cd doc) → s₁.heap.CodeRec cd d.name → mg d.name = some (.ref fa) →
   s₁.heap.get? a = some { cls := .type "list", data := .seq vs.toArray } → IntsAre vs ns → ns.length ≤ n → s₁.gens = #[] →
   codeAny (model l.prog w) callerA (.call (.ref fa) ⟨[.ref a], []⟩) (fun r s' => r = .ok (.ret (.bool true)) ∧ OldK s₁.heap s'.heap ∧ s'.os = s₁.os ∧ AllBare s'.gens) s₁) :
  WalkO q loose XP YP l.row.toRowW d [] (fun f vs => PySem.call f vs) := by
 intro w s₀ s₁ mg mb G Y fa o pm cd doc dV kV ho hd hcd hD hmg hg args vals as hpre hlay hrd hwl hlo
 obtain rfl : dV = .none := Dflts.none hD hdf
 obtain rfl : kV = .none := Dflts.noKw hD
 obtain ⟨a, vs, ns, rfl, rfl, hobj, hints, hlen⟩ := script_of hn hpre hwl
 refine enter_call (codeAny_mono (call w s₀ s₁ mg mb fa o pm cd doc a vs ns G Y ho (fd_plain hd) hcd hmg hobj hints hlen hg) fun r s' hq => ?_)
 obtain ⟨rfl, h2, h3, h4⟩ := hq
 exact ⟨.inl ⟨.bool true, .bool true, [], rfl, fun _ => rfl, .bool true, post_true l _, fun _ => ⟨List.Pairwise.nil, fun _ hm => (nomatch hm)⟩⟩, h2, h3, h4⟩
end Att
namespace L2
open PySem PySem.Spec PyProof.Rows
theorem vals_ints : ∀ {vs : List Value} {ns : List Int}, IntsAre vs ns → Vals (ns.map V.int) vs
 | _, _, .nil => .nil
 | _, _, .cons n t h => .cons ⟨t, rfl⟩ (vals_ints h)
noncomputable def Only (H : Hp) : Prop := ∀ b, H b = none ∨ ∃ o xs, H b = some (.frz o (.lst xs))
theorem law_call {P : Program} {w : World} {K : PySem.W.Frag} {mg mb : Str → Option Value} {CX : CXT} {k : Nat} {fa a : Addr} {fd : FuncData} {x : Str} {sp : Sp} {s₁ : Shared} {vs : List Value} {ns : List Int}
  (KX : K.In s₁.heap) (hns : s₁.heap.Ns mainGlobals mg) (hb : s₁.heap.Ns builtinsNs mb) (hbb : ∀ x : Str, x ≠ "__name__" → mb x = bootBuiltins x) (hlim : s₁.heap.NoLimit) (hg : s₁.gens = #[])
  (ha : s₁.heap.get? a = some { cls := .type "list", data := .seq vs.toArray }) (hi : IntsAre vs ns) (hl : ns.length ≤ sizeLine) (hr : Room k callerA)
  (F : ∀ base : Heap, K.In base → base.Ns mainGlobals mg → FnOk P w K mg base CX k fa fd [x] sp) (hbind : ∀ (s : Shared) (u : Value), BindsTo s fd ⟨[u], []⟩ [(x, u)])
  (hsp : ∀ H : Hp, Only H → SqL K H a (ns.map V.int) → sp [.ref a] H (fun v _ => v = .bl true) fun _ _ _ => False)
  (hCX : ∀ H e s', CX [] H s₁ (fun _ _ _ => False) e s' → False) :
  codeAny (model P w) callerA (.call (.ref fa) ⟨[.ref a], []⟩) (fun r s' => r = .ok (.ret (.bool true)) ∧ OldK s₁.heap s'.heap ∧ s'.os = s₁.os ∧ AllBare s'.gens) s₁ := by
 have rv := vals_ints hi
 have lenV := hi.length
 have core : ∀ H : Hp, Only H → SqL K H a (ns.map V.int) → HOk P w H s₁.heap → (∀ b, H b ≠ none → b = a) → (H a ≠ none → K.lookup a = none) →
   codeAny (model P w) callerA (.call (.ref fa) ⟨[.ref a], []⟩) (fun r s' => r = .ok (.ret (.bool true)) ∧ OldK s₁.heap s'.heap ∧ s'.os = s₁.os ∧ AllBare s'.gens) s₁ := by
  intro H hO hS hok hA hK
  have base_of : ∀ {b : Addr} {o : Obj}, s₁.heap.get? b = some o → H b = none → (hidT s₁.heap H).get? b = some o := fun e n => hidT_get e n
  have noA : ∀ {b : Addr} {o : Obj} {es : Array DictEntry} {ep : Nat}, s₁.heap.get? b = some o → o.data = .dict es ep → H b = none := fun {b o es ep} e d => by
   cases q : H b with
   | none => rfl
   | some u =>
    have e' : b = a := hA b (by rw [q]; simp)
    subst e'
    rw [ha] at e; cases e
    have d' : Data.seq vs.toArray _ = Data.dict es ep := d
    cases d'
  have nsK : ∀ {b : Addr} {m : Str → Option Value}, s₁.heap.Ns b m → (hidT s₁.heap H).Ns b m := fun {b m} ⟨o, es, ep, e, d, r⟩ => ⟨o, es, ep, base_of e (noA e d), d, r⟩
  have hKb : K.In (hidT s₁.heap H) := fun b o e => base_of (KX b o e) (by
   cases q : H b with
   | none => rfl
   | some u =>
    have e' : b = a := hA b (by rw [q]; simp)
    subst e'
    rw [hK (by rw [q]; simp)] at e; cases e)
  have hM : Mod K mg (hidT s₁.heap H) := ⟨hKb, nsK hns, ⟨mb, nsK hb, hbb⟩, let ⟨mc, h1, h2⟩ := hlim; ⟨mc, nsK h1, h2⟩⟩
  have e0 : Env0 P w K mg (hidT s₁.heap H) callerA [] s₁ H := ⟨rfl, hM, fun b o e => of_hidT e, Nat.le_of_eq (hidT_size _ _), trivial, fun b hb => absurd (show b ∈ ([] : List Addr) from hb) (by simp), hok, .of_eq hg⟩
  refine codeAny_mono ((F _ hKb (nsK hns)).run callerA [] s₁ H ⟨[.ref a], []⟩ [.ref a] [.ref a] _ _ hr e0 (hbind s₁ (.ref a)) (.cons rfl .nil) (hsp H hO hS)) fun r s' h => ?_
  cases r with
  | error e => exact (hCX H e s' h).elim
  | ok fl =>
   cases fl with
   | next => exact False.elim h
   | brk => exact False.elim h
   | cont => exact False.elim h
   | ret u =>
    obtain ⟨v, H', os, bare, un, hok', r', q⟩ := h
    have q' : v = .bl true := q
    subst q'
    obtain rfl : u = Value.bool true := r'
    refine ⟨rfl, OldK.of_keep fun b o e => ?_, os, bare⟩
    cases q : H b with
    | none => exact un.keep b o e q (by intro z; exact absurd (show b ∈ ([] : List Addr) from z) (by simp)) (by simp)
    | some u =>
     rcases hO b with z | ⟨ob, xs, z⟩
     ·rw [q] at z; cases z
     ·have z2 := un.frzs b ob _ z
      obtain ⟨e1, _⟩ := hok b _ z
      obtain ⟨e2, _⟩ := hok' b _ z2
      rw [e] at e1; cases e1
      exact e2
 cases hk : K.lookup a with
 | some o =>
  have e := KX a o hk
  rw [ha] at e
  cases e
  refine core (fun _ => none) (fun _ => .inl rfl) (.inr ⟨_, vs.toArray, _, hk, rfl, rfl, rfl, by rw [List.size_toArray, lenV]; exact hl, by simpa using rv⟩) (fun b u z => by have z' : (none : Option HO) = some u := z; cases z') (fun b z => absurd rfl z) fun z => absurd rfl z
 | none =>
  refine core (fun b => if b = a then some (.frz { cls := .type "list", data := .seq vs.toArray } (.lst (ns.map V.int))) else none) (fun b => ?_) (.inl (.inr ⟨{ cls := .type "list", data := .seq vs.toArray }, if_pos rfl⟩)) (fun b u z => ?_) (fun b z => ?_) fun _ => hk
  ·by_cases hb : b = a
   ·exact .inr ⟨_, _, if_pos hb⟩
   ·exact .inl (if_neg hb)
  ·by_cases hb : b = a
   ·have z' := (if_pos hb).symm.trans z
    cases z'
    subst hb
    exact ⟨ha, by rw [List.length_map]; exact hl, vs, _, rv, ha⟩
   ·have z' := (if_neg hb).symm.trans z
    cases z'
  ·by_cases hb : b = a
   ·exact hb
   ·exact absurd (if_neg hb) z
end L2
namespace L2
open PySem PySem.Spec PyProof.Rows
noncomputable abbrev KOf {K : PySem.W.Frag} {h : Heap} (_ : K.In h) : PySem.W.Frag := K
theorem walk_of {l : PySem.W.OpenLaw} {n k : Nat} {q : Program} {loose : List Str} {XP : (Str → Option Value) → Heap → Prop} {YP : World → Heap → Prop} {d : DefRec} {K : Params → PySem.W.Frag} {CX : World → CXT} {sp : World → Sp} {x : Str}
  (hn : l.most = some n) (hn2 : n ≤ sizeLine) (hdf : d.params.defaults = []) (hr : Room k callerA)
  (hY : ∀ (w : World) (h : Heap), YP w h → (K w.params).In h)
  (F : ∀ (w : World) (mg : Str → Option Value) (fa : Addr) (h : Heap), (K w.params).In h → h.Ns mainGlobals mg → mg d.name = some (.ref fa) →
   ∃ fd : FuncData, (∀ (s : Shared) (u : Value), BindsTo s fd ⟨[u], []⟩ [(x, u)]) ∧
    ∀ base : Heap, (K w.params).In base → base.Ns mainGlobals mg → FnOk l.prog w (K w.params) mg base (CX w) k fa fd [x] (sp w))
  (hsp : ∀ (w : World) (H : Hp) (a : Addr) (ns : List Int), ns.length ≤ n → Only H → SqL (K w.params) H a (ns.map V.int) → sp w [.ref a] H (fun v _ => v = .bl true) fun _ _ _ => False)
  (hCX : ∀ (w : World) (H : Hp) (s : Shared) (e : Value) (s' : Shared), CX w [] H s (fun _ _ _ => False) e s' → False) :
  PySem.W.WalkO q loose XP YP l.row.toRowW d [] (fun f vs => PySem.call f vs) := by
 refine Att.attach_call hn hdf fun w s₀ s₁ mg mb fa o pm cd doc a vs ns G Y ho hd hcd hmg hobj hints hlen hg => ?_
 have KX := hY w _ Y
 obtain ⟨fd, hb, hF⟩ := F w mg fa _ KX G.T.g hmg
 exact law_call KX G.T.g G.T.b G.T.builtins G.T.nolimit hg hobj hints (Nat.le_trans hlen hn2) hr hF hb (fun H hO hS => hsp w H a ns hlen hO hS) fun H e s' => hCX w H s₁ e s'
end L2
namespace L2
open PySem PySem.Spec PyProof.Rows
noncomputable def inClass (s : Stmt) (j : Nat) : Stmt := match s with
 | .ClassDef _ _ _ body _ _ _ _ _ _ _ => body.getD j (.Pass ⟨0, 0, 0, 0⟩)
 | _ => .Pass ⟨0, 0, 0, 0⟩
noncomputable def defArgs (s : Stmt) : Arguments := match s with
 | .FunctionDef _ a _ _ _ _ _ _ _ _ => a
 | _ => { posonlyargs := [], args := [], vararg := none, kwonlyargs := [], kw_defaults := [], kwarg := none, defaults := [] }
noncomputable def defBody (s : Stmt) : List Stmt := match s with
 | .FunctionDef _ _ b _ _ _ _ _ _ _ => b
 | _ => []
noncomputable def defScope (s : Stmt) : Scope := match s with
 | .FunctionDef _ _ _ _ _ _ sc _ _ _ => sc
 | _ => { kind := .function, names := [], isGenerator := false, isCoroutine := false }
noncomputable abbrev E0 : XK := fun _ _ _ => False
structure Fun (K : PySem.W.Frag) (x qual : Str) (st : Stmt) (f : Addr) (fd : FuncData) : Prop where
 ex : ∃ (oc : Value) (od : Option Addr) (kV doc pm : Value) (an : Option Addr) (cdv ct : Value) (osl : Array (Option Value)),
  fd = PySem.W.fnOf x qual (defArgs st) (defBody st) (defScope st) .none kV doc pm an cdv ct ∧ K.lookup f = some ⟨oc, od, .func fd, osl⟩ ∧ PySem.W.codeIn K cdv qual = true
 kp : PySem.W.keepIn K (.ref f) = true
section
variable {P : Program} {w : World} {K : PySem.W.Frag} {mg : Str → Option Value} {base : Heap}
theorem Fun.binds {x qual : Str} {st : Stmt} {f : Addr} {fd : FuncData} {ps : List Str} (F : Fun K x qual st f fd)
  (h : ∀ (kV doc pm : Value) (an : Option Addr) (cdv ct : Value) (us : List Value), us.length = ps.length → bindArgs (PySem.W.fnOf x qual (defArgs st) (defBody st) (defScope st) .none kV doc pm an cdv ct) ⟨us, []⟩ = pure (ps.zip us)) : Binds K fd ps [] := by
 obtain ⟨oc, od, kV, doc, pm, an, cdv, ct, osl, rfl, lk, hcd⟩ := F.ex
 exact .all (h kV doc pm an cdv ct)
theorem fun_mk {x qual : Str} {st : Stmt} {f : Addr} {oc : Value} {od an : Option Addr} {osl : Array (Option Value)} {kV doc pm cdv ct : Value} (l : K.lookup f = some ⟨oc, od, .func (PySem.W.fnOf x qual (defArgs st) (defBody st) (defScope st) .none kV doc pm an cdv ct), osl⟩)
  (c : PySem.W.codeIn K cdv qual = true) (k : PySem.W.keepIn K (.ref f) = true) : Fun K x qual st f (PySem.W.fnOf x qual (defArgs st) (defBody st) (defScope st) .none kV doc pm an cdv ct) := ⟨⟨oc, od, kV, doc, pm, an, cdv, ct, osl, rfl, l, c⟩, k⟩
end
theorem hu_of {A : Around} {k : Nat} (hr : Room k A) : A.units + 1 < cLine := Nat.lt_of_le_of_lt (Nat.add_le_add_left (by decide : 1 ≤ 64) _) hr.units
theorem small1000 {n : Nat} (h : n ≤ 1000) : n < sizeLine := Nat.lt_of_le_of_lt h (by decide)
section
variable {X : Cx}
theorem pv (i : Nat) {x : Str} {pos : Pos} (hN : X.N[i]? = some x := by rfl) (hv : Vis X.env.scope x := by first | exact Or.inl rfl | exact Or.inr (Or.inl rfl) | exact Or.inr (Or.inr rfl)) (hd : (x == ("__debug__" : Str)) = false := by decide)
  (hcd : (x == ("__classdict__" : Str)) = false := by decide) : PE X (.Name x pos) (tVar i) := pe_var hN hv hd hcd
end
theorem iteF {A B : Prop} (h : B) : if false = true then A else B := by
 rw [if_neg Bool.false_ne_true]
 exact h
theorem iteT {A B : Prop} (h : A) : if true = true then A else B := by
 rw [if_pos rfl]
 exact h
theorem ite2 {c A B : Prop} [Decidable c] (h1 : c → A) (h2 : ¬ c → B) : if c then A else B := by
 by_cases h : c
 ·rw [if_pos h]
  exact h1 h
 ·rw [if_neg h]
  exact h2 h
noncomputable def Same (H H' : Hp) : Prop := ∀ b o, H b = some o → H' b = some o
theorem Same.refl (H : Hp) : Same H H := fun _ _ h => h
theorem Same.trans {H H1 H2 : Hp} (a : Same H H1) (b : Same H1 H2) : Same H H2 := fun c o h => b c o (a c o h)
theorem Same.free {H H' : Hp} (e : Same H H') {l : Addr} (h : H' l = Option.none) : H l = Option.none := by
 cases q : H l with
 | none => rfl
 | some o =>
  rw [e l o q] at h
  cases h
theorem Same.seq {K : PySem.W.Frag} {H H' : Hp} {a : Addr} {xs : List V} (e : Same H H') (h : SqL K H a xs) : SqL K H' a xs := by
 rcases h with (h | ⟨o, h⟩) | h
 ·exact .inl (.inl (e _ _ h))
 ·exact .inl (.inr ⟨o, e _ _ h⟩)
 ·exact .inr h
section
variable {X : Cx}
theorem call_lenD : CallR X (.builtin "len") (fun xs H Q => ∃ a kvs, xs = [V.ref a] ∧ H a = some (.dK kvs) ∧ Q (.int kvs.length) H) := by
 intro pins s σ H xs us Q I r h
 obtain ⟨a, kvs, rfl, ha, q⟩ := h
 obtain ⟨u, rfl, ru⟩ := vals1 r
 cases ru
 exact d_len I (.inl ha) fun t s' I' => ⟨.int kvs.length, H, I', ⟨t, rfl⟩, q⟩
end
end L2
set_option maxHeartbeats 4000000
namespace L2
open PySem PySem.Spec PyProof.Rows
noncomputable def cloList (env : Env) : List (Str × NameKind) → List (Str × Addr) → List (Str × Addr)
 | [], acc => acc
 | (n, k) :: r, acc => if (k == NameKind.free) = true then (match env.cells.lookup n with
  | some c => cloList env r ((n, c) :: acc)
  | none => cloList env r acc) else cloList env r acc
theorem cloList_sound {env : Env} : ∀ (ns : List (Str × NameKind)) (acc : List (Str × Addr)), (∀ x c, acc.lookup x = some c → env.cells.lookup x = some c) →
  ∀ x c, (cloList env ns acc).lookup x = some c → env.cells.lookup x = some c
 | [], acc, h => h
 | (n, k) :: r, acc, h => by
  unfold cloList
  split
  ·cases e : env.cells.lookup n with
   | none => exact cloList_sound r acc h
   | some c =>
    refine cloList_sound r _ fun x d hx => ?_
    rw [List.lookup_cons] at hx
    cases hb : x == n with
    | true =>
     rw [hb] at hx
     cases hx
     rw [beq_iff_eq.mp hb]
     exact e
    | false =>
     rw [hb] at hx
     exact h x d hx
  ·exact cloList_sound r acc h
theorem cloList_keeps {env : Env} : ∀ (ns : List (Str × NameKind)) (acc : List (Str × Addr)) (x : Str), (∃ c, acc.lookup x = some c) → ∃ c, (cloList env ns acc).lookup x = some c
 | [], acc, x, h => h
 | (n, k) :: r, acc, x, h => by
  unfold cloList
  split
  ·cases e : env.cells.lookup n with
   | none => exact cloList_keeps r acc x h
   | some c =>
    refine cloList_keeps r _ x ?_
    rw [List.lookup_cons]
    cases hb : x == n with
    | true => exact ⟨c, rfl⟩
    | false => exact h
  ·exact cloList_keeps r acc x h
theorem cloList_has {env : Env} : ∀ (ns : List (Str × NameKind)) (acc : List (Str × Addr)) (x : Str), (x, NameKind.free) ∈ ns → (∃ c, env.cells.lookup x = some c) → ∃ c, (cloList env ns acc).lookup x = some c
 | [], acc, x, h, _ => by cases h
 | (n, k) :: r, acc, x, h, hc => by
  rcases List.mem_cons.mp h with e | h
  ·cases e
   obtain ⟨c, hc⟩ := hc
   unfold cloList
   rw [if_pos (show (NameKind.free == NameKind.free) = true by decide), hc]
   exact cloList_keeps r _ n ⟨c, by rw [List.lookup_cons, beq_self_eq_true]⟩
  ·unfold cloList
   split
   ·cases e : env.cells.lookup n with
    | none => exact cloList_has r acc x h hc
    | some c => exact cloList_has r _ x h hc
   ·exact cloList_has r acc x h hc
theorem cloFor_run {env : Env} (f : Str × NameKind → List (Str × Addr) → Sem (ForInStep (List (Str × Addr))))
  (hf : ∀ name kind cs, f (name, kind) cs = if (kind == NameKind.free) = true then (do let a ← cellOf env name; pure (.yield ((name, a) :: cs))) else pure (.yield cs)) :
  ∀ (ns : List (Str × NameKind)) (acc : List (Str × Addr)), (∀ y ∈ ns, y.2 = .free → ∃ c, env.cells.lookup y.1 = some c) → forIn ns acc f = pure (cloList env ns acc)
 | [], acc, _ => by rw [List.forIn_nil]; rfl
 | (n, k) :: r, acc, h => by
  rw [List.forIn_cons, hf]
  unfold cloList
  have hr : ∀ y ∈ r, y.2 = .free → ∃ c, env.cells.lookup y.1 = some c := fun y hy => h y (List.mem_cons_of_mem _ hy)
  split
  ·rename_i hk
   obtain ⟨c, hc⟩ := h (n, k) List.mem_cons_self (by simpa using hk)
   have hc' : env.cells.lookup n = some c := hc
   have e : cellOf env n = pure c := by unfold cellOf; rw [hc']
   rw [e, hc']
   exact cloFor_run f hf r ((n, c) :: acc) hr
  ·exact cloFor_run f hf r acc hr
theorem closure_run {env : Env} {scope : Scope} (h : ∀ y ∈ scope.names, y.2 = .free → ∃ c, env.cells.lookup y.1 = some c) : closureFor scope env = pure (cloList env scope.names []) := by
 unfold closureFor
 dsimp only
 rw [cloFor_run (env := env) _ (fun name kind cs => by split <;> rfl) scope.names [] h]
 rfl
theorem relabel_lookup (env : Env) : ∀ (names : List (Str × NameKind)) (x : Str),
  (names.map fun (n, k) => if (k == NameKind.free && env.scope.kind == .function && env.kindOf n == some .cell) then (n, NameKind.cell) else (n, k)).lookup x =
   (names.lookup x).map fun k => if (k == NameKind.free && env.scope.kind == .function && env.kindOf x == some .cell) = true then NameKind.cell else k
 | [], _ => rfl
 | (n, k) :: r, x => by
  have ih := relabel_lookup env r x
  have e : (if (k == NameKind.free && env.scope.kind == .function && env.kindOf n == some .cell) = true then (n, NameKind.cell) else (n, k)) = (n, if (k == NameKind.free && env.scope.kind == .function && env.kindOf n == some .cell) = true then NameKind.cell else k) := by split <;> rfl
  show List.lookup x ((if (k == NameKind.free && env.scope.kind == .function && env.kindOf n == some .cell) = true then (n, NameKind.cell) else (n, k)) :: _) = _
  rw [e, List.lookup_cons, List.lookup_cons]
  cases hx : x == n with
  | true =>
   have e2 : x = n := beq_iff_eq.mp hx
   subst e2
   rfl
  | false => exact ih
theorem relabel_free {env : Env} {names : List (Str × NameKind)} {x : Str} {k : NameKind} (hc : ∀ y ∈ names, y.2 ≠ .cell)
  (h : (names.map fun (n, k) => if (k == NameKind.free && env.scope.kind == .function && env.kindOf n == some .cell) then (n, NameKind.cell) else (n, k)).lookup x = some k) (hk : k = .cell ∨ k = .free) : names.lookup x = some .free := by
 rw [relabel_lookup] at h
 cases e : names.lookup x with
 | none => rw [e] at h; cases h
 | some k' =>
  rw [e] at h
  have hk' : k' ≠ .cell := hc _ (PySem.mem_of_lookup e)
  have h' : (if (k' == NameKind.free && env.scope.kind == .function && env.kindOf x == some .cell) = true then NameKind.cell else k') = k := Option.some.inj h
  split at h'
  ·rename_i q
   simp only [Bool.and_eq_true, beq_iff_eq] at q
   rw [q.1.1]
  ·subst h'
   rcases hk with z | z
   ·exact absurd z hk'
   ·rw [z]
theorem relabel_nolocal {env : Env} {names : List (Str × NameKind)} {x : Str} (h : names.lookup x = some .free) :
  (names.map fun (n, k) => if (k == NameKind.free && env.scope.kind == .function && env.kindOf n == some .cell) then (n, NameKind.cell) else (n, k)).lookup x ≠ some .local := by
 rw [relabel_lookup, h]
 intro z
 have z' : (if (NameKind.free == NameKind.free && env.scope.kind == .function && env.kindOf x == some .cell) = true then NameKind.cell else NameKind.free) = .local := Option.some.inj z
 split at z' <;> cases z'
noncomputable def blkCx (X : Cx) (N' : List Str) (scope : Scope) (C : Addr) (s₀ : Shared) (H₀ : Hp) (ex : List Addr) : Cx :=
 { X with N := N', s₀ := s₀, H₀ := H₀, env := compEnvC scope (cloList X.env scope.names []) C X.env, outer := X.stack, ex := ex, fn := fun _ => false, pn := [], xe := fun _ _ => False }
noncomputable def FvOk (X : Cx) (scope : Scope) : List (Str × Nat) → Prop
 | [] => True
 | (x, j) :: r => (X.N[j]? = some x ∧ scope.names.lookup x = some .free ∧ (X.env.kindOf x = some .cell ∨ X.env.kindOf x = some .free)) ∧ FvOk X scope r
theorem FvOk.mem {X : Cx} {scope : Scope} : ∀ {l : List (Str × Nat)}, FvOk X scope l → ∀ y ∈ l, X.N[y.2]? = some y.1 ∧ scope.names.lookup y.1 = some .free ∧ (X.env.kindOf y.1 = some .cell ∨ X.env.kindOf y.1 = some .free)
 | [], _, _, h => by cases h
 | (x, j) :: r, h, y, hy => by
  rcases List.mem_cons.mp hy with e | hy
  ·cases e; exact h.1
  ·exact FvOk.mem h.2 y hy
noncomputable def blkN (ts : List Str) (fv : List (Str × Nat)) : List Str := ts ++ fv.map (·.1)
noncomputable def blkS (ts : List Str) (fv : List (Str × Nat)) (σ : St) : St := ts.map (fun _ => none) ++ fv.map fun y => (σ[y.2]?).join
structure BlkOk (X : Cx) (scope : Scope) (fv : List (Str × Nat)) : Prop where
 kind : scope.kind = .function
 nocell : ∀ y ∈ scope.names, y.2 ≠ .cell
 names : ∀ y ∈ scope.names, y.2 = .local → scope.names.lookup y.1 = some .local
 free : ∀ y ∈ scope.names, y.2 = .free → X.env.kindOf y.1 = some .cell ∨ X.env.kindOf y.1 = some .free
 fvs : FvOk X scope fv
section
variable {X : Cx} {pins : List (Addr × Obj)} {σ : St} {H : Hp} {s : Shared} {scope : Scope} {ts : List Str} {fv : List (Str × Nat)}
theorem blk_start {h' : Heap} {fp : List Addr} {tk : Nat} (B : BlkOk X scope fv) (I : Inv X pins σ H s) (hf : ∀ b ∈ fp, FpOk X pins H b) (ho : ∀ b ∈ fp, ∃ o, s.heap.get? b = some o)
  (hn : h'.Ns s.heap.objs.size (fun _ => none)) (hk : ∀ b o, s.heap.get? b = some o → h'.get? b = some o) :
  Inv (blkCx X (blkN ts fv) scope s.heap.objs.size s H fp) [] (blkS ts fv σ) H { s with heap := h', toks := tk } := by
 have has : ∀ y ∈ scope.names, y.2 = .free → ∃ c, X.env.cells.lookup y.1 = some c := fun y hy e => I.ok.has y.1 (B.free y hy e)
 have snd : ∀ x c, (cloList X.env scope.names []).lookup x = some c → X.env.cells.lookup x = some c := cloList_sound _ _ (fun x c h => by simp at h)
 have fr : ∀ x, (scope.names.lookup x = some .free) → ∃ c, (cloList X.env scope.names []).lookup x = some c := fun x hx =>
  cloList_has _ _ x (PySem.mem_of_lookup hx) (has _ (PySem.mem_of_lookup hx) rfl)
 have nfs : ∀ b ∈ fp, b ∉ frs X.stack := fun b hb z => by
  obtain ⟨_, h1, h2, _⟩ := hf b hb
  rcases List.mem_cons.mp (I.stkSub b z) with e | e
  ·exact h1 e
  ·exact h2 e
 have lt : ∀ b ∈ fp, b < s.heap.objs.size := fun b hb => let ⟨o, e⟩ := ho b hb; Heap.lt_size e
 refine ⟨⟨I.ok.mod, ?_, I.ok.glob, I.ok.blt, Nat.le_refl _, fun x y c h1 h2 => I.ok.inj x y c (snd x c h1) (snd y c h2), fun x hx => ?_, fun _ _ h => absurd (show false = true from h) Bool.false_ne_true, I.ok.hd, I.ok.frames, .inl rfl, fun b hb => ⟨Nat.ne_of_lt (lt b hb), fun x c e => (hf b hb).2.2.2.2.1 x c (snd x c e)⟩, I.bs, Nat.le_trans I.ok.bsz I.sz, fun b o e hb => ?_, nfs, I.stack, I.stkFree⟩,
  rfl, I.bare, Un.kept hk, ⟨_, hn, fun i x v h1 h2 h3 => ?_⟩, fun x c e => ?_, I.fresh, fun x c e => I.freeC x c (snd x c e), fun p hp => ?_, I.hok.kept hk, ?_⟩
 ·exact B.kind
 ·refine fr x ?_
  have hx' : (relabel scope X.env).names.lookup x = some .cell ∨ (relabel scope X.env).names.lookup x = some .free := hx
  rcases hx' with e | e
  ·exact relabel_free B.nocell e (.inl rfl)
  ·exact relabel_free B.nocell e (.inr rfl)
 ·rcases (hf b hb).2.2.2.1 with z | z
  ·exact I.ok.noex b o e z
  ·exact absurd (Nat.lt_of_lt_of_le (Heap.lt_size e) (Nat.le_trans I.ok.bsz z)) (Nat.lt_irrefl _)
 ·have h1 : (ts ++ fv.map (·.1))[i]? = some x := h1
  have h2 : (ts.map (fun _ => (none : Option V)) ++ fv.map fun y => (σ[y.2]?).join)[i]? = some (some v) := h2
  by_cases hi : i < ts.length
  ·rw [List.getElem?_append_left (by simpa using hi), List.getElem?_map] at h2
   cases e : ts[i]? with
   | none => rw [e] at h2; cases h2
   | some z => rw [e] at h2; cases h2
  ·rw [List.getElem?_append_right (by simpa using hi), List.length_map, List.getElem?_map] at h2
   rw [List.getElem?_append_right (by simpa using hi), List.getElem?_map] at h1
   cases e : fv[i - ts.length]? with
   | none => rw [e] at h2; cases h2
   | some y =>
    rw [e] at h1 h2
    have e1 : y.1 = x := by simpa using h1
    have e2 : (σ[y.2]?).join = some v := by simpa using h2
    obtain ⟨f1, f2, f3⟩ := B.fvs.mem y (List.mem_of_getElem? e)
    have e3 : σ[y.2]? = some (some v) := by
     cases q : σ[y.2]? with
     | none => rw [q] at e2; cases e2
     | some z => rw [q] at e2; exact congrArg some e2
    obtain ⟨m, hm, hl⟩ := I.loc
    obtain ⟨u, r, l⟩ := hl y.2 y.1 v f1 e3 (by rcases f3 with z | z; exact .inr (.inl z); exact .inr (.inr z))
    rw [e1] at f2 f3 l
    refine ⟨u, r, ?_⟩
    obtain ⟨c, hc⟩ := fr x f2
    have hc' := snd x c hc
    rcases l with ⟨l1, _⟩ | ⟨_, c2, l2, l3⟩
    ·rcases f3 with z | z
     ·rw [l1] at z; cases z
     ·rw [l1] at z; cases z
    ·rw [hc'] at l2
     cases l2
     have hv : Vis (relabel scope X.env) x := h3
     rcases hv with z | z | z
     ·exfalso
      exact relabel_nolocal f2 z
     ·exact .inr ⟨.inl z, c, hc, l3.keeps hk⟩
     ·exact .inr ⟨.inr z, c, hc, l3.keeps hk⟩
 ·obtain ⟨v, z⟩ := I.cell x c (snd x c e)
  exact ⟨v, z.keeps hk⟩
 ·exact absurd (show p ∈ ([] : List (Addr × Obj)) from hp) (by simp)
 ·show (ts.map (fun _ => (none : Option V)) ++ fv.map fun y => (σ[y.2]?).join).length = (ts ++ fv.map (·.1)).length
  simp
theorem Inv.apart {C : Addr} {h' : Heap} (I : Inv X pins σ H s) (hs : Heap.SameBut C s.heap h') (hC : H C = none) (h0 : X.s₀.heap.objs.size ≤ C) (hL : C ≠ X.env.locals) (hc : ∀ x c, X.env.cells.lookup x = some c → c ≠ C) (hp : ∀ p ∈ X.pn ++ pins, p.1 ≠ C) :
  Inv X pins σ H { s with heap := h' } :=
 I.turned (t' := s.toks) (it := C) (fun b o hb e => (hs.2 b hb).trans e) hC hL (.inr h0) hc hp
theorem blk_end {s' : Shared} {H' : Hp} {σ' : St} {C : Addr} {N' : List Str} {fp : List Addr} (I : Inv X pins σ H s) (hf : ∀ b ∈ fp, FpOk X pins H b) (hC : s.heap.objs.size ≤ C)
  (J : Inv (blkCx X N' scope C s H fp) [] σ' H' s') : Inv X pins σ H' s' ∧ H' C = none ∧ X.s₀.heap.objs.size ≤ C ∧ C ≠ X.env.locals ∧ (∀ x c, X.env.cells.lookup x = some c → c ≠ C) ∧ (∀ p ∈ X.pn ++ pins, p.1 ≠ C) := by
 refine ⟨I.call' J.os J.base J.hok J.bare fun b hb => ?_, J.free, Nat.le_trans I.sz hC, Nat.ne_of_gt (Nat.lt_of_lt_of_le I.lt hC), fun x c e z => ?_, fun p hp z => ?_⟩
 ·obtain ⟨_, h1, _, h3, h4, h5⟩ := hf b hb
  exact ⟨h3, h1, h4, h5⟩
 ·obtain ⟨v, q⟩ := I.cell x c e
  exact absurd (Nat.lt_of_lt_of_le q.lt (by rw [z]; exact hC)) (Nat.lt_irrefl _)
 ·exact absurd (Nat.lt_of_lt_of_le (Heap.lt_size (I.pin p hp).1) (by rw [z]; exact hC)) (Nat.lt_irrefl _)
end
end L2
set_option maxHeartbeats 4000000
namespace L2
open PySem PySem.Spec PyProof.Rows
noncomputable abbrev TB := St → Hp → (St → Hp → Prop) → Prop
noncomputable def PTs (X : Cx) (ifs : List Expr) (t : TT) : Prop :=
 ∀ (pins : List (Addr × Obj)) (s : Shared) (σ : St) (H : Hp) (Q : Bool → Hp → Prop), Inv X pins σ H s → t σ H Q →
  wpAny (model X.prog X.w) X.A (forIn ifs true fun c r => if r = true then do let ok ← isTrue c X.env (eval c X.env); pure (ForInStep.yield ok) else pure (ForInStep.yield r)) (TP X pins σ Q) X.xe s
noncomputable def tYes : TT := fun _ H Q => Q true H
theorem pts_nil {X : Cx} : PTs X [] tYes := fun pins s σ H Q I h => wpAny_tests_nil ⟨H, I, h⟩
theorem pts_one {X : Cx} {c : Expr} {t : TT} (h : PT X c t) : PTs X [c] t := fun pins s σ H Q I hq => wpAny_tests_one (h pins s σ H Q I hq)
noncomputable def PB (X : Cx) (kont : Sem Fin) (c : Code) (t : TB) : Prop :=
 ∀ (pins : List (Addr × Obj)) (s : Shared) (σ : St) (H : Hp) (N : St → Hp → Prop), Inv X pins σ H s → t σ H N →
  wpAny (model X.prog X.w) X.A kont (fun fin s' => fin = .again c ∧ ∃ σ' H', Inv X pins σ' H' s' ∧ N σ' H') X.xe s
noncomputable def LoopR (J : It) (g : TG) (tt : TT) (tb : TB) (R : St → Hp → Prop) (σ : St) (H : Hp) : Prop :=
 ∃ W : Nat → Nat → St → Hp → Prop, (∃ m, W 0 m σ H) ∧ ∀ i m σ H, W i m σ H →
  (J.stop i H ∧ R σ H) ∨ (J.go i H ∧ ∃ N : St → Hp → Prop, (∀ σ' H', N σ' H' → ∃ m', m' < m ∧ W (i + 1) m' σ' H') ∧
   ∀ x H', J.yld i H x H' → g x σ H' fun σ2 H2 => tt σ2 H2 fun b H3 => if b = true then tb σ2 H3 N else N σ2 H3)
section
variable {X : Cx}
theorem comp_loop {e tg : Expr} {d : Nat} {acc : Value} {ifs : List Expr} {kont : Sem Fin} {J : It} {fp : List Addr} {it : Addr} {tn : Nat → Heap → Prop} {g : TG} {tt : TT} {tb : TB} {p : Pos} {pins : List (Addr × Obj)} {s : Shared} {σ : St} {H : Hp} {R : St → Hp → Prop}
  {RR : Result → Shared → Prop} (hxe : X.xe = fun _ _ => False)
  (hcq : Code.quiet (.compLoop e d (.ref it) acc X.env) = true) (hden : (model X.prog X.w).den (.compLoop e d (.ref it) acc X.env) = (compTurn e d (.ref it) acc X.env).onRaise (fun x => do noteFrame x X.env; theTreesLotGoes x))
  (hund : X.A.under (.compLoop e d (.ref it) acc X.env) = X.A)
  (heq : compTurn e d (.ref it) acc X.env = (standAt p >>= fun _ => pyNext (.ref it) >>= fun r => match r with
   | none => pure (.done .next)
   | some v => letOwnedTupleGo tg (.ref it) v >>= fun _ => assign tg X.env v >>= fun _ =>
    (forIn ifs true fun c r => if r = true then do let ok ← isTrue c X.env (eval c X.env); pure (ForInStep.yield ok) else pure (ForInStep.yield r)) >>= fun ok =>
     if ok = true then kont else again (.compLoop e d (.ref it) acc X.env)))
  (T : Turn X.prog X.w X.K tg J fp it tn) (hc : X.calm = true) (hg : PG X tg g) (ht : PTs X ifs tt) (hb : PB X kont (.compLoop e d (.ref it) acc X.env) tb)
  (hf : ∀ b ∈ fp, FpOk X pins H b) (I : Inv X pins σ H s) (st : tn 0 s.heap) (h : LoopR J g tt tb R σ H)
  (hR : ∀ s' σ' H', Inv X pins σ' H' s' → R σ' H' → RR (.ok .next) s') :
  codeAny (model X.prog X.w) X.A (.compLoop e d (.ref it) acc X.env) RR s := by
 obtain ⟨W, ⟨m0, w0⟩, turn⟩ := h
 have stat : ∀ {H' : Hp}, (∀ b ∈ fp, H' b = none) → ∀ b ∈ fp, FpOk X pins H' b := fun hn b hb => ⟨hn b hb, (hf b hb).2⟩
 refine codeAny_loop hcq (fun n s' => ∃ i σ' H', Inv X pins σ' H' s' ∧ tn i s'.heap ∧ (∀ b ∈ fp, H' b = none) ∧ W i n σ' H') ?_ m0 ⟨0, σ, H, I, st, fun b hb => (hf b hb).1, w0⟩
 rintro n s3 ⟨i, σ3, H3, I3, st3, fr3, w3⟩
 rw [hden, hund]
 refine wpAny_noted (wpAny_mono (E := fun _ _ => False) ?_ (fun _ _ q => q) fun _ _ z => z.elim)
 rw [heq]
 have hxe' : ∀ {α : Type} {t : Sem α} {Q : α → Shared → Prop} {s : Shared}, wpAny (model X.prog X.w) X.A t Q X.xe s → wpAny (model X.prog X.w) X.A t Q (fun _ _ => False) s := fun h => by rw [hxe] at h; exact h
 refine wpAny_bind (wpAny_standAt (wpAny_bind ?_))
 rcases turn i n σ3 H3 w3 with ⟨stop, qn⟩ | ⟨go, N, hN, step⟩
 ·refine thn (T.done X rfl rfl rfl hc i pins s3 σ3 H3 _ I3 (stat fr3) st3 stop) fun r s4 ⟨hr, I4⟩ => ?_
  subst hr
  exact wpAny_pure (hR s4 σ3 H3 I4 qn)
 ·refine thn (T.item X rfl rfl rfl hc i pins s3 σ3 H3 _ I3 (stat fr3) st3 go) fun r s4 ⟨u, hr, h4⟩ => ?_
  subst hr
  refine wpAny_bind (thn h4 fun _ s5 zz9 => ?_)
  obtain ⟨x, H5, I5, r5, y5, st5, fr5⟩ := zz9
  have I5' := I5.pinned (stat fr5) (T.obj _ _ st5)
  refine wpAny_bind (hxe' (thn (hg _ s5 σ3 H5 x u _ I5' r5 (step x H5 y5)) fun _ s6 zz9 => ?_))
  obtain ⟨σ6, H6, I6, q6⟩ := zz9
  refine wpAny_bind (hxe ▸ thn (ht _ s6 σ6 H6 _ I6 q6) fun ok s7 zz9 => ?_)
  obtain ⟨H7, I7, q7⟩ := zz9
  have back : ∀ {σ7 : St} {H7 : Hp} {s7 : Shared}, Inv X (pins ++ pinsAt fp s5.heap) σ7 H7 s7 → N σ7 H7 → ∃ m, m < n ∧ ∃ i σ' H', Inv X pins σ' H' s7 ∧ tn i s7.heap ∧ (∀ b ∈ fp, H' b = none) ∧ W i m σ' H' := fun {σ7 H7 s7} I7 n7 => by
   obtain ⟨m', hm, w7⟩ := hN σ7 H7 n7
   refine ⟨m', hm, i + 1, σ7, H7, I7.unpinned, T.keep _ _ _ st5 fun b hb o e => (I7.pin (b, o) (List.mem_append_right _ (List.mem_append_right _ (mem_pinsAt hb e)))).1, fun b hb => ?_, w7⟩
   obtain ⟨o, e, d⟩ := T.obj _ _ st5 b hb
   exact (I7.pin (b, o) (List.mem_append_right _ (List.mem_append_right _ (mem_pinsAt hb e)))).2.1
  cases ok with
  | false => exact hxe ▸ wpAny_pure ⟨rfl, back I7 q7⟩
  | true =>
   refine thn (hb _ s7 σ6 H7 N I7 q7) fun fin s8 zz9 => ?_
   obtain ⟨hfin, σ8, H8, I8, q8⟩ := zz9
   subst hfin
   exact ⟨rfl, back I8 q8⟩
end
end L2
set_option maxHeartbeats 4000000
namespace L2
open PySem PySem.Spec PyProof.Rows
noncomputable def tEmit (te : TE) (D : Addr) : TB := fun σ H N => te σ H fun v H1 => ∃ xs, H1 D = some (.lst xs) ∧ xs.length < sizeLine ∧ N σ (upd H1 D (.lst (xs ++ [v])))
section
variable {X : Cx}
theorem pb_emit {elt : Expr} {te : TE} {D : Addr} {c : Code} (he : PE X elt te) :
  PB X ((eval elt X.env >>= fun x => call (.builtin "list.append") [.ref D, x] >>= fun _ => pure ()) >>= fun _ => again c) c (tEmit te D) := by
 intro pins s σ H N I h
 refine wpAny_bind (wpAny_bind (thn (he pins s σ H _ I h) fun u s1 zz9 => ?_))
 obtain ⟨v, H1, I1, r1, q1⟩ := zz9
 obtain ⟨xs, hD, hl, q⟩ := q1
 refine wpAny_bind (thn (mt_append pins s1 σ H1 (.ref D) [v] (.ref D) [u] (fun _ H2 => N σ H2) I1 rfl (.cons r1 .nil) ⟨D, xs, v, rfl, rfl, hD, hl, q⟩) fun _ s2 zz9 => ?_)
 obtain ⟨_, H2, I2, _, q2⟩ := zz9
 exact wpAny_pure (wpAny_pure ⟨rfl, σ, H2, I2, q2⟩)
noncomputable def tGen (wi : TI) (g : TG) (tt : TT) (tb : TB) : TB := fun σ H N => wi σ H fun J H1 => LoopR J g tt tb N σ H1
theorem compStart1 {prog : Program} {w : World} {A : Around} {R : Result → Shared → Prop} {s : Shared} {elt : Expr} {t0 i0 : Expr} {f0 : List Expr} {t1 i1 : Expr} {f1 : List Expr} {scope : Scope} {pos : Pos} {it acc : Value} {env : Env}
  (h0 : codeAny (model prog w) A (.compLoop (.ListComp elt [⟨t0, i0, f0, 0⟩, ⟨t1, i1, f1, 0⟩] scope pos) 1 it acc env) R s)
  (h : wpAny (model prog w) A (pyIter it) (fun it' s' => codeAny (model prog w) A (.compLoop (.ListComp elt [⟨t0, i0, f0, 0⟩, ⟨t1, i1, f1, 0⟩] scope pos) 1 it' acc env) R s')
   (notedBy (model prog w) A env fun x s' => R (.error x) s') s) :
  codeAny (model prog w) A (.compStart (.ListComp elt [⟨t0, i0, f0, 0⟩, ⟨t1, i1, f1, 0⟩] scope pos) 1 it acc env) R s := by
 refine codeAny_of_tree ?_
 show wpAny _ _ ((compStart (.ListComp elt [⟨t0, i0, f0, 0⟩, ⟨t1, i1, f1, 0⟩] scope pos) 1 it acc env).onRaise (fun x => do noteFrame x env; standAt theWindowsPlace)) _ _ s
 refine wpAny_notedAt ?_
 unfold compStart
 show wpAny _ _ (ask >>= _) _ _ s
 refine wpAny_bind (wpAny_askSetting (wpAny_ite ?_))
 split
 ·first
   | exact wpAny_bind (wpAny_pure (wpAny_pure (And.intro rfl h0)))
   | exact wpAny_pure (And.intro rfl h0)
 ·first
   | exact wpAny_bind (wpAny_rule (wpAny_bind (wpAny_standAt (wpAny_bind (wpAny_mono h (fun it' s' h' => wpAny_pure (And.intro rfl h')) fun _ _ x => x)))))
   | (refine wpAny_bind (wpAny_rule ?_); show wpAny _ _ (standAt i1.pos >>= _) _ _ s; exact wpAny_bind (wpAny_standAt (wpAny_bind (wpAny_mono h (fun it' s' h' => wpAny_pure (And.intro rfl h')) fun _ _ x => x))))
theorem pb_gen {elt t0 i0 t1 i1 : Expr} {f0 f1 : List Expr} {scope : Scope} {pos : Pos} {D : Addr} {c : Code} {wi : TI} {g : TG} {tt : TT} {te : TE} (hxe : X.xe = fun _ _ => False) (hc : X.calm = true)
  (hi : PI X t1 i1 wi) (hg : PG X t1 g) (ht : PTs X f1 tt) (he : PE X elt te) (hs : ∀ x, foldedSetIterable i1 X.env x = pure x := by intro _; rfl) :
  PB X (eval i1 X.env >>= fun x => standAt i1.pos >>= fun _ => foldedSetIterable i1 X.env x >>= fun x => holding [x] (pyIter x) >>= fun it =>
   runOwn (.compStart (.ListComp elt [⟨t0, i0, f0, 0⟩, ⟨t1, i1, f1, 0⟩] scope pos) 1 it (.ref D) X.env) X.env >>= fun _ => again c) c (tGen wi g tt (tEmit te D)) := by
 intro pins s σ H N I h
 refine wpAny_bind (thn (hi pins s σ H _ I h) fun v s1 h1 => wpAny_bind (wpAny_standAt ?_))
 rw [hs]
 refine wpAny_bind (wpAny_pure (wpAny_bind (wpAny_holding (thn h1 fun itv s2 h2 => ?_))))
 obtain ⟨it, fp, tn, J, H2, e, I2, T, st2, f2, L⟩ := h2
 subst e
 have loop : ∀ (A : Around), A = X.A → codeAny (model X.prog X.w) A (.compLoop (.ListComp elt [⟨t0, i0, f0, 0⟩, ⟨t1, i1, f1, 0⟩] scope pos) 1 (.ref it) (.ref D) X.env)
   (fun r s' => match r with | .ok f => wpAny (model X.prog X.w) X.A (again c) (fun fin s' => fin = .again c ∧ ∃ σ' H', Inv X pins σ' H' s' ∧ N σ' H') X.xe s' | .error e => cameBackBy (model X.prog X.w) X.A X.env X.xe e s') s2 := by
  rintro A rfl
  exact comp_loop (tg := t1) (ifs := f1) (R := N) hxe rfl rfl rfl rfl T hc hg ht (pb_emit (c := .compLoop (.ListComp elt [⟨t0, i0, f0, 0⟩, ⟨t1, i1, f1, 0⟩] scope pos) 1 (.ref it) (.ref D) X.env) he) f2 I2 st2 L fun s' σ' H' I' q => wpAny_pure ⟨rfl, σ', H', I', q⟩
 refine wpAny_bind (wpAny_runOwn (h := none) ?_)
 exact compStart1 (loop _ rfl) (T.self _ _ _ _ _ st2 (loop _ rfl))
end
end L2
set_option maxHeartbeats 4000000
namespace L2
open PySem PySem.Spec PyProof.Rows
noncomputable def tComp (ts : List Str) (fv : List (Str × Nat)) (wi : TI) (g : TG) (tt : TT) (tb : Addr → TB) : TE := fun σ H Q => wi σ H fun J H1 => ∀ D, H1 D = none →
 LoopR J g tt (tb D) (fun _ H' => Q (.ref D) H') (blkS ts fv σ) (upd H1 D (.lst []))
section
variable {X : Cx} {ts : List Str} {fv : List (Str × Nat)} {scope : Scope} {elt t0 i0 : Expr} {f0 : List Expr} {rest : List Comprehension} {pos : Pos} {wi : TI} {g : TG} {tt : TT} {tb : Addr → TB} {kont : Env → Addr → Addr → Sem Fin}
theorem comp_core (B : BlkOk X scope fv) (hc : X.calm = true) (hi : PI X t0 i0 wi)
  (hg : ∀ C s₀ H₀ ex, PG (blkCx X (blkN ts fv) scope C s₀ H₀ ex) t0 g) (ht : ∀ C s₀ H₀ ex, PTs (blkCx X (blkN ts fv) scope C s₀ H₀ ex) f0 tt)
  (heq : ∀ (env : Env) (it D : Addr), compTurn (.ListComp elt (⟨t0, i0, f0, 0⟩ :: rest) scope pos) 0 (.ref it) (.ref D) env = (standAt i0.pos >>= fun _ => pyNext (.ref it) >>= fun r => match r with
   | none => pure (.done .next)
   | some v => letOwnedTupleGo t0 (.ref it) v >>= fun _ => assign t0 env v >>= fun _ =>
    (forIn f0 true fun c r => if r = true then do let ok ← isTrue c env (eval c env); pure (ForInStep.yield ok) else pure (ForInStep.yield r)) >>= fun ok =>
     if ok = true then kont env it D else again (.compLoop (.ListComp elt (⟨t0, i0, f0, 0⟩ :: rest) scope pos) 0 (.ref it) (.ref D) env)))
  (hb : ∀ C s₀ H₀ ex it D, PB (blkCx X (blkN ts fv) scope C s₀ H₀ ex) (kont (blkCx X (blkN ts fv) scope C s₀ H₀ ex).env it D) (.compLoop (.ListComp elt (⟨t0, i0, f0, 0⟩ :: rest) scope pos) 0 (.ref it) (.ref D) (blkCx X (blkN ts fv) scope C s₀ H₀ ex).env) (tb D))
  {pins : List (Addr × Obj)} {s : Shared} {σ : St} {H : Hp} {Q : VK} {RR : Value → Addr → Result → Shared → Prop} (I : Inv X pins σ H s) (h : tComp ts fv wi g tt tb σ H Q)
  (hRR : ∀ D C s' H', Inv X pins σ H' s' → H' C = none → X.s₀.heap.objs.size ≤ C → C ≠ X.env.locals → (∀ x c, X.env.cells.lookup x = some c → c ≠ C) → (∀ p ∈ X.pn ++ pins, p.1 ≠ C) → (∃ m, s'.heap.Ns C m) → Q (.ref D) H' → RR (.ref D) C (.ok .next) s') :
  wpAny (model X.prog X.w) X.A (eval i0 X.env) (fun x s₁ => wpAny (model X.prog X.w) X.A (pyIter x) (fun it s₂ => wpAny (model X.prog X.w) X.A (newList []) (fun acc s₃ =>
   wpAny (model X.prog X.w) X.A (newFunctionEnv scope X.env.globals (cloList X.env scope.names []) [] X.env.qual none .none (some X.env)) (fun cenv s₄ =>
    codeAny (model X.prog X.w) X.A (.compStart (.ListComp elt (⟨t0, i0, f0, 0⟩ :: rest) scope pos) 0 it acc { cenv with scope := relabel scope X.env }) (RR acc cenv.locals) s₄) X.xe s₃) X.xe s₂) X.xe s₁) X.xe s := by
 refine thn (hi pins s σ H _ I h) fun v s1 h1 => thn h1 fun itv s2 h2 => ?_
 obtain ⟨it, fp, tn, J, H2, e, I2, T, st2, f2, L⟩ := h2
 subst e
 have L := L s2.heap.objs.size I2.fresh
 refine wpAny_newObj_type ?_
 have I3 : Inv X pins σ (upd H2 s2.heap.objs.size (.lst [])) { s2 with heap := s2.heap.push { cls := .type "list", data := .seq ([] : List Value).toArray }, toks := s2.toks } := I2.lnew (its := []) (t' := s2.toks) .nil (Nat.zero_le _)
 have ho2 : ∀ b ∈ fp, ∃ o, s2.heap.get? b = some o ∧ ∀ v, o.data ≠ .cell v := T.obj _ _ st2
 have f3 : ∀ b ∈ fp, FpOk X pins (upd H2 s2.heap.objs.size (.lst [])) b := fun b hb => by
  obtain ⟨o, ho, _⟩ := ho2 b hb
  refine ⟨?_, (f2 b hb).2⟩
  rw [upd_ne (Nat.ne_of_lt (Heap.lt_size ho))]
  exact (f2 b hb).1
 have st3 : tn 0 (s2.heap.push { cls := .type "list", data := .seq ([] : List Value).toArray }) := T.keep _ _ _ st2 fun b _ o e => Heap.get?_push_of_some _ e
 have ho3 : ∀ b ∈ fp, ∃ o, (s2.heap.push { cls := .type "list", data := .seq ([] : List Value).toArray }).get? b = some o := fun b hb => let ⟨o, e, _⟩ := ho2 b hb; ⟨o, Heap.get?_push_of_some _ e⟩
 generalize hs3 : ({ s2 with heap := s2.heap.push { cls := .type "list", data := .seq ([] : List Value).toArray }, toks := s2.toks } : Shared) = s3 at I3
 have eh : s2.heap.push { cls := .type "list", data := .seq ([] : List Value).toArray } = s3.heap := by rw [← hs3]
 rw [eh] at st3 ho3
 refine wpAny_newFunctionEnv B.nocell (by intro y hy; simp at hy) (fun h₁ hns hsb => ?_) B.kind
 have hk : ∀ b o, s3.heap.get? b = some o → h₁.get? b = some o := fun b o e => hsb.extBut b o (Nat.ne_of_lt (Heap.lt_size e)) (Heap.get?_push_of_some _ e)
 have I4 := blk_start (ts := ts) (tk := s3.toks + ([] : List (Str × Value)).length) B I3 f3 ho3 hns hk
 have f4 : ∀ b ∈ fp, FpOk (blkCx X (blkN ts fv) scope s3.heap.objs.size s3 (upd H2 s2.heap.objs.size (.lst [])) fp) [] (upd H2 s2.heap.objs.size (.lst [])) b := fun b hb => by
  obtain ⟨f0, f1, f2', f3', f4', f5'⟩ := f3 b hb
  obtain ⟨o, eo⟩ := ho3 b hb
  exact ⟨f0, Nat.ne_of_lt (Heap.lt_size eo), I4.ok.exfs b hb, .inl hb, (I4.ok.exf b hb).2, fun p hp => absurd (show p ∈ ([] : List (Addr × Obj)) from hp) (by simp)⟩
 have st4 : tn 0 h₁ := T.keep _ _ _ st3 fun b _ o e => hk b o e
 have loop : codeAny (model X.prog X.w) X.A (.compLoop (.ListComp elt (⟨t0, i0, f0, 0⟩ :: rest) scope pos) 0 (.ref it) (.ref s2.heap.objs.size) (blkCx X (blkN ts fv) scope s3.heap.objs.size s3 (upd H2 s2.heap.objs.size (.lst [])) fp).env)
   (RR (.ref s2.heap.objs.size) s3.heap.objs.size) { s3 with heap := h₁, toks := s3.toks + ([] : List (Str × Value)).length } := by
  refine comp_loop (X := blkCx X (blkN ts fv) scope s3.heap.objs.size s3 (upd H2 s2.heap.objs.size (.lst [])) fp) (tg := t0) (ifs := f0) (R := fun _ H' => Q (.ref s2.heap.objs.size) H') rfl rfl rfl rfl (heq _ it s2.heap.objs.size) T hc (hg _ _ _ _) (ht _ _ _ _) (hb _ _ _ _ it s2.heap.objs.size) f4 I4 st4 L fun s' σ' H' J' q => ?_
  obtain ⟨e1, e2, e3, e4, e5, e6⟩ := blk_end I3 f3 (Nat.le_refl _) J'
  obtain ⟨m, hm, _⟩ := J'.loc
  exact hRR _ _ s' H' e1 e2 e3 e4 e5 e6 ⟨m, hm⟩ q
 exact codeAny_compStart_list loop (T.self _ _ _ _ _ st4 loop)
theorem pe_compG (B : BlkOk X scope fv) (hc : X.calm = true) (hi : PI X t0 i0 wi)
  (hg : ∀ C s₀ H₀ ex, PG (blkCx X (blkN ts fv) scope C s₀ H₀ ex) t0 g) (ht : ∀ C s₀ H₀ ex, PTs (blkCx X (blkN ts fv) scope C s₀ H₀ ex) f0 tt)
  (heq : ∀ (env : Env) (it D : Addr), compTurn (.ListComp elt (⟨t0, i0, f0, 0⟩ :: rest) scope pos) 0 (.ref it) (.ref D) env = (standAt i0.pos >>= fun _ => pyNext (.ref it) >>= fun r => match r with
   | none => pure (.done .next)
   | some v => letOwnedTupleGo t0 (.ref it) v >>= fun _ => assign t0 env v >>= fun _ =>
    (forIn f0 true fun c r => if r = true then do let ok ← isTrue c env (eval c env); pure (ForInStep.yield ok) else pure (ForInStep.yield r)) >>= fun ok =>
     if ok = true then kont env it D else again (.compLoop (.ListComp elt (⟨t0, i0, f0, 0⟩ :: rest) scope pos) 0 (.ref it) (.ref D) env)))
  (hb : ∀ C s₀ H₀ ex it D, PB (blkCx X (blkN ts fv) scope C s₀ H₀ ex) (kont (blkCx X (blkN ts fv) scope C s₀ H₀ ex).env it D) (.compLoop (.ListComp elt (⟨t0, i0, f0, 0⟩ :: rest) scope pos) 0 (.ref it) (.ref D) (blkCx X (blkN ts fv) scope C s₀ H₀ ex).env) (tb D))
  (hs : ∀ x, foldedSetIterable i0 X.env x = pure x := by intro _; rfl) :
  PE X (.ListComp elt (⟨t0, i0, f0, 0⟩ :: rest) scope pos) (tComp ts fv wi g tt tb) := by
 intro pins s σ H Q I h
 rw [eval_ListComp]
 refine wpAny_comprehension_free (use := none) rfl hs (closure_run fun y hy e => I.ok.has y.1 (B.free y hy e)) B.kind B.names ?_
 refine comp_core (RR := fun acc C => compPost (model X.prog X.w) X.A X.xe none (EP X pins σ Q) acc C) B hc hi hg ht heq hb I h fun D C s' H' I' e2 e3 e4 e5 e6 hm q => ?_
 obtain ⟨m, hm⟩ := hm
 exact ⟨m, hm, fun h' hs' => ⟨.ref D, H', I'.apart hs' e2 e3 e4 e5 e6, rfl, q⟩⟩
theorem ps_setCompG {i : Nat} {y : Str} {py spos : Pos} (B : BlkOk X scope fv) (hc : X.calm = true) (hN : X.N.Nodup) (hiy : X.N[i]? = some y) (hyl : X.env.scope.names.lookup y = some .local)
  (hsw : swapsWith (.ListComp elt (⟨t0, i0, f0, 0⟩ :: rest) scope pos) (some (.Name y py)) spos.line X.env = pure true) (hi : PI X t0 i0 wi)
  (hg : ∀ C s₀ H₀ ex, PG (blkCx X (blkN ts fv) scope C s₀ H₀ ex) t0 g) (ht : ∀ C s₀ H₀ ex, PTs (blkCx X (blkN ts fv) scope C s₀ H₀ ex) f0 tt)
  (heq : ∀ (env : Env) (it D : Addr), compTurn (.ListComp elt (⟨t0, i0, f0, 0⟩ :: rest) scope pos) 0 (.ref it) (.ref D) env = (standAt i0.pos >>= fun _ => pyNext (.ref it) >>= fun r => match r with
   | none => pure (.done .next)
   | some v => letOwnedTupleGo t0 (.ref it) v >>= fun _ => assign t0 env v >>= fun _ =>
    (forIn f0 true fun c r => if r = true then do let ok ← isTrue c env (eval c env); pure (ForInStep.yield ok) else pure (ForInStep.yield r)) >>= fun ok =>
     if ok = true then kont env it D else again (.compLoop (.ListComp elt (⟨t0, i0, f0, 0⟩ :: rest) scope pos) 0 (.ref it) (.ref D) env)))
  (hb : ∀ C s₀ H₀ ex it D, PB (blkCx X (blkN ts fv) scope C s₀ H₀ ex) (kont (blkCx X (blkN ts fv) scope C s₀ H₀ ex).env it D) (.compLoop (.ListComp elt (⟨t0, i0, f0, 0⟩ :: rest) scope pos) 0 (.ref it) (.ref D) (blkCx X (blkN ts fv) scope C s₀ H₀ ex).env) (tb D))
  (hs : ∀ x, foldedSetIterable i0 X.env x = pure x := by intro _; rfl) :
  PS X (.Assign [.Name y py] (.ListComp elt (⟨t0, i0, f0, 0⟩ :: rest) scope pos) spos) (tAsg (tComp ts fv wi g tt tb) (gName i)) := by
 intro pins s σ H D0 I h
 rw [exec_Assign_Name_used _ _ _ _ hsw]
 refine wpAny_bind (wpAny_standAt (wpAny_bind ?_))
 show wpAny _ X.A (do let _ ← comprehension (.ListComp elt (⟨t0, i0, f0, 0⟩ :: rest) scope pos) scope X.env _ (newList []) false (eval i0 X.env) (some (assign (.Name y py) X.env))) _ _ s
 refine wpAny_bind (wpAny_mono (wpAny_comprehension_free (use := some (assign (.Name y py) X.env)) (Q := fun _ s' => SP X pins D0 .next s') rfl hs (closure_run fun y hy e => I.ok.has y.1 (B.free y hy e)) B.kind B.names ?_) (fun _ s' hq => wpAny_pure (wpAny_pure hq)) fun _ _ e => e)
 refine comp_core (Q := fun x H1 => gName i x σ H1 D0.nx) (RR := fun acc C => compPost (model X.prog X.w) X.A X.xe (some (assign (.Name y py) X.env)) (fun _ s' => SP X pins D0 .next s') acc C) B hc hi hg ht heq hb I h fun D C s' H' I' e2 e3 e4 e5 e6 hm q => ?_
 obtain ⟨m, hm⟩ := hm
 show wpAny _ X.A (assign (.Name y py) X.env (.ref D)) _ _ _
 refine wpAny_assign_Name (store_ok2 I' hN hiy (.inl hyl) (show RelV (.ref D) (.ref D) from rfl) (fun s'' I'' hch => ?_) (.inr hyl))
 obtain ⟨a, hsb, ha⟩ := hch
 have haC : C ≠ a := by
  rcases ha with e | e
  ·rw [e]; exact e4
  ·exact fun z => e5 y a e z.symm
 exact ⟨m, hm.sameBut hsb haC, fun h' hs' => ⟨_, H', I''.apart hs' e2 e3 e4 e5 e6, q⟩⟩
end
end L2
set_option maxHeartbeats 4000000
namespace L2
open PySem PySem.Spec PyProof.Rows
noncomputable def FlyT (e T : Addr) (cls a0 : Value) (h : Heap) : Prop :=
 ∃ oe vs oT ts, h.get? e = some oe ∧ (oe.cls = cls ∧ vs[0]? = some a0) ∧ oe.data = .fields vs ∧ vs[1]? = some (.ref T) ∧ T ≠ e ∧ h.get? T = some oT ∧ oT.data = .fields ts ∧ ts[3]? = some .none
noncomputable def CXr (P : Program) (w : World) : CXT := fun outer H s E ev s' =>
 ∃ (e T : Addr) (cls a0 : Value) (H' : Hp), ev = .ref e ∧ s'.os = s.os ∧ AllBare s'.gens ∧ Un (frs outer) [] H H' s.heap s'.heap ∧ HOk P w H' s'.heap ∧
  s.heap.get? e = none ∧ s.heap.get? T = none ∧ H' e = none ∧ H' T = none ∧ FlyT e T cls a0 s'.heap ∧ E cls none H'
theorem passR {X : Cx} : Passes (CXr X.prog X.w) X E0 := fun _ _ _ _ _ _ _ h => by
 obtain ⟨_, _, _, _, _, _, _, _, _, _, _, _, _, _, _, z⟩ := h
 exact z.elim
theorem cxr_top {P : Program} {w : World} {H : Hp} {s : Shared} {e : Value} {s' : Shared} (h : CXr P w [] H s (fun _ _ _ => False) e s') : False := by
 obtain ⟨_, _, _, _, _, _, _, _, _, _, _, _, _, _, _, z⟩ := h
 exact z
section
variable {P : Program} {w : World} {K : PySem.W.Frag} {mg : Str → Option Value} {base : Heap}
theorem Fun.okR {x qual : Str} {st : Stmt} {f : Addr} {fd : FuncData} {N ps : List Str} {k : Nat} {sp : Sp} (F : Fun K x qual st f fd) (S : FnScope N ps (defScope st)) (len : ∀ vs H Q E, sp vs H Q E → vs.length = ps.length)
  (hbody : ∀ (cdv : Value) (A : Around) (outer : List Env) (s : Shared) (H : Hp) (vs : List V) (Q : VK) (E : XK), Room k (A.deeper (envOfC qual (defScope st) s.heap.objs.size f cdv)) → sp vs H Q E →
   ∃ t, PSs (cxOf (CXr P w) P w K mg base N qual (defScope st) f cdv A outer s H E).nox (defBody st) t ∧ t { nx := fun _ H' => Q .non H', rt := Q } (start N vs) H) : FnOk P w K mg base (CXr P w) (k + 1) f fd ps sp := by
 obtain ⟨oc, od, kV, doc, pm, an, cdv, ct, osl, rfl, lk, hcd⟩ := F.ex
 refine fn_of lk hcd S len fun A outer s H vs Q E hr hsp => ?_
 obtain ⟨t, h, q⟩ := hbody cdv A outer s H vs Q E hr hsp
 exact ⟨t, h.nox, q⟩
end
section
variable {X : Cx}
theorem call_isinst : CallR X (.builtin "isinstance") (fun xs H Q => ∃ x T t b, xs = [x, .ty T] ∧ TyOf X.K H x t ∧ PySem.W.kitOne X.K t (.type T) = some b ∧ Q (.bl b) H) := by
 intro pins s σ H xs us Q I r h
 obtain ⟨x, T, t, b, rfl, hty, hk, q⟩ := h
 obtain ⟨u, v, rfl, ru, rv⟩ := r.two
 obtain rfl : v = Value.type T := rv
 exact isinst_ok I ru hty hk fun tk => ⟨.bl b, H, I.tok _, rfl, q⟩
theorem kit_same {K : PySem.W.Frag} {T : String} : PySem.W.kitOne K (.type T) (.type T) = some true := by
 unfold PySem.W.kitOne
 rw [if_pos (by simp)]
theorem blkFree {X : Cx} {scope : Scope} (h : scope.names.all (fun y => y.2 != .free || X.env.kindOf y.1 == some .cell || X.env.kindOf y.1 == some .free) = true) :
  ∀ y ∈ scope.names, y.2 = .free → X.env.kindOf y.1 = some .cell ∨ X.env.kindOf y.1 = some .free := fun y hy e => by
 have := List.all_eq_true.mp h y hy
 simp [e] at this
 exact this
end
theorem walk_r {l : PySem.W.OpenLaw} {k : Nat} {q : Program} {loose : List Str} {XP : (Str → Option Value) → Heap → Prop} {YP : World → Heap → Prop} {d : DefRec} {K : Params → PySem.W.Frag} {spl : PySem.W.Frag → Sp}
  (hn : l.most = some 63) (hdf : d.params.defaults = []) (hr : Room k callerA) (hY : ∀ (w : World) (h : Heap), YP w h → (K w.params).In h)
  (hsp : ∀ (K : PySem.W.Frag) (H : Hp) (a : Addr) (ns : List Int), ns.length ≤ 63 → SqL K H a (ns.map V.int) → spl K [.ref a] H (fun v _ => v = .bl true) fun _ _ _ => False)
  (F : ∀ (w : World) (mg : Str → Option Value) (fa : Addr) (h : Heap), (K w.params).In h → h.Ns mainGlobals mg → mg d.name = some (.ref fa) →
   ∃ fd : FuncData, (∀ (s : Shared) (u : Value), BindsTo s fd ⟨[u], []⟩ [("_law_script", u)]) ∧
    ∀ base : Heap, (K w.params).In base → base.Ns mainGlobals mg → FnOk l.prog w (K w.params) mg base (CXr l.prog w) k fa fd ["_law_script"] (spl (K w.params))) :
  PySem.W.WalkO q loose XP YP l.row.toRowW d [] (fun f vs => PySem.call f vs) :=
 walk_of (n := 63) (k := k) (x := "_law_script") (CX := fun w => CXr l.prog w) (sp := fun w => spl (K w.params)) hn (by decide) hdf hr hY F (fun w H a ns hl _ hS => hsp _ H a ns hl hS) (fun w H s e s' h => cxr_top h)
end L2
set_option maxHeartbeats 4000000
namespace L2
open PySem PySem.Spec PyProof.Rows
noncomputable def ExT (e : Addr) (T : Option Addr) (cls a0 : Value) (h : Heap) : Prop := match T with
 | some T => FlyT e T cls a0 h
 | none => ∃ oe vs, h.get? e = some oe ∧ (oe.cls = cls ∧ vs[0]? = some a0) ∧ oe.data = .fields vs ∧ vs[1]? = some .none
structure FxOk (X : Cx) (pins : List (Addr × Obj)) (H : Hp) (b : Addr) : Prop where
 nt : H b = none
 nl : b ≠ X.env.locals
 nf : b ∉ X.fs
 n0 : X.s₀.heap.get? b = none
 nc : ∀ x c, X.env.cells.lookup x = some c → c ≠ b
 np : ∀ p ∈ X.pn ++ pins, p.1 ≠ b
noncomputable def XS (fr : Bool) (X : Cx) (pins : List (Addr × Obj)) (R : Value → St → Hp → Prop) (ev : Value) (s' : Shared) : Prop :=
 ∃ (e : Addr) (T : Option Addr) (cls a0 : Value) (σ' : St) (H' : Hp), ev = .ref e ∧ Inv X pins σ' H' s' ∧ ExT e T cls a0 s'.heap ∧ FxOk X pins H' e ∧ (∀ t, T = some t → FxOk X pins H' t) ∧ (T = none → fr = true) ∧ R cls σ' H'
noncomputable abbrev TSX := Ends → (Value → St → Hp → Prop) → St → Hp → Prop
noncomputable abbrev TEX := St → Hp → VK → XK → Prop
noncomputable def PSX (fr : Bool) (X : Cx) (st : Stmt) (t : TSX) : Prop :=
 ∀ (pins : List (Addr × Obj)) (s : Shared) (σ : St) (H : Hp) (D : Ends) (R : Value → St → Hp → Prop), Inv X pins σ H s → t D R σ H → wpAny (model X.prog X.w) X.A (exec st X.env) (SP X pins D) (XS fr X pins R) s
noncomputable def PSsX (fr : Bool) (X : Cx) (st : List Stmt) (t : TSX) : Prop :=
 ∀ (pins : List (Addr × Obj)) (s : Shared) (σ : St) (H : Hp) (D : Ends) (R : Value → St → Hp → Prop), Inv X pins σ H s → t D R σ H → wpAny (model X.prog X.w) X.A (execs st X.env) (SP X pins D) (XS fr X pins R) s
noncomputable def PEX (fr : Bool) (X : Cx) (e : Expr) (t : TEX) : Prop :=
 ∀ (pins : List (Addr × Obj)) (s : Shared) (σ : St) (H : Hp) (Q : VK) (E : XK), Inv X pins σ H s → t σ H Q E → wpAny (model X.prog X.w) X.A (eval e X.env) (EP X pins σ Q) (XS fr X pins fun cls σ' H' => σ' = σ ∧ E cls none H') s
section
variable {X : Cx} {fr : Bool}
theorem psx_of {st : Stmt} {t : TS} (h : PS X st t) (hx : X.xe = (fun _ _ => False) := by rfl) : PSX fr X st (fun D _ σ H => t D σ H) := fun pins s σ H D R I q => by
 have := h pins s σ H D I q
 rw [hx] at this
 exact wpAny_mono this (fun _ _ z => z) fun _ _ z => z.elim
noncomputable def tSeqX (t u : TSX) : TSX := fun D R σ H => t { D with nx := u D R } R σ H
theorem pssx_cons {st : Stmt} {rest : List Stmt} {t u : TSX} (h1 : PSX fr X st t) (h2 : PSsX fr X rest u) : PSsX fr X (st :: rest) (tSeqX t u) := by
 intro pins s σ H D R I h
 refine wpAny_execs_cons (thn (h1 pins s σ H { D with nx := u D R } R I h) fun f s1 q => ?_)
 cases f with
 | next =>
  obtain ⟨σ', H', I', q⟩ := q
  exact h2 pins s1 σ' H' D R I' q
 | ret v => exact q
 | brk => exact q
 | cont => exact q
theorem pssx_one {st : Stmt} {t : TSX} (h1 : PSX fr X st t) : PSsX fr X [st] t := by
 intro pins s σ H D R I h
 refine wpAny_execs_cons (thn (h1 pins s σ H D R I h) fun f s1 q => ?_)
 cases f with
 | next => exact wpAny_execs_nil q
 | ret v => exact q
 | brk => exact q
 | cont => exact q
theorem pssx_nil : PSsX fr X [] (fun D _ σ H => D.nx σ H) := fun _ _ σ H _ _ I h => wpAny_execs_nil ⟨σ, H, I, h⟩
noncomputable def tIfX (c : TT) (t u : TSX) : TSX := fun D R σ H => c σ H fun b H1 => if b = true then t D R σ H1 else u D R σ H1
theorem psx_if {c : Expr} {a b : List Stmt} {tc : TT} {t u : TSX} {pos : Pos} (hc : PT X c tc) (ha : PSsX fr X a t) (hb : PSsX fr X b u) (hx : X.xe = (fun _ _ => False) := by rfl) : PSX fr X (.If c a b pos) (tIfX tc t u) := by
 intro pins s σ H D R I h
 have h0 := hc pins s σ H _ I h
 rw [hx] at h0
 refine wpAny_If (wpAny_mono h0 (fun d s1 zz26 => ?_) fun _ _ z => z.elim)
 obtain ⟨H1, I1, q1⟩ := zz26
 cases d with
 | true => exact ha pins s1 σ H1 D R I1 q1
 | false => exact hb pins s1 σ H1 D R I1 q1
noncomputable def tDropX (te : TEX) : TSX := fun D R σ H => te σ H (fun _ H1 => D.nx σ H1) fun cls _ H1 => R cls σ H1
theorem psx_expr {e : Expr} {te : TEX} {pos : Pos} (he : PEX fr X e te) (hs : swapsWith e none pos.line X.env = pure false := by rfl) : PSX fr X (.Expr e pos) (tDropX te) := by
 intro pins s σ H D R I h
 refine wpAny_Expr_any (wpAny_mono (he pins s σ H _ _ I h) (fun v s1 ⟨x, H1, I1, r1, q1⟩ => ⟨σ, H1, I1, q1⟩) ?_) I.quiet hs
 rintro ev s1 ⟨e, T, cls, a0, σ', H', h1, h2, h3, h4, h5, h7, rfl, h6⟩
 exact ⟨e, T, cls, a0, σ', H', h1, h2, h3, h4, h5, h7, h6⟩
noncomputable def tSetX (i : Nat) (te : TEX) : TSX := fun D R σ H => te σ H (fun x H1 => D.nx (σ.set i (some x)) H1) fun cls _ H1 => R cls σ H1
theorem psx_set {i : Nat} {x : Str} {e : Expr} {te : TEX} {pos pos' : Pos} (hN : X.N.Nodup) (hi : X.N[i]? = some x) (hx : Loc X.env.scope x) (he : PEX fr X e te) (hs : swapsWith e (some (.Name x pos')) pos.line X.env = pure false := by rfl)
  (hf : X.fn x = true ∨ X.env.scope.names.lookup x = some .local := by first | exact .inl rfl | exact .inr rfl | assumption) : PSX fr X (.Assign [.Name x pos'] e pos) (tSetX i te) := by
 intro pins s σ H D R I h
 refine wpAny_Assign_Name (wpAny_mono (he pins s σ H _ _ I h) (fun v s1 ⟨y, H1, I1, r1, q1⟩ => ?_) ?_) hs
 ·exact store_ok I1 hN hi hx r1 (fun s2 I2 => ⟨_, H1, I2, q1⟩) hf
 ·rintro ev s1 ⟨e, T, cls, a0, σ', H', h1, h2, h3, h4, h5, h7, rfl, h6⟩
  exact ⟨e, T, cls, a0, σ', H', h1, h2, h3, h4, h5, h7, h6⟩
theorem Inv.cxr {pins : List (Addr × Obj)} {σ : St} {H : Hp} {s s' : Shared} {E : XK} {ev : Value} (I : Inv X pins σ H s) (hex : X.ex = []) (h : CXr X.prog X.w X.stack H s E ev s') : XS fr X pins (fun cls σ' H' => σ' = σ ∧ E cls none H') ev s' := by
 obtain ⟨e, T, cls, a0, H', rfl, os, bare, un, hok, ne, nT, he, hT, fl, q⟩ := h
 have I' : Inv X pins σ H' s' := I.call' os un hok bare fun b hb => absurd hb (by simp)
 have fx : ∀ b, s.heap.get? b = none → H' b = none → FxOk X pins H' b := fun b hb hn => by
  refine ⟨hn, fun z => ?_, fun z => ?_, ?_, fun x c e z => ?_, fun p hp z => ?_⟩
  ·obtain ⟨m, ⟨o, _, _, ho, _⟩, _⟩ := I.loc
   rw [z, ho] at hb; cases hb
  ·obtain ⟨_, o, ho, _⟩ := I.funs.mem z
   rw [ho] at hb; cases hb
  ·cases q : X.s₀.heap.get? b with
   | none => rfl
   | some o =>
    obtain ⟨o', e'⟩ := I.base.there b o q (by rw [hex]; simp)
    rw [hb] at e'; cases e'
  ·obtain ⟨v, o, ho, _⟩ := I.cell x c e
   rw [z, hb] at ho; cases ho
  ·have := (I.pin p hp).1
   rw [z, hb] at this; cases this
 exact ⟨e, some T, cls, a0, σ, H', rfl, I', fl, fx e ne he, fun t ht => by cases ht; exact fx T nT hT, (fun z => nomatch z), rfl, q⟩
variable {k : Nat} {f C : Addr} {fd : FuncData} {ps : List Str} {sp : Sp} {dvs : List V} {ds : List Value} {x m : Str} {p pos apos : Pos} {e o : Expr} {es : List Expr} {ta : TE} {t : TA}
theorem run_fnX {pins : List (Addr × Obj)} {σ : St} {H : Hp} {s : Shared} {Q : VK} {E : XK} {us : List Value} {vs : List V} (F : FnOk X.prog X.w X.K X.mg X.base (CXr X.prog X.w) k f fd ps sp) (hr : Room k X.A) (hb : Binds X.K fd ps ds) (hd : Vals dvs ds) (hex : X.ex = [])
  (I : Inv X pins σ H s) (r : Vals vs us) (h : sp (vs ++ dvs) H Q E) : wpAny (model X.prog X.w) X.A (call (.ref f) us) (EP X pins σ Q) (XS fr X pins fun cls σ' H' => σ' = σ ∧ E cls none H') s := by
 have r2 : Vals (vs ++ dvs) (us ++ ds) := r.append hd
 have hl : (us ++ ds).length = ps.length := by rw [← r2.length]; exact F.len _ _ _ _ h
 refine wpAny_call (codeAny_mono (F.run X.A X.stack s H ⟨us, []⟩ (us ++ ds) (vs ++ dvs) Q E hr I.env0 (hb s us I.kIn hl) r2 h) fun r s' hq => ?_)
 cases r with
 | error e => exact I.cxr hex hq
 | ok fl =>
  cases fl with
  | ret u => exact I.after hq
  | next => exact False.elim hq
  | brk => exact False.elim hq
  | cont => exact False.elim hq
noncomputable def tCallX (sp : Sp) (dvs : List V) (t : TA) : TEX := fun σ H Q E => t σ H fun vs H1 => sp (vs ++ dvs) H1 Q E
theorem pex_call (F : FnOk X.prog X.w X.K X.mg X.base (CXr X.prog X.w) k f fd ps sp) (hr : Room k X.A) (hg : Gl X x) (hm : X.mg x = some (.ref f)) (hk : PySem.W.keepIn X.K (.ref f) = true) (hb : Binds X.K fd ps ds) (hd : Vals dvs ds)
  (ha : PA X (e :: es) t) (hex : X.ex = [] := by rfl) (hx : X.xe = (fun _ _ => False) := by rfl) (hdb : (x == ("__debug__" : Str)) = false := by decide) (he : starEach (e :: es) X.env = (false, eval e X.env) :: starEach es X.env := by rfl) (hpl : (backTo pos (starEach es X.env)).any (·.1) = false := by rfl) :
  PEX fr X (.Call (.Name x p) (e :: es) [] pos) (tCallX sp dvs t) := by
 intro pins s σ H Q E I h
 have h0 := ha pos pins s σ H _ I h
 rw [hx] at h0
 refine wpAny_Call_Name_kw (ld_glob I hg hm ?_ hdb)
 refine PySem.W.callWith_K (h₀ := X.base) I.ok.mod.kin hk (wpAny_mono h0 (fun us s1 zz27 => ?_) fun _ _ z => z.elim) he hpl
 obtain ⟨vs, H1, I1, r, q⟩ := zz27
 refine ⟨I1.kIn, ?_⟩
 exact run_fnX F hr hb hd hex I1 r q
noncomputable def tMethX (C : Addr) (m : Str) (sp : Sp) (dvs : List V) (ta : TE) (t : TA) : TEX := fun σ H Q E => ta σ H fun x H1 => ∃ a dx fs, x = .ref a ∧ H1 a = some (.ins C dx fs) ∧ fs.lookup m = none ∧
 t σ H1 fun vs H2 => sp (x :: (vs ++ dvs)) H2 Q E
theorem pex_meth {pl : Sem Bool} (he : PE X o ta) (c : Cls X.K C) (hm : Meth X.K C m f) (F : FnOk X.prog X.w X.K X.mg X.base (CXr X.prog X.w) k f fd ps sp) (hr : Room k X.A) (hb : Binds X.K fd ps ds) (hd : Vals dvs ds) (ha : PA X (e :: es) t)
  (hex : X.ex = [] := by rfl) (hx : X.xe = (fun _ _ => False) := by rfl) (hst : starEach (e :: es) X.env = (false, eval e X.env) :: starEach es X.env := by rfl) (hpl : (backTo pos (starEach es X.env)).any (·.1) = false := by rfl)
  (ht : eval (.Call (.Attribute o m apos) (e :: es) [] pos) X.env = (do
   let ov ← eval o X.env
   standAt apos.atName
   let (f, first) ← holding [ov] (getMethod ov m pl)
   callWith pos f first (backTo pos (starEach (e :: es) X.env)) (backToKw pos (keywordEach [] X.env))) := by rfl) :
  PEX fr X (.Call (.Attribute o m apos) (e :: es) [] pos) (tMethX C m sp dvs ta t) := by
 intro pins s σ H Q E I h
 have h0 := he pins s σ H _ I h
 rw [hx] at h0
 refine PySem.W.methodCall_KW (pl := pl) (wpAny_mono h0 (fun u s1 zz28 => ?_) fun _ _ z => z.elim) ht
 obtain ⟨x, H1, I1, rx, a, dx, fs, ex, ea, l, q⟩ := zz28
 subst ex
 obtain rfl : u = Value.ref a := rx
 refine getmeth_ok I1 ea c hm l ?_
 have h1 := ha pos pins s1 σ H1 _ I1 q
 rw [hx] at h1
 refine PySem.W.callWith_K (first := [.ref a]) (h₀ := X.base) I.ok.mod.kin hm.kp (wpAny_mono h1 (fun us s2 zz29 => ?_) fun _ _ z => z.elim) hst hpl
 obtain ⟨vs, H2, I2, r, q2⟩ := zz29
 refine ⟨I2.kIn, ?_⟩
 exact run_fnX (us := .ref a :: us) (vs := .ref a :: vs) F hr hb hd hex I2 (.cons rfl r) q2
end
end L2
set_option maxHeartbeats 4000000
namespace L2
open PySem PySem.Spec PyProof.Rows
theorem ObjOk.there {P : Program} {w : World} {H : Hp} {h : Heap} {a : Addr} : ∀ {o : HO}, ObjOk P w H h a o → ∃ ob, h.get? a = some ob
 | .lst _, x => by obtain ⟨_, _, _, _, e⟩ := x; exact ⟨_, e⟩
 | .tup _, x => by obtain ⟨_, _, _, ob, e, _⟩ := x; exact ⟨_, e⟩
 | .dK _, x => by obtain ⟨_, _, _, _, o, _, _, e, _⟩ := x; exact ⟨_, e⟩
 | .dT _, x => by obtain ⟨_, _, _, _, o, _, _, e, _⟩ := x; exact ⟨_, e⟩
 | .set _ _, x => by obtain ⟨o, _, _, _, e, _⟩ := x; exact ⟨_, e⟩
 | .ins _ _ _, x => by obtain ⟨_, _, _, e, _⟩ := x; exact ⟨_, e⟩
 | .own _, x => by obtain ⟨_, e⟩ := x; exact ⟨_, e⟩
 | .xd _, x => by obtain ⟨_, ⟨_, _, _, e, _⟩, _⟩ := x; exact ⟨_, e⟩
 | .rng _ _, x => by obtain ⟨_, _, _, e⟩ := x; exact ⟨_, e⟩
 | .frz _ _, x => by obtain ⟨e, _⟩ := x; exact ⟨_, e⟩
 | .tbl _, x => ⟨_, (show h.get? a = some _ from x)⟩
 | .met _ _, x => ⟨_, (show h.get? a = some _ from x)⟩
 | .ext _, x => by obtain ⟨_, ⟨_, e⟩, _⟩ := x; exact ⟨_, e⟩
section
variable {X : Cx} {pins : List (Addr × Obj)} {σ : St} {H : Hp} {s : Shared}
theorem Inv.untr (I : Inv X pins σ H s) {b : Addr} (hb : s.heap.get? b = none) : H b = none := by
 cases q : H b with
 | none => rfl
 | some o =>
  obtain ⟨ob, e⟩ := (I.hok b o q).there
  rw [hb] at e; cases e
theorem Inv.fxOk (I : Inv X pins σ H s) (hex : X.ex = []) {b : Addr} (hb : s.heap.get? b = none) : FxOk X pins H b := by
 refine ⟨I.untr hb, fun z => ?_, fun z => ?_, ?_, fun x c e z => ?_, fun p hp z => ?_⟩
 ·obtain ⟨m, ⟨o, _, _, ho, _⟩, _⟩ := I.loc
  rw [z, ho] at hb; cases hb
 ·obtain ⟨_, o, ho, _⟩ := I.funs.mem z
  rw [ho] at hb; cases hb
 ·cases q : X.s₀.heap.get? b with
  | none => rfl
  | some o =>
   obtain ⟨o', e'⟩ := I.base.there b o q (by rw [hex]; simp)
   rw [hb] at e'; cases e'
 ·obtain ⟨v, o, ho, _⟩ := I.cell x c e
  rw [z, hb] at ho; cases ho
 ·have := (I.pin p hp).1
  rw [z, hb] at this; cases this
end
structure ExcK (K : PySem.W.Frag) (C : Addr) (bmB : List Value) (newId : String) : Prop where
 q : PySem.W.excIn K C bmB newId = true
theorem exc_obj {K : PySem.W.Frag} {h : Heap} {C : Addr} {bmB : List Value} {newId : String} (X : K.In h) (q : PySem.W.excIn K C bmB newId = true) :
  ∃ bm N nm q bs hdct sn sub ab col dd k0 k1 k2 k3 k5 mN, h.get? C = some (excClassObj nm q C N bs bm hdct sn sub ab col dd k0 k1 k2 k3 k5 newId) ∧ h.Ns N mN ∧ mN "__init__" = none ∧ OwnTail h bmB bm := by
 unfold PySem.W.excIn at q
 split at q
 ·rename_i dd cd sl ho
  split at q
  ·rename_i C' bm k0 k1 k2 k3 n k5 hm hs
   simp only [Bool.and_eq_true, beq_iff_eq, Bool.not_eq_true'] at q
   obtain ⟨⟨⟨⟨⟨rfl, rfl⟩, hdel⟩, ht⟩, hok⟩, hni⟩ := q
   obtain ⟨nm, bs, mro, ns, qn, hd, sn, sub, ab, col, del⟩ := cd
   dsimp only at hm hdel hok hni
   subst hm hdel
   have hsl : sl = #[k0, k1, k2, k3, some (.builtin n), k5] := by
    obtain ⟨l⟩ := sl
    simp only at hs
    rw [hs]
   subst hsl
   exact ⟨bm, ns, nm, qn, bs, hd, sn, sub, ab, col, dd, k0, k1, k2, k3, k5, _, X _ _ ho, .of_isNs (PySem.W.isNs_of_in X hok), PySem.W.nsMap_none_of_in X hok hni, PySem.W.tail_of_in X ht⟩
  ·cases q
 ·cases q
section
variable {X : Cx}
noncomputable def tRaise (C : Addr) (t : TA) : TSX := fun _ R σ H => t σ H fun vs H1 => vs.length ≤ 1000 ∧ R (.ref C) σ H1
theorem psx_raise {C : Addr} {bmB : List Value} {B newId initId : String} {x : Str} {np cpos pos : Pos} {e : Expr} {es : List Expr} {t : TA} (K : ExcK X.K C bmB newId) (FB : ExcBaseFacts B newId initId bmB) (hg : Gl X x) (hm : X.mg x = some (.ref C)) (hc : X.calm = true) (ha : PA X (e :: es) t)
  (hex : X.ex = [] := by rfl) (hx : X.xe = (fun _ _ => False) := by rfl) (hdb : (x == ("__debug__" : Str)) = false := by decide) (he : starEach (e :: es) X.env = (false, eval e X.env) :: starEach es X.env := by rfl) (hpl : (backTo cpos (starEach es X.env)).any (·.1) = false := by rfl) :
  PSX true X (.Raise (some (.Call (.Name x np) (e :: es) [] cpos)) none pos) (tRaise C t) := by
 intro pins s σ H D R I h
 obtain ⟨tl, N, nm, q, bs, hdct, sn, sub, ab, col, dd, k0, k1, k2, k3, k5, mN, hC, hN, hni, T⟩ := exc_obj I.ok.mod.kin K.q
 refine wpAny_Raise_call_subT (C := C) (nm := nm) (q := q) (N := N) (bs := bs) (bm := tl) (hdct := hdct) (sn := sn) (sub := sub) (ab := ab) (col := col) (dd := dd) (k0 := k0) (k1 := k1) (k2 := k2) (k3 := k3) (k5 := k5)
  FB (mN := mN) (T.hasType FB.hasBase) (I.ok.hd hc) (by rw [he]; show (false || (backTo cpos (starEach es X.env)).any (·.1)) = false; rw [hpl]; rfl) hni (ld_glob I hg hm ⟨rfl, ?_⟩ hdb)
 have h0 := ha cpos pins s σ H _ I h
 rw [hx] at h0
 rw [he] at h0 ⊢
 refine Calls.evalArgs_plain (wpAny_mono h0 (fun us s₂ zz30 => ?_) fun _ _ z => z.elim)
 obtain ⟨vs, H1, I1, r1, hl, q1⟩ := zz30
 have kb := I1.bk
 refine ⟨rfl, ?_, kb _ _ hC, hN.keeps kb, T.keeps kb, fun h' ea hm' => ?_⟩
 ·rw [← r1.length]
  exact Nat.le_of_lt (small1000 hl)
 obtain ⟨tt, h1, h2, h3⟩ := hm'.there
 have I2 : Inv X pins σ H1 { s₂ with heap := h' } := I1.kept (t' := s₂.toks) hm'.keeps
 have fx := I1.fxOk hex hm'.new
 exact ⟨ea, none, .ref C, .ref tt, σ, H1, rfl, I2, ⟨_, _, h1, ⟨rfl, rfl⟩, rfl, rfl⟩, ⟨fx.nt, fx.nl, fx.nf, fx.n0, fx.nc, fx.np⟩, (fun t z => nomatch z), (fun _ => rfl), q1⟩
theorem Un.leave {fs : List Addr} {H₀ H : Hp} {h₀ h h' : Heap} (u : Un fs [] H₀ H h₀ h) (hk : ∀ b o, h₀.get? b = some o → b ∉ fs → h.get? b = some o → h'.get? b = some o)
  (hs : ∀ b o, b ∈ fs → h.get? b = some o → ∃ sl, h'.get? b = some { o with slots := sl }) (ht : ∀ b o, h₀.get? b = some o → ∀ o', h.get? b = some o' → ∃ o'', h'.get? b = some o'') : Un fs [] H₀ H h₀ h' where
 keep := fun b o e n hb hx => hk b o e hb (u.keep b o e n hb hx)
 slot := fun b o e n hb hx => by
  obtain ⟨sl, e1⟩ := u.slot b o e n hb hx
  obtain ⟨sl', e2⟩ := hs b _ hb e1
  exact ⟨sl', e2⟩
 free := u.free
 there := fun b o e hx => by
  obtain ⟨o', e1⟩ := u.there b o e hx
  exact ht b o e o' e1
 tups := u.tups
 frzs := u.frzs
 tbls := u.tbls
theorem funFrames_hide {X : Cx} {pins : List (Addr × Obj)} {σ : St} {H : Hp} {s : Shared} (I : Inv X pins σ H s) (as : List Addr) (hs : ∀ b ∈ frs X.stack, b ∈ as) : s.heap.FunFrames (PySem.W.hideAll s.heap as) X.stack := by
 have all : ∀ (l : List Env), (∀ b ∈ frs l, b ∈ as) → s.heap.FunFrames X.base l → s.heap.FunFrames (PySem.W.hideAll s.heap as) l := by
  intro l
  induction l with
  | nil => intro _ _; trivial
  | cons env r ih =>
   intro hs hl
   obtain ⟨hk, ⟨L, o, hf, hn, ho, hd⟩, hr⟩ := hl
   have hL : L ∈ as := hs L (by unfold frs; rw [List.filterMap_cons, hf]; exact List.mem_cons_self)
   exact ⟨hk, ⟨L, o, hf, PySem.W.hideAll_none as hL, ho, hd⟩, ih (fun b hb => hs b (by unfold frs; rw [List.filterMap_cons, hf]; exact List.mem_cons_of_mem _ hb)) hr⟩
 exact all X.stack hs I.stack
theorem Inv.fnd {X : Cx} {pins : List (Addr × Obj)} {σ : St} {H : Hp} {s : Shared} (I : Inv X pins σ H s) {b : Addr} (hb : b ∈ frs X.stack) {o : Obj} (e : s.heap.get? b = some o) : ∀ vs, o.data ≠ .fields vs := by
 obtain ⟨_, o', e', d⟩ := I.stack.mem hb
 rw [e] at e'; cases e'
 exact d
end
end L2
set_option maxHeartbeats 4000000
namespace L2
open PySem PySem.Spec PyProof.Rows
theorem FxOk.none {X : Cx} {pins : List (Addr × Obj)} {H : Hp} {b : Addr} (h : FxOk X pins H b) : FxOk X [] H b := ⟨h.nt, h.nl, h.nf, h.n0, h.nc, fun p hp => h.np p (by rw [List.append_nil] at hp; exact List.mem_append_left _ hp)⟩
section
variable {P : Program} {w : World} {K : PySem.W.Frag} {mg : Str → Option Value} {base : Heap}
theorem leave_ok {N : List Str} {qual : Str} {scope : Scope} {f : Addr} {cd : Value} {A : Around} {outer : List Env} {s s' : Shared} {H : Hp} {E : XK} {ev : Value}
  {fr : Bool} (h : XS fr (cxOf (CXr P w) P w K mg base N qual scope f cd A outer s H E).nox [] (fun cls _ H' => E cls none H') ev s') : (cxOf (CXr P w) P w K mg base N qual scope f cd A outer s H E).xe ev s' := by
 obtain ⟨e, T, cls, a0, σ', H', rfl, I, hx, fe, fT, _, q⟩ := h
 show wpAny (model P w) (A.deeper (envOfC qual scope s.heap.objs.size f cd)) (leaving (envOfC qual scope s.heap.objs.size f cd) (.ref e)) (fun _ s'' => CXr P w outer H s E (.ref e) s'') (fun e' s'' => CXr P w outer H s E e' s'') s'
 have hst : (cxOf (CXr P w) P w K mg base N qual scope f cd A outer s H E).nox.stack = envOfC qual scope s.heap.objs.size f cd :: outer := rfl
 have hfr : (A.deeper (envOfC qual scope s.heap.objs.size f cd)).frames = some (envOfC qual scope s.heap.objs.size f cd :: outer) := I.ok.frames
 have n0 : ∀ b, b ∈ e :: T.toList → s.heap.get? b = none := fun b hb => by
  rcases List.mem_cons.mp hb with z | z
  ·rw [z]; exact fe.n0
  ·cases T with
   | none => simp at z
   | some t =>
    have : b = t := by simpa using z
    rw [this]; exact (fT t rfl).n0
 have nt : ∀ b, b ∈ e :: T.toList → H' b = none := fun b hb => by
  rcases List.mem_cons.mp hb with z | z
  ·rw [z]; exact fe.nt
  ·cases T with
   | none => simp at z
   | some t =>
    have : b = t := by simpa using z
    rw [this]; exact (fT t rfl).nt
 have hB : ∀ b o, b ∉ e :: T.toList → b ∉ frs (envOfC qual scope s.heap.objs.size f cd :: outer) → s'.heap.get? b = some o → (PySem.W.hideAll s'.heap ((e :: T.toList) ++ frs (envOfC qual scope s.heap.objs.size f cd :: outer))).get? b = some o := fun b o h1 h2 e1 =>
  PySem.W.hideAll_get _ e1 fun z => (List.mem_append.mp z).elim h1 h2
 have hl : s'.heap.FunFrames (PySem.W.hideAll s'.heap ((e :: T.toList) ++ frs (envOfC qual scope s.heap.objs.size f cd :: outer))) (envOfC qual scope s.heap.objs.size f cd :: outer) := funFrames_hide I _ fun b hb => List.mem_append_right _ hb
 have hkb : (PySem.W.hideAll s'.heap ((e :: T.toList) ++ frs (envOfC qual scope s.heap.objs.size f cd :: outer))).StaysIn s'.heap := fun b o e1 => PySem.W.of_hideAll _ e1
 have hen : (PySem.W.hideAll s'.heap ((e :: T.toList) ++ frs (envOfC qual scope s.heap.objs.size f cd :: outer))).get? e = none := PySem.W.hideAll_none _ (List.mem_append_left _ List.mem_cons_self)
 have fin : ∀ h', Heap.LeftW (PySem.W.hideAll s'.heap ((e :: T.toList) ++ frs (envOfC qual scope s.heap.objs.size f cd :: outer))) (envOfC qual scope s.heap.objs.size f cd :: outer) e cls a0 s'.heap h' → CXr P w outer H s E (.ref e) { s' with heap := h' } := fun h' ⟨k1, k2, k3, k4⟩ => by
  obtain ⟨oe, vs, T', oT, ts, x1, x2, x3, x4, x5, x6, x7, x8, x9⟩ := k3
  have notfr : ∀ b o, b ∈ frs (envOfC qual scope s.heap.objs.size f cd :: outer) → s'.heap.get? b = some o → ∃ sl, h'.get? b = some { o with slots := sl } := fun b o hb e1 => k4 b o e1 (I.fnd hb e1)
  have kept : ∀ b o, b ∉ e :: T.toList → b ∉ frs (envOfC qual scope s.heap.objs.size f cd :: outer) → s'.heap.get? b = some o → h'.get? b = some o := fun b o h1 h2 e1 => k1 b o (hB b o h1 h2 e1)
  have nL : ∀ b o, s.heap.get? b = some o → b ∉ frs outer → b ∉ frs (envOfC qual scope s.heap.objs.size f cd :: outer) := fun b o e1 h2 z => by
   have z' : b ∈ s.heap.objs.size :: frs outer := z
   rcases List.mem_cons.mp z' with z1 | z1
   ·rw [z1] at e1; exact absurd (Heap.lt_size e1) (Nat.lt_irrefl _)
   ·exact h2 z1
  have nE : ∀ b o, s.heap.get? b = some o → b ∉ e :: T.toList := fun b o e1 z => by rw [n0 b z] at e1; cases e1
  have trk : ∀ b u, H' b = some u → ∀ o, s'.heap.get? b = some o → h'.get? b = some o := fun b u hu o e1 => by
   refine kept b o (fun z => by rw [nt b z] at hu; cases hu) (fun z => ?_) e1
   rw [I.stkFree b z] at hu; cases hu
  have hT' : s.heap.get? T' = none ∧ H' T' = none := by
   by_cases hz : s'.heap.get? T' = none
   ·refine ⟨?_, I.untr hz⟩
    cases q' : s.heap.get? T' with
    | none => rfl
    | some o =>
     obtain ⟨o', e'⟩ := I.base.there T' o q' (by simp [cxOf])
     rw [hz] at e'; cases e'
   ·obtain ⟨o, ho⟩ := Option.ne_none_iff_exists'.mp hz
    by_cases h1 : T' ∈ e :: T.toList
    ·exact ⟨n0 T' h1, nt T' h1⟩
    ·by_cases h2 : T' ∈ frs (envOfC qual scope s.heap.objs.size f cd :: outer)
     ·exfalso
      obtain ⟨sl, e'⟩ := notfr T' o h2 ho
      rw [x7] at e'
      cases e'
      exact I.fnd h2 ho ts x8
     ·rw [hB T' o h1 h2 ho] at x5; cases x5
  refine ⟨e, T', cls, a0, H', rfl, I.os, I.bare, ?_, fun b u hu => ?_, fe.n0, hT'.1, fe.nt, hT'.2, ⟨oe, vs, oT, ts, x1, x2, x3, x4, x6, x7, x8, x9⟩, q⟩
  ·refine Un.leave I.base (fun b o e1 h1 e2 => kept b o (nE b o e1) (nL b o e1 h1) e2) (fun b o hb e1 => notfr b o (List.mem_cons_of_mem _ hb) e1) fun b o e1 o' e2 => ?_
   by_cases h2 : b ∈ frs outer
   ·obtain ⟨sl, e'⟩ := notfr b o' (List.mem_cons_of_mem _ h2) e2
    exact ⟨_, e'⟩
   ·exact ⟨o', kept b o' (nE b o e1) (nL b o e1 h2) e2⟩
  ·refine (I.hok b u hu).stay (fun c v hc e1 => ?_) (fun _ z => z) fun _ _ z => z
   rcases hc with z | z
   ·exact trk c u (by rw [z]; exact hu) v e1
   ·exact trk c _ z v e1
 cases T with
 | none =>
  obtain ⟨oe, vs, x1, x2, x3, x4⟩ := hx
  obtain ⟨x21, x22⟩ := x2
  subst x21
  exact wpAny_leaving_firstW hfr hl rfl x1 hkb hen x3 x4 x22 fin
 | some t =>
  obtain ⟨oe, vs, oT, ts, x1, x2, x3, x4, x5, x6, x7, x8⟩ := hx
  exact wpAny_leaving_nextW hfr hl rfl ⟨oe, vs, t, oT, ts, x1, x2, x3, x4, PySem.W.hideAll_none _ (List.mem_append_left _ (by simp)), x5, x6, x7, x8⟩ hkb hen fin
theorem Fun.okX {x qual : Str} {st : Stmt} {f : Addr} {fd : FuncData} {N ps : List Str} {k : Nat} {sp : Sp} (F : Fun K x qual st f fd) (S : FnScope N ps (defScope st)) (len : ∀ vs H Q E, sp vs H Q E → vs.length = ps.length)
  (hbody : ∀ (cdv : Value) (A : Around) (outer : List Env) (s : Shared) (H : Hp) (vs : List V) (Q : VK) (E : XK), Room k (A.deeper (envOfC qual (defScope st) s.heap.objs.size f cdv)) → sp vs H Q E →
   ∃ t, PSsX true (cxOf (CXr P w) P w K mg base N qual (defScope st) f cdv A outer s H E).nox (defBody st) t ∧ t { nx := fun _ H' => Q .non H', rt := Q } (fun cls _ H' => E cls none H') (start N vs) H) : FnOk P w K mg base (CXr P w) (k + 1) f fd ps sp := by
 obtain ⟨oc, od, kV, doc, pm, an, cdv, ct, osl, rfl, lk, hcd⟩ := F.ex
 refine fn_of lk hcd S len fun A outer s H vs Q E hr hsp => ?_
 obtain ⟨t, h, q⟩ := hbody cdv A outer s H vs Q E hr hsp
 refine ⟨fun D σ H' => t D (fun cls _ H'' => E cls none H'') σ H', fun pins s' σ' H' D I hD => ?_, q⟩
 refine wpAny_mono (h pins s' σ' H' D _ (I.wish _) hD) (fun _ _ z => z.unwish) fun ev s'' z => leave_ok (fr := true) ?_
 obtain ⟨e, T, cls, a0, σ2, H2, h1, h2, h3, h4, h5, h7, h6⟩ := z
 exact ⟨e, T, cls, a0, σ2, H2, h1, h2.pins_of (fun p hp => absurd hp (by simp)), h3, h4.none, fun t ht => (h5 t ht).none, h7, h6⟩
end
end L2
set_option maxHeartbeats 4000000
namespace L2
open PySem PySem.Spec PyProof.Rows
section
variable {X : Cx}
theorem Inv.exc {pins : List (Addr × Obj)} {σ : St} {H : Hp} {s : Shared} {e T : Addr} {h' : Heap} (I : Inv X pins σ H s) (hex : X.ex = []) (fe : FxOk X pins H e) (fT : FxOk X pins H T)
  (keep : ∀ b o, b ≠ e → b ≠ T → b ∉ frs X.stack → s.heap.get? b = some o → h'.get? b = some o) (slot : ∀ b o, b ∈ frs X.stack → s.heap.get? b = some o → ∃ sl, h'.get? b = some { o with slots := sl }) : Inv X pins σ H { s with heap := h' } := by
 have fss : ∀ b ∈ X.fs, b ∈ frs X.stack := fun b hb => by
  rcases I.ok.stk with z | ⟨z, hf⟩
  ·rw [z]; exact hb
  ·rw [z]; unfold frs; rw [List.filterMap_cons, hf]; exact List.mem_cons_of_mem _ hb
 have data : ∀ b o, b ≠ e → b ≠ T → s.heap.get? b = some o → ∃ sl, h'.get? b = some { o with slots := sl } := fun b o h1 h2 e1 => by
  by_cases hb : b ∈ frs X.stack
  ·exact slot b o hb e1
  ·exact ⟨o.slots, keep b o h1 h2 hb e1⟩
 have ne0 : ∀ b o, X.s₀.heap.get? b = some o → b ≠ e ∧ b ≠ T := fun b o e1 => ⟨fun z => (by rw [z, fe.n0] at e1; cases e1), fun z => (by rw [z, fT.n0] at e1; cases e1)⟩
 have cellK : ∀ x c, X.env.cells.lookup x = some c → ∀ v, s.heap.IsCell c v → h'.IsCell c v := fun x c ec v ⟨o, ho, hd⟩ => by
  obtain ⟨sl, e1⟩ := data c o (fe.nc x c ec) (fT.nc x c ec) ho
  exact ⟨_, e1, hd⟩
 refine ⟨I.ok, I.os, I.bare, ⟨fun b o e0 n hb hx => ?_, fun b o e0 n hb hx => ?_, I.base.free, fun b o e0 hx => ?_, I.base.tups, I.base.frzs, I.base.tbls⟩, ?_, fun x c ec => ?_, I.free, I.freeC, fun p hp => ?_, fun b u hu => ?_, I.len⟩
 ·obtain ⟨n1, n2⟩ := ne0 b o e0
  refine keep b o n1 n2 (fun z => ?_) (I.base.keep b o e0 n hb hx)
  rcases List.mem_cons.mp (I.stkSub b z) with z1 | z1
  ·rw [z1] at e0; exact absurd (Nat.lt_of_lt_of_le (Heap.lt_size e0) I.ok.above) (Nat.lt_irrefl _)
  ·exact hb z1
 ·obtain ⟨sl, e1⟩ := I.base.slot b o e0 n hb hx
  obtain ⟨sl', e2⟩ := slot b _ (fss b hb) e1
  exact ⟨sl', e2⟩
 ·obtain ⟨n1, n2⟩ := ne0 b o e0
  obtain ⟨o', e1⟩ := I.base.there b o e0 hx
  obtain ⟨sl, e2⟩ := data b o' n1 n2 e1
  exact ⟨_, e2⟩
 ·obtain ⟨m, hn, hl⟩ := I.loc
  refine ⟨m, ?_, fun i x v e1 e2 e3 => ?_⟩
  ·obtain ⟨o, es, ep, ho, hd, r⟩ := hn
   obtain ⟨sl, e1⟩ := data _ o (Ne.symm fe.nl) (Ne.symm fT.nl) ho
   exact ⟨_, es, ep, e1, hd, r⟩
  ·obtain ⟨u, r, l⟩ := hl i x v e1 e2 e3
   refine ⟨u, r, ?_⟩
   rcases l with l | ⟨k, c, ec, z⟩
   ·exact .inl l
   ·exact .inr ⟨k, c, ec, cellK x c ec _ z⟩
 ·obtain ⟨v, z⟩ := I.cell x c ec
  exact ⟨v, cellK x c ec v z⟩
 ·obtain ⟨e1, n, ne, nf, d⟩ := I.pin p hp
  refine ⟨keep p.1 p.2 (fe.np p hp) (fT.np p hp) (fun z => ?_) e1, n, ne, nf, d⟩
  rcases List.mem_cons.mp (I.stkSub p.1 z) with z1 | z1
  ·exact ne z1
  ·exact nf z1
 ·have trk : ∀ b u, H b = some u → ∀ o, s.heap.get? b = some o → h'.get? b = some o := fun b u hu o e1 => by
   refine keep b o (fun z => by rw [z, fe.nt] at hu; cases hu) (fun z => by rw [z, fT.nt] at hu; cases hu) (fun z => ?_) e1
   rw [I.stkFree b z] at hu; cases hu
  refine (I.hok b u hu).stay (fun c v hc e1 => ?_) (fun _ z => z) fun _ _ z => z
  rcases hc with z | z
  ·exact trk c u (by rw [z]; exact hu) v e1
  ·exact trk c _ z v e1
noncomputable def hndCx (X : Cx) (e : Addr) : Cx := { X with A := X.A.mark (some (.ref e)), calm := false }
theorem Inv.hnd {pins : List (Addr × Obj)} {σ : St} {H : Hp} {s : Shared} (I : Inv X pins σ H s) (e : Addr) : Inv (hndCx X e) pins σ H s :=
 ⟨⟨I.ok.mod, I.ok.kind, I.ok.glob, I.ok.blt, I.ok.above, I.ok.inj, I.ok.has, I.ok.cab, fun h => absurd (show false = true from h) Bool.false_ne_true, I.ok.frames, I.ok.stk, I.ok.exf, I.ok.bs, I.ok.bsz, I.ok.noex, I.ok.exfs, I.ok.funs, I.ok.frf⟩,
  I.os, I.bare, I.base, I.loc, I.cell, I.free, I.freeC, I.pin, I.hok, I.len⟩
theorem Inv.unhnd {pins : List (Addr × Obj)} {σ : St} {H : Hp} {s : Shared} {e : Addr} (I : Inv (hndCx X e) pins σ H s) (ok : X.Ok) : Inv X pins σ H s :=
 ⟨ok, I.os, I.bare, I.base, I.loc, I.cell, I.free, I.freeC, I.pin, I.hok, I.len⟩
theorem SP.unhnd {pins : List (Addr × Obj)} {D : Ends} {f : Flow} {s' : Shared} {e : Addr} (h : SP (hndCx X e) pins D f s') (ok : X.Ok) : SP X pins D f s' := by
 cases f with
 | next => obtain ⟨σ', H', I, q⟩ := h; exact ⟨σ', H', I.unhnd ok, q⟩
 | brk => obtain ⟨σ', H', I, q⟩ := h; exact ⟨σ', H', I.unhnd ok, q⟩
 | cont => obtain ⟨σ', H', I, q⟩ := h; exact ⟨σ', H', I.unhnd ok, q⟩
 | ret u => obtain ⟨v, σ', H', I, r, q⟩ := h; exact ⟨v, σ', H', I.unhnd ok, r, q⟩
theorem fly_of {pins : List (Addr × Obj)} {σ : St} {H : Hp} {s : Shared} {e T : Addr} {cls a0 : Value} (I : Inv X pins σ H s) (hx : FlyT e T cls a0 s.heap) :
  Heap.FlyingW (PySem.W.hideAll s.heap (e :: T :: frs X.stack)) X.stack e cls a0 s.heap := by
 obtain ⟨oe, vs, oT, ts, x1, x2, x3, x4, x5, x6, x7, x8⟩ := hx
 exact ⟨fun b o e1 => PySem.W.of_hideAll _ e1, PySem.W.hideAll_none _ (by simp), funFrames_hide I _ fun b hb => by simp [hb], oe, vs, T, oT, ts, x1, x2, x3, x4, PySem.W.hideAll_none _ (by simp), x5, x6, x7, x8⟩
theorem Inv.flown {pins : List (Addr × Obj)} {σ : St} {H : Hp} {s : Shared} {e T : Addr} {h' : Heap} (I : Inv X pins σ H s) (hex : X.ex = []) (fe : FxOk X pins H e) (fT : FxOk X pins H T)
  (hst : (PySem.W.hideAll s.heap (e :: T :: frs X.stack)).StaysIn h') (hup : s.heap.UpToSlots h') : Inv X pins σ H { s with heap := h' } := by
 refine I.exc hex fe fT (fun b o h1 h2 h3 e1 => hst b o (PySem.W.hideAll_get _ e1 fun z => ?_)) fun b o hb e1 => hup b o e1 (I.fnd hb e1)
 rcases List.mem_cons.mp z with z | z
 ·exact h1 z
 ·rcases List.mem_cons.mp z with z | z
  ·exact h2 z
  ·exact h3 z
noncomputable def tTry1 (tb : TSX) (C : Addr) (ts : TS) : TS := fun D σ H => tb D (fun cls σ' H' => cls = .ref C ∧ ts D σ' H') σ H
theorem ps_try1 {body : List Stmt} {b₀ : Stmt} {suite : List Stmt} {x : Str} {np hpos pos : Pos} {tb : TSX} {ts : TS} {C : Addr} {bmB : List Value} {newId : String} (K : ExcK X.K C bmB newId) (hbase : bmB.contains (.type "BaseException") = true)
  (hg : Gl X x) (hm : X.mg x = some (.ref C)) (hb : PSsX false X body tb) (hs : ∀ e, PSs (hndCx X e) (b₀ :: suite) ts)
  (hex : X.ex = [] := by rfl) (hx : X.xe = (fun _ _ => False) := by rfl) (hstk : ∃ o, X.stack = X.env :: o := by exact ⟨_, rfl⟩) (hfr : X.env.frame = some X.env.locals := by rfl) (hdb : (x == ("__debug__" : Str)) = false := by decide) :
  PS X (.Try body [.ExceptHandler (some (.Name x np)) none (b₀ :: suite) hpos] [] [] pos) (tTry1 tb C ts) := by
 intro pins s σ H D I h
 obtain ⟨outer, hstk⟩ := hstk
 refine wpAny_Try_except (wpAny_mono (hb pins s σ H D _ I h) (fun f s1 q => ?_) ?_)
 ·cases f with
  | next => exact wpAny_execs_nil q
  | ret v => exact q
  | brk => exact q
  | cont => exact q
 ·rintro ev s1 ⟨e, T, cls, a0, σ1, H1, rfl, I1, hx1, fe, fT, hT, rfl, q⟩
  obtain ⟨T, rfl⟩ : ∃ t, T = some t := by
   cases T with
   | none => exact absurd (hT rfl) Bool.false_ne_true
   | some t => exact ⟨t, rfl⟩
  have fT := fT T rfl
  have hf1 := fly_of I1 hx1
  have hA : X.A.frames = some (X.env :: outer) := by rw [I.ok.frames, hstk]
  have hf1' : Heap.FlyingW (PySem.W.hideAll s1.heap (e :: T :: frs X.stack)) (X.env :: outer) e (.ref C) a0 s1.heap := by
   have := hf1
   generalize PySem.W.hideAll s1.heap (e :: T :: frs X.stack) = B at this ⊢
   rw [hstk] at this
   exact this
  refine wpAny_looks_onW hA hfr hf1' fun h₄ hheld₄ hsm₄ => ?_
  refine wpAny_landsW hheld₄ fun h₅ hheld hsm₅' => ?_
  have hsm₅ := hsm₄.trans hsm₅'
  have I5 : Inv X pins σ1 H1 { s1 with heap := h₅ } := I1.flown hex fe fT hheld.1 hsm₅
  obtain ⟨ob, hob, hobc⟩ := hheld.there
  obtain ⟨bm, N, nm, qn, bs, hdct, sn, sub, ab, col, dd, k0, k1, k2, k3, k5, mN, hC, hN, hni, TL⟩ := exc_obj I5.kIn K.q
  refine wpAny_handleBy_cons (codeAny_handlers_test (ld_glob (X := hndCx X e) (I5.hnd e) hg hm ?_ hdb)) (by intro q; cases q)
  refine wpAny_excMatches_sub_self hC hob hobc (TL.hasType hbase) (codeAny_handlers_suite ?_)
  refine lands_againW hheld fun h₆ hfl₆ hsm₆ => ?_
  have I6 : Inv X pins σ1 H1 { s1 with heap := h₆ } := I1.flown hex fe fT hfl₆.1 (hsm₅.trans hsm₆)
  have h6 := hs e pins _ σ1 H1 D (I6.hnd e) q
  have hxe : (hndCx X e).xe = fun _ _ => False := hx
  rw [hxe] at h6
  refine wpAny_mono h6 (fun f s2 q2 => ?_) fun _ _ z => z.elim
  exact q2.unhnd I6.ok
end
end L2
set_option maxHeartbeats 4000000
namespace L2
open PySem PySem.Spec PyProof.Rows
section
variable {X : Cx} {pins : List (Addr × Obj)} {σ : St} {H : Hp} {s : Shared} {A : Around} {E : Value → Shared → Prop} {a : Addr}
theorem d_setd {kvs : List (Key × V)} {k : Key} {d : V} {u r : Value} {Q : Value → Shared → Prop} (I : Inv X pins σ H s) (e : H a = some (.dK kvs)) (hl : kvs.length < sizeLine) (ry : RelV (kV k) u) (rd : RelV d r)
  (h1 : ∀ v w' s', valV kvs k = some v → Inv X pins σ H s' → RelV v w' → Q w' s') (h2 : valV kvs k = none → ∀ s', Inv X pins σ (upd H a (.dK (putK kvs k d))) s' → Q r s') :
  wpAny (model X.prog X.w) A (call (.builtin "dict.setdefault") [.ref a, u, r]) Q E s := by
 obtain ⟨z, hd, vs, rel, dd⟩ := dk_of I.hok e
 have hz : vs.length ≤ sizeLine := by rw [← rel.length]; exact z
 refine call_meetsIn PySem.F.slot_dict_setdefault dd.typeIs PySem.F.entry_dict_setdefault (PySem.F.args_dict_setdefault_3 _ _ _) (kt_meets_setdefault (mixKind X.prog X.w) a (kV_is ry) hd r) ⟨vs, dd, hz, fun v hv => ?_, fun hv h' dd' hs => ?_⟩
 ·have rel' := rel.val k
  rw [hv] at rel'
  cases q : valV kvs k with
  | none => rw [q] at rel'; exact rel'.elim
  | some y => rw [q] at rel'; exact h1 y v _ q (I.tok _) rel'
 ·have rel' := rel.val k
  rw [hv] at rel'
  cases q : valV kvs k with
  | some y => rw [q] at rel'; exact rel'.elim
  | none =>
   have he : ∃ q, h'.get? a = some q := let ⟨q, _, _, hq, _⟩ := dd'; ⟨q, hq⟩
   have hl2 : (putK kvs k d).length ≤ sizeLine := by have := length_putK kvs k d; omega
   exact h2 q _ (d_write I (by rw [e]; exact True.intro) hs he (dk_new hl2 hd (rel.put k rd) dd'))
end
noncomputable def tDSetd (td ty tx : TE) : TE := fun σ H Q => td σ H fun x H1 => ∃ a, x = .ref a ∧ IsD H1 a ∧ ty σ H1 fun y H2 => tx σ H2 fun z H3 => ∃ kvs k, H3 a = some (.dK kvs) ∧ kvs.length < sizeLine ∧ y = kV k ∧
 (∀ v, valV kvs k = some v → Q v H3) ∧ (valV kvs k = none → Q z (upd H3 a (.dK (putK kvs k z))))
section
variable {X : Cx} {o e f : Expr} {apos cpos : Pos} {td ty tx : TE}
theorem pe_dsetd (ho : PE X o td) (he : PE X e ty) (hf : PE X f tx) (m : M2 X o "setdefault" apos e f cpos) : PE X (.Call (.Attribute o "setdefault" apos) [e, f] [] cpos) (tDSetd td ty tx) := by
 intro pins s σ H Q I h
 refine wpAny_Call_method m.base m.few m.line PySem.F.plainAttrs_dict PySem.F.slot_dict_setdefault PySem.F.type_dict_setdefault (thn (ho pins s σ H _ I h) fun u s1 zz9 => ?_)
 obtain ⟨x, H1, I1, rx, a, ex, d, q1⟩ := zz9
 subst ex
 obtain rfl : u = Value.ref a := rx
 obtain ⟨t1, t2, _⟩ := isD_at I1 d
 refine ⟨t1, t2, ?_⟩
 rw [m.trees]
 refine Calls.callWith_builtin rfl (Calls.evalArgs_plain (Calls.spliced_cons (thn (he pins s1 σ H1 _ I1 q1) fun iv s2 ⟨y, H2, I2, ry, q2⟩ =>
  Calls.spliced_cons (thn (hf pins s2 σ H2 _ I2 q2) fun fv s3 ⟨z, H3, I3, rz, kvs, k, hk, hl, ey, q3, q4⟩ => Calls.spliced_nil ?_))))
 subst ey
 exact d_setd I3 hk hl ry rz (fun v w' s' hv I' rw' => ⟨v, H3, I', rw', q3 v hv⟩) fun hv s' I' => ⟨z, _, I', rz, q4 hv⟩
end
end L2
set_option maxHeartbeats 4000000
namespace L2
open PySem PySem.Spec PyProof.Rows
section
variable {X : Cx} {pins : List (Addr × Obj)} {σ : St} {H : Hp} {s : Shared} {a : Addr}
theorem Inv.freeze {u : HO} {ob : Obj} (I : Inv X pins σ H s) (e : H a = some u) (mu : Mut (some u)) (ho : s.heap.get? a = some ob) : Inv X pins σ (upd H a (.frz ob u)) s := by
 have nown : ∀ c y, H c = some (.own y) → c ≠ a := fun c y r z => by subst z; rw [r] at e; cases e; exact mu
 have ntup : ∀ c xs, H c = some (.tup xs) → c ≠ a := fun c xs r z => by subst z; rw [r] at e; cases e; exact mu
 have nfrz : ∀ c o xs, H c = some (.frz o xs) → c ≠ a := fun c o xs r z => by subst z; rw [r] at e; cases e; exact mu
 have ntbl : ∀ c ps, H c = some (.tbl ps) → c ≠ a := fun c ps r z => by subst z; rw [r] at e; cases e; exact mu
 have un : Un X.fs [] H (upd H a (.frz ob u)) s.heap s.heap := ⟨fun _ _ q _ _ _ => q, fun _ o q _ _ _ => ⟨o.slots, q⟩, fun b o q n _ => by rw [upd_ne (fun z => by rw [z, e] at n; cases n)]; exact n, fun b o q _ => ⟨o, q⟩,
  fun b xs q => by rw [upd_ne (ntup b xs q)]; exact q, fun b o xs q => by rw [upd_ne (nfrz b o xs q)]; exact q, fun b ps q => ⟨#[], by rw [upd_ne (ntbl b ps q), q]; simp⟩⟩
 have hok : HOk X.prog X.w (upd H a (.frz ob u)) s.heap := fun b v q => by
  have st : ∀ c w', ObjOk X.prog X.w H s.heap c w' → ObjOk X.prog X.w (upd H a (.frz ob u)) s.heap c w' := fun c w' x => x.stay (fun _ _ _ q => q) (fun d r => by rw [upd_ne (nown d c r)]; exact r) fun d xs r => by rw [upd_ne (ntup d xs r)]; exact r
  by_cases hb : b = a
  ·subst hb
   rw [upd_same] at q
   cases q
   exact ⟨ho, st _ _ (I.hok _ _ e)⟩
  ·rw [upd_ne hb] at q
   exact st _ _ (I.hok b v q)
 exact I.un (h' := s.heap) (t' := s.toks) un hok
end
section
theorem KV.at {kvs : List (Key × V)} {vs : List (Key × Value)} (r : KV kvs vs) : ∀ {i : Nat} {k : Key} {v : V}, kvs[i]? = some (k, v) → ∃ u, vs[i]? = some (k, u) ∧ RelV v u := by
 induction r with
 | nil => intro i k v h; simp at h
 | cons r t ih =>
  intro i k v h
  cases i with
  | zero =>
   simp at h
   subst h
   exact ⟨_, by rw [List.getElem?_cons_zero]; exact congrArg some (Prod.ext r.1.symm rfl), r.2⟩
  | succ i =>
   obtain ⟨u, h1, h2⟩ := ih (by simpa using h)
   exact ⟨u, by simpa using h1, h2⟩
theorem kV_of {P : Program} {w : World} {k : Key} {u : Value} (h : (mixKind P w).is k u = true) : RelV (kV k) u := by
 cases k with
 | inl i => obtain ⟨t, e⟩ := Value.isInt_shape (k := i) (v := u) h; exact ⟨t, e⟩
 | inr x => obtain ⟨t, e⟩ := Value.isStrOf_shape (x := x) (v := u) h; exact ⟨t, e⟩
theorem frz_dict {X : Cx} {pins : List (Addr × Obj)} {σ : St} {H : Hp} {s : Shared} {d : Addr} {o : Obj} {kvs : List (Key × V)} (I : Inv X pins σ H s) (e : H d = some (.frz o (.dK kvs))) :
  ∃ vs ep, KV kvs vs ∧ s.heap.DictAt (mixKind X.prog X.w) d vs ep ∧ s.heap.get? d = some o := by
 obtain ⟨ho, _, _, vs, rel, dd⟩ := I.hok d _ e
 obtain ⟨ep, da⟩ := dd.dictAt
 exact ⟨vs, ep, rel, da, ho⟩
noncomputable def epOf (o : Obj) : Nat := match o.data with
 | .dict _ ep => ep
 | _ => 0
theorem ep_of {P : Program} {w : World} {h : Heap} {d : Addr} {o : Obj} {vs : List (Key × Value)} {ep : Nat} (da : h.DictAt (mixKind P w) d vs ep) (ho : h.get? d = some o) : ep = epOf o := by
 obtain ⟨o', es, h1, _, h2, _⟩ := da
 rw [ho] at h1
 cases h1
 unfold epOf
 rw [h2]
theorem turn_vals {P : Program} {w : World} {K : PySem.W.Frag} {tg : Expr} (d it : Addr) (kvs : List (Key × V)) (o : Obj) :
  Turn P w K tg ⟨fun i H => i < kvs.length ∧ H d = some (.frz o (.dK kvs)), fun i H x H' => H' = H ∧ ∃ k, kvs[i]? = some (k, x), fun i H => kvs.length ≤ i ∧ H d = some (.frz o (.dK kvs))⟩ [it] it (fun i h => h.IsValIter it d i kvs.length (epOf o)) where
 mem := by simp
 obj := fun i h st b hb => by
  have e : b = it := by simpa using hb
  subst e
  obtain ⟨o, e, c, d⟩ := st
  exact ⟨o, e, fun v z => by rw [d] at z; cases z⟩
 keep := fun i h h' st k => st.at fun o e => k it (by simp) o e
 item := by
  intro X hP hw hK hc i pins s σ H E I hf st hg
  subst hP hw hK
  obtain ⟨hi, hq⟩ := hg
  obtain ⟨vs, ep, rel, da, ho⟩ := frz_dict I hq
  have hep := ep_of da ho
  subst hep
  obtain ⟨f0, f1, f2, f3, f4, f5⟩ := hf it (by simp)
  obtain ⟨⟨k, v⟩, hx⟩ : ∃ p, kvs[i]? = some p := ⟨_, List.getElem?_eq_getElem hi⟩
  obtain ⟨u, hu, ru⟩ := rel.at hx
  have hlen : vs.length = kvs.length := rel.length.symm
  rw [← hlen] at st
  refine wpAny_pyNext_values_item st da hu fun h' st' sb => ?_
  have I1 : Inv X pins σ H { s with heap := h' } := I.turned (t' := s.toks) (fun b o hb e => (sb.2 b hb).trans e) f0 f1 f3 f4 f5
  rw [hlen] at st'
  obtain ⟨oi, e, c, dd⟩ := id st'
  exact ⟨u, rfl, go_of (s := { s with heap := h' }) e c dd (by decide) ⟨v, H, I1, ru, ⟨rfl, k, hx⟩, st', fun b hb => (hf b hb).1⟩⟩
 done := by
  intro X hP hw hK hc i pins s σ H E I hf st hg
  subst hP hw hK
  obtain ⟨hi, hq⟩ := hg
  obtain ⟨vs, ep, rel, da, ho⟩ := frz_dict I hq
  have hep := ep_of da ho
  subst hep
  obtain ⟨f0, f1, f2, f3, f4, f5⟩ := hf it (by simp)
  have hlen : vs.length = kvs.length := rel.length.symm
  rw [← hlen] at st
  exact wpAny_pyNext_values_end (I.ok.hd hc) st da (by rw [List.getElem?_eq_none]; omega) fun h' eb => ⟨rfl, I.turned (t' := s.toks) (fun b o hb e => eb b o hb e) f0 f1 f3 f4 f5⟩
 self := fun _ _ _ _ _ st h => wpAny_pyIter_valiter st h
end
end L2
set_option maxHeartbeats 4000000
namespace L2
open PySem PySem.Spec PyProof.Rows
section
variable {X : Cx} {tg : Expr} {l : Expr} {tl : TE}
noncomputable def Itv2 (d : Addr) (kvs : List (Key × V)) (o : Obj) : It := ⟨fun i H => i < kvs.length ∧ H d = some (.frz o (.dK kvs)), fun i H x H' => H' = H ∧ ∃ k, kvs[i]? = some (k, x), fun i H => kvs.length ≤ i ∧ H d = some (.frz o (.dK kvs))⟩
noncomputable def iDict (J : Addr → List (Key × V) → Obj → It) (tl : TE) : TI := fun σ H R => tl σ H fun x H1 => ∃ a kvs, x = .ref a ∧ ((H1 a = some (.dK kvs) ∧ ∀ o, R (J a kvs o) (upd H1 a (.frz o (.dK kvs)))) ∨ ∃ o, H1 a = some (.frz o (.dK kvs)) ∧ R (J a kvs o) H1)
theorem dict_frz {pins : List (Addr × Obj)} {σ : St} {H : Hp} {s : Shared} {a : Addr} {kvs : List (Key × V)} {R : Obj → Hp → Prop} (I : Inv X pins σ H s)
  (h : (H a = some (.dK kvs) ∧ ∀ o, R o (upd H a (.frz o (.dK kvs)))) ∨ ∃ o, H a = some (.frz o (.dK kvs)) ∧ R o H) : ∃ o H', H' a = some (.frz o (.dK kvs)) ∧ Inv X pins σ H' s ∧ R o H' := by
 rcases h with ⟨e, r⟩ | ⟨o, e, r⟩
 ·obtain ⟨ob, ho⟩ := (I.hok a _ e).there
  exact ⟨ob, _, upd_same, I.freeze e True.intro ho, r ob⟩
 ·exact ⟨o, H, e, I, r⟩
structure M0 (X : Cx) (o : Expr) (m : Str) (apos cpos : Pos) : Prop where
 base : attributeBase o m X.env (eval o X.env) = eval o X.env
 few : ((backTo cpos (starEach [] X.env)).all (fun x => !x.1) && (backToKw cpos (keywordEach [] X.env)).all (fun x => x.1.isSome)
  && decide (([] : List Expr).length + ([] : List Keyword).length + (if ([] : List Keyword).isEmpty then 0 else 1) < 30)) = true
 line : (apos.endLine == cpos.line) = true
theorem pi_vals {apos cpos : Pos} (hl : PE X l tl) (m : M0 X l "values" apos cpos) : PI X tg (.Call (.Attribute l "values" apos) [] [] cpos) (iDict Itv2 tl) := by
 intro pins s σ H R I h
 refine wpAny_Call_method m.base m.few m.line PySem.F.plainAttrs_dict PySem.F.slot_dict_values PySem.F.type_dict_values (thn (hl pins s σ H _ I h) fun v s1 zz9 => ?_)
 obtain ⟨x, H1, I1, r1, q1⟩ := zz9
 obtain ⟨a, kvs, e, q⟩ := q1
 subst e
 cases r1
 obtain ⟨o, H2, e2, I2, q2⟩ := dict_frz (R := fun o H => R (Itv2 a kvs o) H) I1 q
 obtain ⟨vs, ep, rel, da, ho⟩ := frz_dict I2 e2
 have hep := ep_of da ho
 subst hep
 obtain ⟨_, _, hsys, _⟩ := I2.hok a _ e2
 have isd : IsD H2 a := .inl ⟨kvs, .inr ⟨o, e2⟩⟩
 obtain ⟨t1, t2, _⟩ := isD_at I2 isd
 refine ⟨t1, t2, ?_⟩
 refine Calls.callWith_builtin rfl (PyProof.Rows.evalArgs_empty ?_)
 refine call_meetsIn PySem.F.slot_dict_values da.dictOf.typeIs PySem.F.entry_dict_values (PySem.F.args_dict_values_1 _) (meets_dict_values (mixKind X.prog X.w) a hsys) ⟨⟨vs, da.dictOf⟩, ?_⟩
 have I3 : Inv X pins σ H2 { s1 with heap := s1.heap.push { cls := .type "dict_values", data := .fields #[.ref a] } } := I2.kept (t' := s1.toks) fun b o e => Heap.get?_push_of_some _ e
 refine wpAny_pyIter_values ⟨_, Heap.get?_push_size _ rfl, rfl, rfl⟩ (da.push _) ?_
 have hlen : vs.length = kvs.length := rel.length.symm
 rw [hlen]
 refine ⟨(s1.heap.push { cls := .type "dict_values", data := .fields #[.ref a] }).objs.size, [(s1.heap.push { cls := .type "dict_values", data := .fields #[.ref a] }).objs.size], _, _, H2, rfl, I3.kept (t' := s1.toks) fun b o e => Heap.get?_push_of_some _ e, turn_vals a _ kvs o, ⟨_, Heap.get?_push_size _ rfl, rfl, rfl⟩, fun b hb => ?_, q2⟩
 have e : b = (s1.heap.push { cls := .type "dict_values", data := .fields #[.ref a] }).objs.size := by simpa using hb
 subst e
 exact I3.fpOk (Nat.le_refl _) (I3.hok.fresh (Nat.le_refl _))
end
section
noncomputable def Ite (K : PySem.W.Frag) (a : Addr) : It :=
 ⟨fun i H => ∃ xs x, SqL K H a xs ∧ xs[i]? = some x, fun i H x H' => ∃ q y, H q = none ∧ x = .ref q ∧ (∀ xs, SqL K H a xs → xs[i]? = some y) ∧ H' = upd H q (.tup [.int i, y]), fun i H => ∃ xs, SqL K H a xs ∧ xs.length ≤ i⟩
theorem turn_enum {P : Program} {w : World} {K : PySem.W.Frag} {elts : List Expr} {x1 : Nat} {pos : Pos} (a e it : Addr) (hne : e ≠ it) : Turn P w K (.Tuple elts x1 pos) (Ite K a) [e, it] e (fun i h => (∃ old, IsEnum h e it i old) ∧ h.IsListIter it a i) where
 mem := by simp
 obj := fun i h st b hb => by
  obtain ⟨⟨old, h1⟩, o, h2, c, d⟩ := st
  rcases List.mem_cons.mp hb with z | z
  ·subst z
   exact ⟨_, h1, fun v z => by
    have z' : Data.fields _ = Data.cell v := z
    cases z'⟩
  ·have z : b = it := by simpa using z
   subst z
   exact ⟨o, h2, fun v z => by rw [d] at z; cases z⟩
 keep := fun i h h' st k => ⟨let ⟨old, h1⟩ := st.1; ⟨old, k e (by simp) _ h1⟩, st.2.at fun o q => k it (by simp) o q⟩
 item := by
  intro X hP hw hK hc i pins s σ H E I hf st hg
  subst hP hw hK
  obtain ⟨xs, x, hq, hx⟩ := hg
  obtain ⟨its, rv, p, hz⟩ := I.list hq
  obtain ⟨u, hu, ru⟩ := rv.get hx
  obtain ⟨f0, f1, f2, f3, f4, f5⟩ := hf e (by simp)
  obtain ⟨g0, g1, g2, g3, g4, g5⟩ := hf it (by simp)
  obtain ⟨⟨old, he⟩, hit⟩ := st
  refine wpAny_pyNext_enum_item he hit p.isList (x := u) (by simpa using hu) hne fun h' ho' hit' ht' hsz' kk => ?_
  have eo := Heap.lt_size he
  have io : it < s.heap.objs.size := let ⟨o, q, _⟩ := hit; Heap.lt_size q
  refine ⟨.ref s.heap.objs.size, rfl, wpAny_letOwnedTupleGo_enum ho' fun h'' he'' sb => ?_⟩
  have keepb : ∀ b o, b ≠ e → b ≠ it → s.heap.get? b = some o → h''.get? b = some o := fun b o h1 h2 q => (sb.2 b h1).trans (kk b o h1 h2 q)
  have ht'' : h''.get? s.heap.objs.size = some { cls := .type "tuple", data := .seq #[.int i s.toks, u] } := (sb.2 _ (Nat.ne_of_gt eo)).trans ht'
  have hn : H s.heap.objs.size = none := I.hok.fresh (Nat.le_refl _)
  have I2 : Inv X pins σ (upd H s.heap.objs.size (.tup [.int i, x])) { s with heap := h'', toks := s.toks + 1 } := by
   refine I.step (g' := s.gens) (d' := s.drawn) (ch := [e, it]) (fun b hb => ?_) (fun b o _ _ hc q _ => keepb b o (fun z => hc (by simp [z])) (fun z => hc (by simp [z])) q) (fun b o _ _ hc q _ => ⟨o.slots, keepb b o (fun z => hc (by simp [z])) (fun z => hc (by simp [z])) q⟩) (fun b o _ q n => by rw [upd_ne (Nat.ne_of_lt (Heap.lt_size q))]; exact n)
    (fun b o hc q => ⟨o, keepb b o (fun z => hc (by simp [z])) (fun z => hc (by simp [z])) q⟩) (fun b ys q => by rw [upd_ne (ne_of_none q hn)]; exact q) (fun b o ys q => by rw [upd_ne (ne_of_none q hn)]; exact q) (fun b ps q => ⟨#[], by rw [upd_ne (ne_of_none q hn), q]; simp⟩) (fun m hm => ?_) (fun b v q => ?_) I.bare
   ·rcases List.mem_cons.mp hb with z | z
    ·subst z; exact ⟨f3, f1, f4, f5⟩
    ·have z : b = it := by simpa using z
     subst z; exact ⟨g3, g1, g4, g5⟩
   ·obtain ⟨o, es, ep, ho, r⟩ := hm
    exact ⟨o, es, ep, keepb _ o (Ne.symm f1) (Ne.symm g1) ho, r⟩
   ·by_cases hb : b = s.heap.objs.size
    ·subst hb
     rw [upd_same] at q
     cases q
     exact ⟨by show 2 ≤ sizeLine; decide, [.int i s.toks, u], .cons ⟨_, rfl⟩ (.cons ru .nil), ⟨_, ht'', rfl, _, rfl⟩⟩
    ·rw [upd_ne hb] at q
     refine (I.hok b v q).stay (fun c w' hc z => keepb c w' ?_ ?_ z) (fun d z => by rw [upd_ne (ne_of_none z hn)]; exact z) fun d ys z => by rw [upd_ne (ne_of_none z hn)]; exact z
     ·rintro rfl
      rcases hc with z | z
      ·rw [z, q] at f0; cases f0
      ·rw [f0] at z; cases z
     ·rintro rfl
      rcases hc with z | z
      ·rw [z, q] at g0; cases g0
      ·rw [g0] at z; cases z
  refine ⟨.ref s.heap.objs.size, _, I2, rfl, ⟨_, x, hn, rfl, fun ys hy => by rw [I.list_inj hy hq]; exact hx, rfl⟩, ⟨⟨u, he''⟩, hit'.at fun o q => (sb.2 it (Ne.symm hne)).trans q⟩, fun b hb => ?_⟩
  rcases List.mem_cons.mp hb with z | z
  ·subst z; rw [upd_ne (Nat.ne_of_lt eo)]; exact f0
  ·have z : b = it := by simpa using z
   subst z; rw [upd_ne (Nat.ne_of_lt io)]; exact g0
 done := by
  intro X hP hw hK hc i pins s σ H E I hf st hg
  subst hP hw hK
  obtain ⟨xs, hq, hx⟩ := hg
  obtain ⟨its, rv, p, hz⟩ := I.list hq
  obtain ⟨g0, g1, g2, g3, g4, g5⟩ := hf it (by simp)
  obtain ⟨⟨old, he⟩, hit⟩ := st
  have hl := rv.length
  exact wpAny_pyNext_enum_end (I.ok.hd hc) he hit p.isList (by simp; omega) fun h' eb => ⟨rfl, I.turned (t' := s.toks) (fun b o hb e => eb b o hb e) g0 g1 g3 g4 g5⟩
 self := fun _ _ _ _ _ st h => by
  obtain ⟨⟨old, he⟩, _⟩ := st
  exact wpAny_pyIter_enum he h
variable {X : Cx}
noncomputable def iEnum (K : PySem.W.Frag) (ta : TA) : TI := fun σ H R => ta σ H fun vs H1 => ∃ a, vs = [.ref a] ∧ (∃ xs, SqL K H1 a xs) ∧ R (Ite K a) H1
theorem pi_enum {elts : List Expr} {x1 : Nat} {tpos p pos : Pos} {l : Expr} {ta : TA} (hg : Gl X "enumerate") (hm : X.mg "enumerate" = none) (ha : PA X [l] ta) (hs : starEach [l] X.env = [(false, eval l X.env)] := by rfl) : PI X (.Tuple elts x1 tpos) (.Call (.Name "enumerate" p) [l] [] pos) (iEnum X.K ta) := by
 intro pins s σ H R I h
 refine Call_ (ld_blt I hg hm boot_enumerate (PyProof.Rows.callWith_type1 (thn (ha pos pins s σ H _ I h) fun us s1 zz31 => ?_) hs rfl))
 obtain ⟨vs, H1, I1, r1, q1⟩ := zz31
 obtain ⟨a, e, ⟨xs, hq⟩, q⟩ := q1
 subst e
 obtain ⟨u, rfl, ru⟩ := vals1 r1
 cases ru
 obtain ⟨its, rv, pl, hz⟩ := I1.list hq
 refine call_enumerate_list pl.isList fun h' he hit hsz hk => wpAny_pyIter_enum he ?_
 have I2 : Inv X pins σ H1 { s1 with heap := h' } := I1.kept (t' := s1.toks) hk
 refine ⟨s1.heap.objs.size + 1, [s1.heap.objs.size + 1, s1.heap.objs.size], _, _, H1, rfl, I2, turn_enum a _ _ (Nat.succ_ne_self _), ⟨⟨.none, he⟩, hit⟩, fun b hb => ?_, q⟩
 rcases List.mem_cons.mp hb with z | z
 ·subst z; exact I1.fpOk (Nat.le_succ _) (I1.hok.fresh (Nat.le_succ _))
 ·have z : b = s1.heap.objs.size := by simpa using z
  subst z; exact I1.fpOk (Nat.le_refl _) (I1.hok.fresh (Nat.le_refl _))
theorem for_enum {K : PySem.W.Frag} {a : Addr} {xs : List V} {g : TG} {tb : TS} {D : Ends} {σ : St} {H : Hp} (Pv : Nat → St → Hp → Prop) (h0 : Pv 0 σ H) (hl : ∀ i σ H, i ≤ xs.length → Pv i σ H → SqL K H a xs)
  (hs : ∀ i x σ H q, xs[i]? = some x → H q = none → Pv i σ H → g (.ref q) σ (upd H q (.tup [.int i, x])) fun σ2 H2 => tb { D with nx := Pv (i + 1), ct := Pv (i + 1), bk := D.nx } σ2 H2) (hd : ∀ σ H, Pv xs.length σ H → D.nx σ H) :
  ∃ W : Nat → Nat → St → Hp → Prop, (∃ m, W 0 m σ H) ∧ ∀ i m σ H, W i m σ H →
   ((Ite K a).stop i H ∧ D.nx σ H) ∨ ((Ite K a).go i H ∧ ∃ N : St → Hp → Prop, (∀ σ' H', N σ' H' → ∃ m', m' < m ∧ W (i + 1) m' σ' H') ∧ ∀ x H', (Ite K a).yld i H x H' → g x σ H' fun σ2 H2 => tb { D with nx := N, ct := N, bk := D.nx } σ2 H2) := by
 refine ⟨fun i m σ H => m = xs.length - i ∧ i ≤ xs.length ∧ Pv i σ H, ⟨xs.length, by simp, Nat.zero_le _, h0⟩, ?_⟩
 rintro i m σ H ⟨rfl, hi, p⟩
 have q := hl i σ H hi p
 by_cases hlt : i < xs.length
 ·refine .inr ⟨⟨xs, xs[i], q, by simp [hlt]⟩, Pv (i + 1), fun σ' H' p' => ⟨xs.length - (i + 1), by omega, rfl, hlt, p'⟩, fun x H' y => ?_⟩
  obtain ⟨c, z, hn, e1, e2, e3⟩ := y
  subst e1 e3
  exact hs i z σ H c (e2 xs q) hn p
 ·have e : i = xs.length := by omega
  subst e
  exact .inl ⟨⟨xs, q, Nat.le_refl _⟩, hd σ H p⟩
theorem for_vals {d : Addr} {kvs : List (Key × V)} {o : Obj} {g : TG} {tb : TS} {D : Ends} {σ : St} {H : Hp} (Pv : Nat → St → Hp → Prop) (h0 : Pv 0 σ H) (hl : ∀ i σ H, i ≤ kvs.length → Pv i σ H → H d = some (.frz o (.dK kvs)))
  (hs : ∀ i k x σ H, kvs[i]? = some (k, x) → Pv i σ H → g x σ H fun σ2 H2 => tb { D with nx := Pv (i + 1), ct := Pv (i + 1), bk := D.nx } σ2 H2) (hd : ∀ σ H, Pv kvs.length σ H → D.nx σ H) :
  ∃ W : Nat → Nat → St → Hp → Prop, (∃ m, W 0 m σ H) ∧ ∀ i m σ H, W i m σ H →
   ((Itv2 d kvs o).stop i H ∧ D.nx σ H) ∨ ((Itv2 d kvs o).go i H ∧ ∃ N : St → Hp → Prop, (∀ σ' H', N σ' H' → ∃ m', m' < m ∧ W (i + 1) m' σ' H') ∧ ∀ x H', (Itv2 d kvs o).yld i H x H' → g x σ H' fun σ2 H2 => tb { D with nx := N, ct := N, bk := D.nx } σ2 H2) := by
 refine ⟨fun i m σ H => m = kvs.length - i ∧ i ≤ kvs.length ∧ Pv i σ H, ⟨kvs.length, by simp, Nat.zero_le _, h0⟩, ?_⟩
 rintro i m σ H ⟨rfl, hi, p⟩
 have q := hl i σ H hi p
 by_cases hlt : i < kvs.length
 ·refine .inr ⟨⟨hlt, q⟩, Pv (i + 1), fun σ' H' p' => ⟨kvs.length - (i + 1), by omega, rfl, hlt, p'⟩, fun x H' y => ?_⟩
  obtain ⟨e, k, y⟩ := y
  subst e
  exact hs i k x σ _ y p
 ·have e : i = kvs.length := by omega
  subst e
  exact .inl ⟨⟨Nat.le_refl _, q⟩, hd σ H p⟩
noncomputable def tLRange (ta : TA) : TE := fun σ H Q => ta σ H fun vs H1 => ∃ n : Nat, vs = [.int n] ∧ n ≤ 1000 ∧ ∀ p, H1 p = none → Q (.ref p) (upd H1 p (.lst ((List.range n).map fun (i : Nat) => V.int i)))
theorem pe_listRange {a : Expr} {ta : TA} {p1 p2 pos pos2 : Pos} (hgl : Gl X "list") (hml : X.mg "list" = none) (hg : Gl X "range") (hm : X.mg "range" = none) (hc : X.calm = true) (ha : PA X [a] ta) (hs : starEach [a] X.env = [(false, eval a X.env)] := by rfl)
  (hs2 : starEach [.Call (.Name "range" p2) [a] [] pos2] X.env = [(false, eval (.Call (.Name "range" p2) [a] [] pos2) X.env)] := by rfl) : PE X (.Call (.Name "list" p1) [.Call (.Name "range" p2) [a] [] pos2] [] pos) (tLRange ta) := by
 intro pins s σ H Q I h
 refine Call_ (ld_blt I hgl hml PySem.Pv.boot_list (PyProof.Rows.callWith_type1 ?_ hs2 rfl))
 rw [hs2]
 refine Calls.spliced_cons ?_
 refine Call_ (ld_blt I hg hm boot_range (PyProof.Rows.callWith_type1 (thn (ha pos2 pins s σ H _ I h) fun us s1 zz32 => ?_) hs rfl))
 obtain ⟨vs, H1, I1, r1, q1⟩ := zz32
 obtain ⟨n, e, hn, q⟩ := q1
 subst e
 obtain ⟨u, rfl, ru⟩ := vals1 r1
 obtain ⟨t, rfl⟩ := ru
 refine call_range_1 (Calls.spliced_nil ?_)
 have hr : Builtin.Range.rangeSize 0 (n : Int) 1 = n := by rw [rangeSize_one]; split <;> omega
 refine call_list_range (I.ok.hd hc) (IsRange.new ..) (small_one (by omega) (by omega) (by omega) (by omega)) hr (by omega) fun h' tk acc c' hk hS hacc => ?_
 have hk1 : ∀ b o, s1.heap.get? b = some o → h'.get? b = some o := fun b o e => hk b o (Heap.get?_push_of_some _ e)
 have hv : Vals ((List.range n).map fun (i : Nat) => V.int i) acc.toList := by
  have gen : ∀ (l : List Value) (k : Nat), (∀ (j : Nat) (v : Value), l[j]? = some v → ∃ t, v = .int ((k + j : Nat) : Int) t) → Vals ((List.range' k l.length).map fun (i : Nat) => V.int i) l := by
   intro l
   induction l with
   | nil => intro k _; exact .nil
   | cons v r ih =>
    intro k h
    obtain ⟨t, e⟩ := h 0 v rfl
    rw [List.length_cons, List.range'_succ, List.map_cons]
    refine .cons ⟨t, by rw [e]; rfl⟩ (ih (k + 1) fun j w hw => ?_)
    obtain ⟨t', e'⟩ := h (j + 1) w (by simpa using hw)
    exact ⟨t', by rw [e']; congr 1; omega⟩
  have hl : acc.toList.length = n := by rw [Array.length_toList]; exact hacc.1
  have := gen acc.toList 0 fun j v hj => by
   obtain ⟨t, e⟩ := hacc.2 j v (by rw [← Array.getElem?_toList]; exact hj)
   exact ⟨t, by rw [e]; congr 1; omega⟩
  rw [hl, ← List.range_eq_range'] at this
  exact this
 have hle : s1.heap.objs.size ≤ (s1.heap.push { cls := .type "range", data := .fields #[.int 0 s1.toks, .int (n : Int) t, .int 1 (s1.toks + 1)] }).objs.size := by rw [Heap.size_push]; exact Nat.le_succ _
 refine ⟨.ref _, upd H1 _ (.lst ((List.range n).map fun (i : Nat) => V.int i)), I1.laid hk1 (Nat.le_of_lt (by first | exact Nat.lt_of_le_of_lt hle (Heap.lt_size hS) | (rw [Heap.size_push]; exact Nat.lt_succ_self _))) ⟨?_, acc.toList, c', hv, ?_⟩, rfl, q _ (I1.hok.fresh ?_)⟩
 ·rw [List.length_map, List.length_range, sizeLine_eq]; omega
 ·simpa using hS
 ·rw [Heap.size_push]; exact Nat.le_succ _
end
end L2
set_option maxHeartbeats 4000000
namespace L2
open PySem PySem.Spec PyProof.Rows
noncomputable abbrev TJ := Str → TE
end L2
set_option maxHeartbeats 4000000
namespace L2
open PySem PySem.Spec PyProof.Rows
section
variable {X : Cx}
theorem ix_listK (K : PySem.W.Frag) (h : X.K = K := by rfl) : IxR X (rIxL K) := h ▸ ix_list
theorem call_len_seqK (K : PySem.W.Frag) (h : X.K = K := by rfl) : CallR X (.builtin "len") (fun xs H Q => ∃ p ys, xs = [.ref p] ∧ (SqL K H p ys ∨ SqT K H p ys) ∧ Q (.int ys.length) H) := h ▸ call_len_seq
theorem call_tuple_ofK (K : PySem.W.Frag) (h : X.K = K := by rfl) : CallR X (.type "tuple") (fun xs H Q => ∃ p ys, xs = [.ref p] ∧ ((SqL K H p ys ∧ ∀ l, H l = none → Q (.ref l) (upd H l (.tup ys))) ∨ (SqT K H p ys ∧ Q (.ref p) H))) := h ▸ call_tuple_of
variable {tg l e : Expr} {tl ta : TE} {f : Str} {pos : Pos}
theorem pi_tupK (K : PySem.W.Frag) (hl : PE X l tl) (h : X.K = K := by rfl) : PI X tg l (iTup K tl) := h ▸ pi_tup hl
end
end L2
set_option maxHeartbeats 4000000
namespace L2
open PySem PySem.Spec PyProof.Rows
section
variable {prog : Program} {w : World} {A : Around} {E : Value → Shared → Prop}
theorem drawL {it l : Addr} {xs : Array Value} (ne : l ≠ it) (k : Nat) : ∀ (i : Nat) (s : Shared) (Q : List Value → Shared → Prop), s.heap.IsListIter it l i → s.heap.IsList l xs → i + k ≤ xs.size →
  (∀ h', h'.IsListIter it l (i + k) → Heap.SameBut it s.heap h' → Q ((xs.toList.drop i).take k) { s with heap := h' }) → wpAny (model prog w) A (draw (.ref it) k) Q E s := by
 induction k with
 | zero =>
  intro i s Q a b c q
  have z := q s.heap a (Heap.SameBut.refl ..)
  rw [List.take_zero] at z
  exact wpAny_pure z
 | succ k ih =>
  intro i s Q a b c q
  have lt : i < xs.size := by omega
  refine wpAny_bind (m := pyNext (.ref it)) (wpAny_pyNext_list_item a b (x := xs[i]) (by simp [lt]) fun g st sb => ?_)
  refine wpAny_bind (wpAny_holding (ih (i + 1) _ _ st (b.extBut sb.extBut ne) (by omega) fun g2 st2 sb2 => wpAny_pure ?_))
  have z := q g2 (by rw [Nat.add_right_comm] at st2; exact st2) (sb.trans sb2)
  rwa [List.drop_eq_getElem_cons (by simpa using lt), List.take_succ_cons, Array.getElem_toList] at z
theorem unpackL {l : Addr} {xs : Array Value} {s : Shared} {Q : List Value → Shared → Prop} (hc : A.handled = none) (b : s.heap.IsList l xs)
  (q : ∀ h', Heap.ExtBut s.heap.objs.size s.heap h' → Q xs.toList { s with heap := h' }) : wpAny (model prog w) A (unpackItems (.ref l) xs.size none) Q E s := by
 have ne : l ≠ s.heap.objs.size := by obtain ⟨o, ho, _⟩ := b; exact Nat.ne_of_lt (Heap.lt_size ho)
 unfold unpackItems notIterableAtAll
 refine wpAny_bind (wpAny_bind (wpAny_specialOf b.typeIs PySem.F.slot_list_iter.lookup (wpAny_pure ?_)))
 rw [if_neg (by decide)]
 refine wpAny_bind (wpAny_holding (wpAny_pyIter_list b ?_))
 refine wpAny_bind (wpAny_holding (drawL ne xs.size 0 _ _ ⟨_, Heap.get?_push_size _ rfl, rfl, rfl⟩ (b.push _) (by omega) fun g st sb => ?_))
 have e : (xs.toList.drop 0).take xs.size = xs.toList := by rw [List.drop_zero, List.take_of_length_le]; simp
 rw [e, if_neg (by simp)]
 refine wpAny_bind (wpAny_holding (wpAny_pyNext_list_end hc st ((b.push _).extBut sb.extBut ne) (by simp) fun g2 eb => ?_))
 rw [if_neg (by decide)]
 exact wpAny_pure (q g2 fun c o hb z => eb c o hb (sb.extBut c o hb (Heap.get?_push_of_some _ z)))
end
section
variable {X : Cx} {pos : Pos}
noncomputable def gLst (K : PySem.W.Frag) (n : Nat) (t : TGs) : TG := fun v σ H Q => ∃ a xs, v = .ref a ∧ SqL K H a xs ∧ xs.length = n ∧ t xs σ H Q
theorem pg_lst {es : List Expr} {k : Nat} {t : TGs} {n : Nat} (hc : X.calm = true) (h : PGs X es t)
  (hn : (assignEach es X.env).length = n := by rfl) (hst : (assignEach es X.env).findIdx? (·.1) = none := by rfl) : PG X (.Tuple es k pos) (gLst X.K n t) := by
 intro pins s σ H v u Q I r hw
 obtain ⟨a, xs, e1, hq, hl, hw⟩ := hw
 subst e1
 cases r
 obtain ⟨its, rv, p, hz⟩ := I.list hq
 rw [assign_Tuple]
 refine wpAny_bind (wpAny_standAt ?_)
 unfold unpack
 have hn2 : (assignEach es X.env).length = its.toArray.size := by rw [hn, ← hl, rv.length]; simp
 rw [hn2, hst]
 refine wpAny_bind (wpAny_holding (unpackL (I.ok.hd hc) p.isList fun h' hx => ?_))
 have I1 : Inv X pins σ H { s with heap := h' } := I.kept (t' := s.toks) fun b o e => hx b o (Nat.ne_of_lt (Heap.lt_size e)) e
 exact h pins _ σ H xs _ Q I1 (by simpa using rv) hw
end
end L2
set_option maxHeartbeats 4000000
namespace L2
open PySem PySem.Spec PyProof.Rows
noncomputable def KDict (w : World) (K : PySem.W.Frag) (a : Addr) (kvs : List (Key × V)) : Prop :=
 ∃ o es ep vs, K.lookup a = some o ∧ o.ExactDict ∧ o.data = .dict es ep ∧ (∀ e ∈ es, ∃ k, keyIs k e.key = true ∧ e.hash = keyH w k) ∧ (∀ P : Program, Pairs (mixKind P w) es.toList vs) ∧ (vs.map (·.1)).Nodup ∧ KV kvs vs ∧ (a == sysModules) = false
section
variable {X : Cx} {i o : Expr} {ty td : TE} {pos : Pos}
theorem KDict.here {pins : List (Addr × Obj)} {σ : St} {H : Hp} {s : Shared} {a : Addr} {kvs : List (Key × V)} (h : KDict X.w X.K a kvs) (I : Inv X pins σ H s) : (a == sysModules) = false ∧ ∃ vs, KV kvs vs ∧ s.heap.DictOf (mixKind X.prog X.w) a vs := by
 obtain ⟨o, es, ep, vs, h1, h2, h3, h4, h5, h6, h7, h8⟩ := h
 exact ⟨h8, vs, h7, o, es, ep, I.kIn a o h1, h2, h3, h4, h5 X.prog, h6⟩
noncomputable def tKNotIn (w : World) (K : PySem.W.Frag) (ty td : TE) : TE := fun σ H Q => ty σ H fun y H1 => td σ H1 fun x H2 => ∃ a kvs k, x = .ref a ∧ KDict w K a kvs ∧ y = kV k ∧ Q (.bl (!(valV kvs k).isSome)) H2
theorem pc_knotin (hi : PE X i ty) (ho : PE X o td) : PC X .NotIn i o (tKNotIn X.w X.K ty td) := by
 intro pins s σ H Q I h
 refine thn (hi pins s σ H _ I h) fun iv s1 zz33 => ?_
 obtain ⟨y, H1, I1, ry, q1⟩ := zz33
 refine thn (ho pins s1 σ H1 _ I1 q1) fun u s2 zz9 => ?_
 obtain ⟨x, H2, I2, rx, a, kvs, k, ex, g, ey, q2⟩ := zz9
 subst ex ey
 obtain rfl : u = Value.ref a := rx
 obtain ⟨hd, vs, rel, dd⟩ := g.here I2
 refine wpAny_notIn_of (kV_is ry) hd dd.mapOf ?_
 rw [← (rel.val k).isSome_eq]
 exact ⟨.bl _, H2, I2.tok _, rfl, q2⟩
end
section
noncomputable def Itm2 (d : Addr) (kvs : List (Key × V)) (o : Obj) : It :=
 ⟨fun i H => i < kvs.length ∧ H d = some (.frz o (.dK kvs)), fun i H x H' => ∃ q k v, H q = none ∧ x = .ref q ∧ kvs[i]? = some (k, v) ∧ H' = upd H q (.tup [kV k, v]), fun i H => kvs.length ≤ i ∧ H d = some (.frz o (.dK kvs))⟩
theorem turn_items {P : Program} {w : World} {K : PySem.W.Frag} {elts : List Expr} {x1 : Nat} {pos : Pos} (d it : Addr) (kvs : List (Key × V)) (o : Obj) :
  Turn P w K (.Tuple elts x1 pos) (Itm2 d kvs o) [it] it (fun i h => ∃ a b, IsItemIter h it d i kvs.length (epOf o) a b) where
 mem := by simp
 obj := fun i h st b hb => by
  have e : b = it := by simpa using hb
  subst e
  obtain ⟨a, c, z⟩ := st
  exact ⟨_, z, fun v y => by
   have y' : Data.fields _ = Data.cell v := y
   cases y'⟩
 keep := fun i h h' st k => by
  obtain ⟨a, c, z⟩ := st
  exact ⟨a, c, k it (by simp) _ z⟩
 item := by
  intro X hP hw hK hc i pins s σ H E I hf st hg
  subst hP hw hK
  obtain ⟨hi, hq⟩ := hg
  obtain ⟨vs, ep, rel, da, ho⟩ := frz_dict I hq
  have hep := ep_of da ho
  subst hep
  obtain ⟨f0, f1, f2, f3, f4, f5⟩ := hf it (by simp)
  obtain ⟨⟨k, v⟩, hx⟩ : ∃ p, kvs[i]? = some p := ⟨_, List.getElem?_eq_getElem hi⟩
  obtain ⟨u, hu, ru⟩ := rel.at hx
  have hlen : vs.length = kvs.length := rel.length.symm
  obtain ⟨a0, b0, st⟩ := st
  rw [← hlen] at st
  have itlt := Heap.lt_size st
  refine wpAny_pyNext_items_item st da hu fun key h' hk st' ht hsz kk => ?_
  rw [hlen] at st'
  refine ⟨.ref s.heap.objs.size, rfl, wpAny_letOwnedTupleGo_items st' fun h'' st'' sb => ?_⟩
  have keepb : ∀ b z, b ≠ it → s.heap.get? b = some z → h''.get? b = some z := fun b z hb e => (sb.2 b hb).trans (kk b z hb e)
  have ht'' : h''.get? s.heap.objs.size = some { cls := .type "tuple", data := .seq #[key, u] } := (sb.2 _ (Nat.ne_of_gt itlt)).trans ht
  have hn : H s.heap.objs.size = none := I.hok.fresh (Nat.le_refl _)
  have I2 : Inv X pins σ (upd H s.heap.objs.size (.tup [kV k, v])) { s with heap := h'' } := by
   refine I.step (g' := s.gens) (d' := s.drawn) (ch := [it]) (fun b hb => ?_) (fun b o _ _ hc q _ => keepb b o (fun z => hc (by simp [z])) q) (fun b o _ _ hc q _ => ⟨o.slots, keepb b o (fun z => hc (by simp [z])) q⟩) (fun b o _ q n => by rw [upd_ne (Nat.ne_of_lt (Heap.lt_size q))]; exact n)
    (fun b o hc q => ⟨o, keepb b o (fun z => hc (by simp [z])) q⟩) (fun b ys q => by rw [upd_ne (ne_of_none q hn)]; exact q) (fun b o ys q => by rw [upd_ne (ne_of_none q hn)]; exact q) (fun b ps q => ⟨#[], by rw [upd_ne (ne_of_none q hn), q]; simp⟩) (fun m hm => ?_) (fun b v' q => ?_) I.bare
   ·have z : b = it := by simpa using hb
    subst z; exact ⟨f3, f1, f4, f5⟩
   ·obtain ⟨o, es, ep, ho, r⟩ := hm
    exact ⟨o, es, ep, keepb _ o (Ne.symm f1) ho, r⟩
   ·by_cases hb : b = s.heap.objs.size
    ·subst hb
     rw [upd_same] at q
     cases q
     exact ⟨by show 2 ≤ sizeLine; decide, [key, u], .cons (kV_of hk) (.cons ru .nil), ⟨_, ht'', rfl, _, rfl⟩⟩
    ·rw [upd_ne hb] at q
     refine (I.hok b v' q).stay (fun c w' hc z => keepb c w' ?_ z) (fun d z => by rw [upd_ne (ne_of_none z hn)]; exact z) fun d ys z => by rw [upd_ne (ne_of_none z hn)]; exact z
     rintro rfl
     rcases hc with z | z
     ·rw [z, q] at f0; cases f0
     ·rw [f0] at z; cases z
  refine ⟨.ref s.heap.objs.size, _, I2, rfl, ⟨_, k, v, hn, rfl, hx, rfl⟩, ⟨_, _, st''⟩, fun b hb => ?_⟩
  have z : b = it := by simpa using hb
  subst z; rw [upd_ne (Nat.ne_of_lt itlt)]; exact f0
 done := by
  intro X hP hw hK hc i pins s σ H E I hf st hg
  subst hP hw hK
  obtain ⟨hi, hq⟩ := hg
  obtain ⟨vs, ep, rel, da, ho⟩ := frz_dict I hq
  have hep := ep_of da ho
  subst hep
  obtain ⟨f0, f1, f2, f3, f4, f5⟩ := hf it (by simp)
  have hlen : vs.length = kvs.length := rel.length.symm
  obtain ⟨a0, b0, st⟩ := st
  rw [← hlen] at st
  exact wpAny_pyNext_items_end (I.ok.hd hc) st da (by rw [List.getElem?_eq_none]; omega) fun h' eb => ⟨rfl, I.turned (t' := s.toks) (fun b o hb e => eb b o hb e) f0 f1 f3 f4 f5⟩
 self := fun _ _ _ _ _ st h => by
  obtain ⟨a, b, st⟩ := st
  exact PySem.W.kcp_self st h
variable {X : Cx} {l : Expr} {tl : TE}
theorem pi_items {elts : List Expr} {x1 : Nat} {tpos apos cpos : Pos} (hl : PE X l tl) (m : M0 X l "items" apos cpos) : PI X (.Tuple elts x1 tpos) (.Call (.Attribute l "items" apos) [] [] cpos) (iDict Itm2 tl) := by
 intro pins s σ H R I h
 refine wpAny_Call_method m.base m.few m.line PySem.F.plainAttrs_dict PySem.F.slot_dict_items PySem.F.type_dict_items (thn (hl pins s σ H _ I h) fun v s1 zz9 => ?_)
 obtain ⟨x, H1, I1, r1, q1⟩ := zz9
 obtain ⟨a, kvs, e, q⟩ := q1
 subst e
 cases r1
 obtain ⟨o, H2, e2, I2, q2⟩ := dict_frz (R := fun o H => R (Itm2 a kvs o) H) I1 q
 obtain ⟨vs, ep, rel, da, ho⟩ := frz_dict I2 e2
 have hep := ep_of da ho
 subst hep
 obtain ⟨_, _, hsys, _⟩ := I2.hok a _ e2
 have isd : IsD H2 a := .inl ⟨kvs, .inr ⟨o, e2⟩⟩
 obtain ⟨t1, t2, _⟩ := isD_at I2 isd
 refine ⟨t1, t2, ?_⟩
 refine Calls.callWith_builtin rfl (PyProof.Rows.evalArgs_empty ?_)
 refine call_meetsIn PySem.F.slot_dict_items da.dictOf.typeIs PySem.F.entry_dict_items (PySem.F.args_dict_items_1 _) (meets_dict_items (mixKind X.prog X.w) a hsys) ⟨⟨vs, da.dictOf⟩, ?_⟩
 have I3 : Inv X pins σ H2 { s1 with heap := s1.heap.push { cls := .type "dict_items", data := .fields #[.ref a] } } := I2.kept (t' := s1.toks) fun b o e => Heap.get?_push_of_some _ e
 refine wpAny_pyIter_items ⟨_, Heap.get?_push_size _ rfl, rfl, rfl⟩ (da.push _) ?_
 have hlen : vs.length = kvs.length := rel.length.symm
 rw [hlen]
 refine ⟨(s1.heap.push { cls := .type "dict_items", data := .fields #[.ref a] }).objs.size, [(s1.heap.push { cls := .type "dict_items", data := .fields #[.ref a] }).objs.size], _, _, H2, rfl, I3.kept (t' := s1.toks) fun b o e => Heap.get?_push_of_some _ e, turn_items a _ kvs o, ⟨_, _, Heap.get?_push_size _ rfl⟩, fun b hb => ?_, q2⟩
 have e : b = (s1.heap.push { cls := .type "dict_items", data := .fields #[.ref a] }).objs.size := by simpa using hb
 subst e
 exact I3.fpOk (Nat.le_refl _) (I3.hok.fresh (Nat.le_refl _))
theorem for_items {d : Addr} {kvs : List (Key × V)} {o : Obj} {g : TG} {tb : TS} {D : Ends} {σ : St} {H : Hp} (Pv : Nat → St → Hp → Prop) (h0 : Pv 0 σ H) (hl : ∀ i σ H, i ≤ kvs.length → Pv i σ H → H d = some (.frz o (.dK kvs)))
  (hs : ∀ i k x σ H q, kvs[i]? = some (k, x) → H q = none → Pv i σ H → g (.ref q) σ (upd H q (.tup [kV k, x])) fun σ2 H2 => tb { D with nx := Pv (i + 1), ct := Pv (i + 1), bk := D.nx } σ2 H2) (hd : ∀ σ H, Pv kvs.length σ H → D.nx σ H) :
  ∃ W : Nat → Nat → St → Hp → Prop, (∃ m, W 0 m σ H) ∧ ∀ i m σ H, W i m σ H →
   ((Itm2 d kvs o).stop i H ∧ D.nx σ H) ∨ ((Itm2 d kvs o).go i H ∧ ∃ N : St → Hp → Prop, (∀ σ' H', N σ' H' → ∃ m', m' < m ∧ W (i + 1) m' σ' H') ∧ ∀ x H', (Itm2 d kvs o).yld i H x H' → g x σ H' fun σ2 H2 => tb { D with nx := N, ct := N, bk := D.nx } σ2 H2) := by
 refine ⟨fun i m σ H => m = kvs.length - i ∧ i ≤ kvs.length ∧ Pv i σ H, ⟨kvs.length, by simp, Nat.zero_le _, h0⟩, ?_⟩
 rintro i m σ H ⟨rfl, hi, p⟩
 have q := hl i σ H hi p
 by_cases hlt : i < kvs.length
 ·refine .inr ⟨⟨hlt, q⟩, Pv (i + 1), fun σ' H' p' => ⟨kvs.length - (i + 1), by omega, rfl, hlt, p'⟩, fun x H' y => ?_⟩
  obtain ⟨c, k, v, hn, e1, y, e2⟩ := y
  subst e1 e2
  exact hs i k v σ H c y hn p
 ·have e : i = kvs.length := by omega
  subst e
  exact .inl ⟨⟨Nat.le_refl _, q⟩, hd σ H p⟩
end
section
noncomputable def Itr3 (lo st : Int) (n : Nat) : It := ⟨fun i _ => i < n, fun i H x H' => H' = H ∧ x = .int (lo + i * st), fun i _ => n ≤ i⟩
theorem turn_range3 {P : Program} {w : World} {K : PySem.W.Frag} {tg : Expr} (it : Addr) (lo st : Int) (n : Nat) : Turn P w K tg (Itr3 lo st n) [it] it (fun i h => IsRangeIter h it (lo + (i : Nat) * st) ((n : Int) - (i : Nat)) st) where
 mem := by simp
 obj := fun i h st b hb => by
  have e : b = it := by simpa using hb
  subst e
  exact ⟨_, st, fun v z => by
   have z' : Data.fields _ = Data.cell v := z
   cases z'⟩
 keep := fun i h h' st k => k it (by simp) _ st
 item := by
  intro X hP hw hK hc i pins s σ H E I hf st' hg
  subst hP hw hK
  obtain ⟨f0, f1, f2, f3, f4, f5⟩ := hf it (by simp)
  have W := Walks.range (prog := X.prog) (w := X.w) (I.ok.hd hc) it lo st n
  refine W.item i s _ _ hg st' fun v h' tk hv st2 kk => ?_
  obtain ⟨t, rfl⟩ := hv
  have I1 : Inv X pins σ H { s with heap := h', toks := tk } := I.turned (fun b o hb e => kk b o (by simpa using hb) e) f0 f1 f3 f4 f5
  exact ⟨_, rfl, go_of (s := { s with heap := h', toks := tk }) (n := "range_iterator") st2 rfl rfl (by decide) ⟨.int (lo + i * st), H, I1, ⟨t, rfl⟩, ⟨rfl, rfl⟩, st2, fun b hb => (hf b hb).1⟩⟩
 done := by
  intro X hP hw hK hc i pins s σ H E I hf st' hg
  subst hP hw hK
  obtain ⟨f0, f1, f2, f3, f4, f5⟩ := hf it (by simp)
  exact wpAny_pyNext_range_end (I.ok.hd hc) st' (by have : n ≤ i := hg; omega) fun h' eb => ⟨rfl, I.turned (t' := s.toks) (fun b o hb e => eb b o hb e) f0 f1 f3 f4 f5⟩
 self := fun _ _ _ _ _ st h => wpAny_pyIter_rangeiter st h
end
section
variable {X : Cx} {tg : Expr}
noncomputable def iRng3 (ta : TA) : TI := fun σ H R => ta σ H fun vs H1 => ∃ n : Nat, vs = [.int 0, .int (3 * n : Nat), .int 3] ∧ n ≤ 1000 ∧ R (Itr3 0 3 n) H1
theorem range3_it {pins : List (Addr × Obj)} {σ : St} {H : Hp} {s : Shared} {R : It → Hp → Prop} {E : Value → Shared → Prop} {n : Nat} {t u v : Tok} {tk : Nat} (I : Inv X pins σ H s) (hn : n ≤ 1000)
  (q : R (Itr3 0 3 n) H) : wpAny (model X.prog X.w) X.A (pyIter (.ref s.heap.objs.size)) (PIE X pins σ tg R) E { s with heap := s.heap.push { cls := .type "range", data := .fields #[.int 0 t, .int (3 * n : Nat) u, .int 3 v] }, toks := tk } := by
 have hr : Builtin.Range.rangeSize 0 ((3 * n : Nat) : Int) 3 = n := by
  unfold Builtin.Range.rangeSize
  rw [if_pos (by decide)]
  split <;> omega
 have hsm : Builtin.Range.small 0 ((3 * n : Nat) : Int) 3 = true := by
  unfold Builtin.Range.small
  rw [hr]
  have e : ∀ z : Int, -(2 ^ 62) ≤ z → z < 2 ^ 62 → Builtin.Range.rangeFitsLong z = true := fun z h1 h2 => by
   unfold Builtin.Range.rangeFitsLong
   rw [Bool.and_eq_true, decide_eq_true_eq, decide_eq_true_eq]
   omega
  have e2 := e ((3 * n : Nat) : Int) (by omega) (by omega)
  have e4 := e (n : Int) (by omega) (by omega)
  have e5 := e (((3 * n : Nat) : Int) + (3 - 1)) (by omega) (by omega)
  rw [e 0 (by decide) (by decide), e2, e 3 (by decide) (by decide), e4, if_pos (by decide), e5, Bool.or_true]
  rfl
 refine wpAny_pyIter_range (IsRange.new ..) hsm ?_
 have I1 : Inv X pins σ H { s with heap := s.heap.push { cls := .type "range", data := .fields #[.int 0 t, .int (3 * n : Nat) u, .int 3 v] }, toks := tk } := I.kept fun b o e => Heap.get?_push_of_some _ e
 refine ⟨(s.heap.push { cls := .type "range", data := .fields #[.int 0 t, .int (3 * n : Nat) u, .int 3 v] }).objs.size, [(s.heap.push { cls := .type "range", data := .fields #[.int 0 t, .int (3 * n : Nat) u, .int 3 v] }).objs.size], _, _, H, rfl,
  I1.kept (t' := tk) fun b o e => Heap.get?_push_of_some _ e, turn_range3 _ 0 3 n, ?_, fun b hb => ?_, q⟩
 ·show IsRangeIter _ _ ((0 : Int) + ((0 : Nat) : Int) * 3) (((n : Nat) : Int) - ((0 : Nat) : Int)) 3
  have e1 : (0 : Int) + ((0 : Nat) : Int) * 3 = 0 := by simp
  have e2 : ((n : Nat) : Int) - ((0 : Nat) : Int) = Builtin.Range.rangeSize 0 ((3 * n : Nat) : Int) 3 := by rw [hr]; simp
  rw [e1, e2]
  exact Heap.get?_push_size _ rfl
 ·have e : b = (s.heap.push { cls := .type "range", data := .fields #[.int 0 t, .int (3 * n : Nat) u, .int 3 v] }).objs.size := by simpa using hb
  subst e
  exact I1.fpOk (Nat.le_refl _) (I1.hok.fresh (Nat.le_refl _))
theorem pi_range3 {a b c : Expr} {ta : TA} {p pos : Pos} (hg : Gl X "range") (hm : X.mg "range" = none) (ha : PA X [a, b, c] ta) (hs : starEach [a, b, c] X.env = [(false, eval a X.env), (false, eval b X.env), (false, eval c X.env)] := by rfl) (hs2 : starEach [b, c] X.env = [(false, eval b X.env), (false, eval c X.env)] := by rfl) :
  PI X tg (.Call (.Name "range" p) [a, b, c] [] pos) (iRng3 ta) := by
 intro pins s σ H R I h
 refine Call_ (ld_blt I hg hm boot_range (PyProof.Rows.callWith_type1 (thn (ha pos pins s σ H _ I h) fun us s1 ⟨vs, H1, I1, r1, q1⟩ => ?_) (by rw [hs, hs2]) (by rw [hs2]; rfl)))
 obtain ⟨n, e, hn, q⟩ := q1
 subst e
 cases r1 with
 | cons r rr =>
  cases rr with
  | cons r' rr =>
   cases rr with
   | cons r'' rr =>
    cases rr
    obtain ⟨t, rfl⟩ := r
    obtain ⟨t', rfl⟩ := r'
    obtain ⟨t'', rfl⟩ := r''
    exact call_range_3 (by decide) (range3_it I1 hn q) (.inl (PyProof.noPylong_small (by decide)))
theorem loop_range3 {lo st : Int} {n : Nat} {g : TG} {tt : TT} {tb : TB} {R : St → Hp → Prop} {σ : St} {H : Hp} (Pv : Nat → St → Hp → Prop) (h0 : Pv 0 σ H)
  (hs : ∀ (i : Nat) σ H, i < n → Pv i σ H → g (.int (lo + i * st)) σ H fun σ2 H2 => tt σ2 H2 fun b H3 => if b = true then tb σ2 H3 (Pv (i + 1)) else Pv (i + 1) σ2 H3) (hd : ∀ σ H, Pv n σ H → R σ H) : LoopR (Itr3 lo st n) g tt tb R σ H := by
 refine ⟨fun i m σ H => m = n - i ∧ i ≤ n ∧ Pv i σ H, ⟨n, by simp, Nat.zero_le _, h0⟩, ?_⟩
 rintro i m σ H ⟨rfl, hi, p⟩
 by_cases hlt : i < n
 ·refine .inr ⟨hlt, Pv (i + 1), fun σ' H' p' => ⟨n - (i + 1), by omega, rfl, hlt, p'⟩, fun x H' y => ?_⟩
  obtain ⟨e, y⟩ := y
  subst e y
  exact hs i σ _ hlt p
 ·have e : i = n := by omega
  subst e
  exact .inl ⟨Nat.le_refl _, hd σ H p⟩
end
section
variable {X : Cx} {fr : Bool} {pos : Pos}
noncomputable def tAsgX (te : TEX) (g : TG) : TSX := fun D R σ H => te σ H (fun x H1 => g x σ H1 D.nx) fun cls _ H1 => R cls σ H1
theorem psx_asg {tg e : Expr} {te : TEX} {g : TG} (he : PEX fr X e te) (hg : PG X tg g) (hs : swapsWithSole [tg] e pos.line X.env = pure false := by rfl) (hw : swappedStores [tg] e X.env = pure none := by rfl)
  (h1 : (assignEach [tg] X.env).map (·.2) = [assign tg X.env] := by rfl) (hx : X.xe = (fun _ _ => False) := by rfl) : PSX fr X (.Assign [tg] e pos) (tAsgX te g) := by
 intro pins s σ H D R I h
 refine wpAny_Assign_stores (wpAny_mono (he pins s σ H _ _ I h) (fun v s1 ⟨x, H1, I1, r1, q1⟩ => ?_) ?_) hs hw
 ·rw [h1]
  have z := hg pins s1 σ H1 x v _ I1 r1 q1
  rw [hx] at z
  exact wpAny_mono z (fun _ _ y => y) fun _ _ y => y.elim
 ·rintro ev s1 ⟨e, T, cls, a0, σ', H', g1, g2, g3, g4, g5, g7, rfl, g6⟩
  exact ⟨e, T, cls, a0, σ', H', g1, g2, g3, g4, g5, g7, g6⟩
end
theorem sl_listK {X : Cx} (K : PySem.W.Frag) (h : X.K = K := by rfl) : SlR X (rSlL K) := h ▸ sl_list
theorem kdict_mk2 {w : World} {K : PySem.W.Frag} {a : Addr} {h1 h2 : Int} {t1 t2 t3 t4 : Tok} {ep : Nat} {x1 y1 x2 y2 : Str}
  (l : K.lookup a = some ⟨.type "dict", none, .dict #[⟨h1, .str x1 t1, .str y1 t2⟩, ⟨h2, .str x2 t3, .str y2 t4⟩] ep, #[]⟩) (e1 : h1 = hashStr w x1) (e2 : h2 = hashStr w x2) (ne : x1 ≠ x2) (sy : (a == sysModules) = false) :
  KDict w K a [(Sum.inr x1, .str y1), (Sum.inr x2, .str y2)] := by
 refine ⟨_, _, _, [(Sum.inr x1, .str y1 t2), (Sum.inr x2, .str y2 t4)], l, ⟨rfl, rfl, rfl⟩, rfl, fun e he => ?_, fun P => ?_, ?_, ?_, sy⟩
 ·have he : e = ⟨h1, .str x1 t1, .str y1 t2⟩ ∨ e = ⟨h2, .str x2 t3, .str y2 t4⟩ := by simpa using he
  rcases he with rfl | rfl
  ·exact ⟨Sum.inr x1, keyIs_str x1 t1, e1⟩
  ·exact ⟨Sum.inr x2, keyIs_str x2 t3, e2⟩
 ·exact .cons (keyIs_str x1 t1) rfl (.cons (keyIs_str x2 t3) rfl .nil)
 ·refine List.nodup_cons.mpr ⟨?_, by simp⟩
  simp [ne]
 ·exact .cons ⟨rfl, ⟨_, rfl⟩⟩ (.cons ⟨rfl, ⟨_, rfl⟩⟩ .nil)
end L2
set_option maxHeartbeats 4000000
namespace L2
open PySem PySem.Spec PyProof.Rows
section
variable {X : Cx}
noncomputable def rNeL (K : PySem.W.Frag) : R2 := fun x y H Q => ∃ a b ns ms, x = .ref a ∧ y = .ref b ∧ SqL K H a (List.map V.int ns) ∧ SqL K H b (List.map V.int ms) ∧ Q (.bl (!decide (ns = ms))) H
theorem op_neL (hu : X.A.units + 64 < cLine) : OpR X (compareOp .NotEq) (rNeL X.K) := by
 intro pins s σ H x y v u Q I rx ry h
 obtain ⟨a, b, ns, ms, rfl, rfl, ha, hb, q⟩ := h
 cases rx
 cases ry
 obtain ⟨ia, ra, pa, _⟩ := I.list ha
 obtain ⟨ib, rb, pb, _⟩ := I.list hb
 exact PySem.W.ne_intsK pa.isList (intsAre_of ra) pb.isList (intsAre_of rb) hu ⟨.bl _, H, I, rfl, q⟩
end
end L2
set_option maxHeartbeats 4000000
namespace L2
open PySem PySem.Spec PyProof.Rows
section
variable {prog : Program} {w : World} {A : Around} {E : Value → Shared → Prop} {s : Shared}
noncomputable abbrev upIt (a n : Int) : Obj := { cls := .type "range_iterator", data := .fields #[rawInt (a + (n - 1) * 1), rawInt n, rawInt (-1)] }
theorem fits62 {z : Int} (h1 : -(2 ^ 62) ≤ z) (h2 : z < 2 ^ 62) : Builtin.Range.rangeFitsLong z = true := by
 unfold Builtin.Range.rangeFitsLong
 rw [Bool.and_eq_true, decide_eq_true_eq, decide_eq_true_eq]
 omega
theorem rr_meets (r : Addr) (a b : Int) (t u v : Tok) (hs : (Builtin.Range.rangeFitsLong a && Builtin.Range.rangeFitsLong b && Builtin.Range.rangeFitsLong 1 && Builtin.Range.rangeFitsLong (-1) && Builtin.Range.rangeFitsLong (a - 1) && Builtin.Range.rangeFitsLong (Builtin.Range.rangeSize a b 1)) = true) :
  Meets (Builtin.«range.__reversed__» ⟨[.ref r], []⟩) (fun _ R s => IsRange s.heap r a b 1 t u v ∧ R (.ok (.ret (.ref s.heap.objs.size))) { s with heap := s.heap.push (upIt a (Builtin.Range.rangeSize a b 1)) }) :=
 .of_wp fun prog w A R s h => by
  obtain ⟨hp, g, d, tk, os⟩ := s
  obtain ⟨hl, h⟩ := h
  unfold Builtin.«range.__reversed__»
  refine wpAny_bind (wpAny_of_eq (a := Value.ref r) rfl ?_)
  refine wpAny_bind (m := Builtin.Range.rangeFields (.ref r)) ?_
  unfold Builtin.Range.rangeFields
  refine wpAny_bind (wpAny_field hl rfl (x := .int a t) rfl ?_)
  refine wpAny_bind (wpAny_of_eq (a := some a) rfl ?_)
  refine wpAny_bind (wpAny_field hl rfl (x := .int b u) rfl ?_)
  refine wpAny_bind (wpAny_of_eq (a := some b) rfl ?_)
  refine wpAny_bind (wpAny_field hl rfl (x := .int 1 v) rfl ?_)
  refine wpAny_bind (wpAny_of_eq (a := some 1) rfl ?_)
  refine wpAny_pure ?_
  dsimp only
  simp only [hs, Bool.not_true, Bool.false_eq_true, if_false, if_true]
  exact wpAny_bind (wpAny_newObj_type (wpAny_pure ⟨_, rfl, h⟩))
theorem rr_sub : isSubtype (.type "range_iterator") (.type "reversed") = pure false := by
 rw [isSubtype_type]
 kernel_rfl
theorem rr_code {r : Addr} {a b : Int} {t u v : Tok} {Z : Value → Shared → Prop} (hr : IsRange s.heap r a b 1 t u v)
  (hs : (Builtin.Range.rangeFitsLong a && Builtin.Range.rangeFitsLong b && Builtin.Range.rangeFitsLong 1 && Builtin.Range.rangeFitsLong (-1) && Builtin.Range.rangeFitsLong (a - 1) && Builtin.Range.rangeFitsLong (Builtin.Range.rangeSize a b 1)) = true)
  (q : Z (.ref s.heap.objs.size) { s with heap := s.heap.push (upIt a (Builtin.Range.rangeSize a b 1)) }) :
  codeAny (model prog w) A (.call (.builtin "reversed.__new__") ⟨[.type "reversed", .ref r], []⟩) (wants Z E) s := by
 have hT : s.TypeIs (.ref r) "range" := ⟨_, hr, rfl⟩
 refine codeAny_of_tree (show wpAny _ A.in1 (checkBuiltinCall "reversed.__new__" ⟨[.type "reversed", .ref r], []⟩ >>= fun _ => again (.builtin "reversed.__new__" ⟨[.type "reversed", .ref r], []⟩)) _ _ s from ?_)
 refine wpAny_bind (wpAny_of_eq (PySem.F.newCall_reversed_1 (.ref r)) (wpAny_pure ⟨plainId_quiet PySem.F.plain_reversed_new _, codeAny_builtin PySem.F.entry_reversed_new ?_⟩))
 rw [Around.under_plainId PySem.F.plain_reversed_new _]
 unfold Builtin.«reversed.__new__»
 refine wpAny_bind (wpAny_of_eq (newClass_reversed (.ref r)) ?_)
 refine wpAny_bind (wpAny_of_eq (a := ()) (by first | rfl | kernel_rfl) (wpAny_bind (wpAny_of_eq (a := ()) (by first | rfl | kernel_rfl) ?_)))
 refine wpAny_bind (wpAny_specialOf hT PySem.F.slot_range_reversed.lookup (wpAny_bind (wpAny_of_eq (PySem.F.slot_range_reversed.bind (.ref r)) ?_)))
 have ne : ¬ ((Value.builtin "range.__reversed__" == Value.none) = true) := Bool.false_ne_true
 dsimp only
 first | rw [if_neg ne] | (show wpAny _ _ (if (Value.builtin "range.__reversed__" == Value.none) = true then _ else _) _ _ _; rw [if_neg ne])
 refine wpAny_bind (wpAny_rule (wpAny_bind (m := runValue (.call (.builtin "range.__reversed__") ⟨[.ref r], []⟩)) ?_))
 show wpAny _ _ (call (.builtin "range.__reversed__") [.ref r]) _ _ _
 refine call_meets PySem.F.slot_range_reversed hT PySem.F.entry_range_reversed (PySem.F.args_range_reversed_1 _) (rr_meets r a b t u v hs) ⟨hr, ?_⟩
 first | exact wpAny_pure q | exact wpAny_bind (wpAny_pure (wpAny_pure q))
theorem rr_call {r : Addr} {a b : Int} {t u v : Tok} {Q : Value → Shared → Prop} (hr : IsRange s.heap r a b 1 t u v)
  (hs : (Builtin.Range.rangeFitsLong a && Builtin.Range.rangeFitsLong b && Builtin.Range.rangeFitsLong 1 && Builtin.Range.rangeFitsLong (-1) && Builtin.Range.rangeFitsLong (a - 1) && Builtin.Range.rangeFitsLong (Builtin.Range.rangeSize a b 1)) = true)
  (q : Q (.ref s.heap.objs.size) { s with heap := s.heap.push (upIt a (Builtin.Range.rangeSize a b 1)) }) : wpAny (model prog w) A (call (.type "reversed") [.ref r]) Q E s := by
 refine callType_other (U := "range_iterator") (Q₁ := fun o z => o = .ref s.heap.objs.size ∧ z = { s with heap := s.heap.push (upIt a (Builtin.Range.rangeSize a b 1)) }) (by decide +kernel) PySem.F.create_reversed ⟨_, _, PySem.F.mro_reversed⟩ PySem.F.made_reversed rr_sub (PySem.F.typeCall_reversed_1 _) (rr_code hr hs ⟨rfl, rfl⟩) ?_
 rintro o z ⟨rfl, rfl⟩
 exact ⟨⟨_, Heap.get?_push_size _ rfl, rfl⟩, q⟩
end
section
variable {X : Cx} {tg : Expr}
noncomputable def iRevR (ta : TA) : TI := fun σ H R => ta σ H fun vs H1 => ∃ (i : Int) (n : Nat), vs = [.int i, .int (i + n)] ∧ 0 ≤ i ∧ i + n ≤ 100000 ∧ R (Itr3 (i + n - 1) (-1) n) H1
theorem pi_revR {a b : Expr} {ta : TA} {p1 p2 pos pos2 : Pos} (hgl : Gl X "reversed") (hml : X.mg "reversed" = none) (hg : Gl X "range") (hm : X.mg "range" = none) (ha : PA X [a, b] ta) (hs : starEach [a, b] X.env = [(false, eval a X.env), (false, eval b X.env)] := by rfl) (hsb : starEach [b] X.env = [(false, eval b X.env)] := by rfl)
  (hs2 : starEach [.Call (.Name "range" p2) [a, b] [] pos2] X.env = [(false, eval (.Call (.Name "range" p2) [a, b] [] pos2) X.env)] := by rfl) : PI X tg (.Call (.Name "reversed" p1) [.Call (.Name "range" p2) [a, b] [] pos2] [] pos) (iRevR ta) := by
 intro pins s σ H R I h
 refine Call_ (ld_blt I hgl hml boot_reversed (PyProof.Rows.callWith_type1 ?_ hs2 rfl))
 rw [hs2]
 refine Calls.spliced_cons ?_
 refine Call_ (ld_blt I hg hm boot_range (PyProof.Rows.callWith_type1 (thn (ha pos2 pins s σ H _ I h) fun us s1 ⟨vs, H1, I1, r1, q1⟩ => ?_) (by rw [hs, hsb]) (by rw [hsb]; rfl)))
 obtain ⟨i, n, e, h0, h1, q⟩ := q1
 subst e
 obtain ⟨u, v, rfl, ru, rv⟩ := r1.two
 obtain ⟨t, rfl⟩ := ru
 obtain ⟨t', rfl⟩ := rv
 refine call_range_2 (Calls.spliced_nil ?_)
 have hr : Builtin.Range.rangeSize i (i + n) 1 = n := by rw [rangeSize_one]; split <;> omega
 have fits : (Builtin.Range.rangeFitsLong i && Builtin.Range.rangeFitsLong (i + n) && Builtin.Range.rangeFitsLong 1 && Builtin.Range.rangeFitsLong (-1) && Builtin.Range.rangeFitsLong (i - 1) && Builtin.Range.rangeFitsLong (Builtin.Range.rangeSize i (i + n) 1)) = true := by
  rw [hr, fits62 (by omega) (by omega), fits62 (by omega) (by omega), fits62 (by decide) (by decide), fits62 (by decide) (by decide), fits62 (by omega) (by omega), fits62 (by omega) (by omega)]
  rfl
 refine rr_call (IsRange.new ..) fits ?_
 rw [hr]
 have I2 : Inv X pins σ H1 { s1 with heap := s1.heap.push { cls := .type "range", data := .fields #[.int i t, .int (i + n) t', .int 1 s1.toks] }, toks := s1.toks + 1 } := I1.kept fun b o e => Heap.get?_push_of_some _ e
 have st : IsRangeIter ((s1.heap.push { cls := .type "range", data := .fields #[.int i t, .int (i + n) t', .int 1 s1.toks] }).push (upIt i n)) (s1.heap.push { cls := .type "range", data := .fields #[.int i t, .int (i + n) t', .int 1 s1.toks] }).objs.size (i + n - 1 + ((0 : Nat) : Int) * (-1)) ((n : Int) - ((0 : Nat) : Int)) (-1) := by
  have e1 : i + (n : Int) - 1 + ((0 : Nat) : Int) * (-1) = i + ((n : Int) - 1) * 1 := by simp; omega
  have e2 : (n : Int) - ((0 : Nat) : Int) = n := by simp
  rw [e1, e2]
  exact Heap.get?_push_size _ rfl
 refine wpAny_pyIter_rangeiter st ?_
 refine ⟨_, [(s1.heap.push { cls := .type "range", data := .fields #[.int i t, .int (i + n) t', .int 1 s1.toks] }).objs.size], _, _, H1, rfl, I2.kept (t' := s1.toks + 1) fun b o e => Heap.get?_push_of_some _ e, turn_range3 _ (i + n - 1) (-1) n, st, fun b hb => ?_, q⟩
 have e : b = (s1.heap.push { cls := .type "range", data := .fields #[.int i t, .int (i + n) t', .int 1 s1.toks] }).objs.size := by simpa using hb
 subst e
 exact I2.fpOk (Nat.le_refl _) (I2.hok.fresh (Nat.le_refl _))
theorem for_range3 {lo st : Int} {n : Nat} {g : TG} {tb : TS} {D : Ends} {σ : St} {H : Hp} (Pv : Nat → St → Hp → Prop) (h0 : Pv 0 σ H)
  (hs : ∀ (i : Nat) σ H, i < n → Pv i σ H → g (.int (lo + i * st)) σ H fun σ2 H2 => tb { D with nx := Pv (i + 1), ct := Pv (i + 1), bk := D.nx } σ2 H2) (hd : ∀ σ H, Pv n σ H → D.nx σ H) :
  ∃ W : Nat → Nat → St → Hp → Prop, (∃ m, W 0 m σ H) ∧ ∀ i m σ H, W i m σ H →
   ((Itr3 lo st n).stop i H ∧ D.nx σ H) ∨ ((Itr3 lo st n).go i H ∧ ∃ N : St → Hp → Prop, (∀ σ' H', N σ' H' → ∃ m', m' < m ∧ W (i + 1) m' σ' H') ∧ ∀ x H', (Itr3 lo st n).yld i H x H' → g x σ H' fun σ2 H2 => tb { D with nx := N, ct := N, bk := D.nx } σ2 H2) := by
 refine ⟨fun i m σ H => m = n - i ∧ i ≤ n ∧ Pv i σ H, ⟨n, by simp, Nat.zero_le _, h0⟩, ?_⟩
 rintro i m σ H ⟨rfl, hi, p⟩
 by_cases hlt : i < n
 ·refine .inr ⟨hlt, Pv (i + 1), fun σ' H' p' => ⟨n - (i + 1), by omega, rfl, hlt, p'⟩, fun x H' y => ?_⟩
  obtain ⟨e, y⟩ := y
  subst e y
  exact hs i σ _ hlt p
 ·have e : i = n := by omega
  subst e
  exact .inl ⟨Nat.le_refl _, hd σ H p⟩
end
end L2
set_option maxHeartbeats 4000000
namespace KT
open PySem L2
noncomputable def mV : Option Nat → V
 | none => .non
 | some j => .int j
structure TD (M : List (Option Nat)) (ns : List Int) : Prop where
 n : ∃ n, 1 ≤ n ∧ n ≤ 40 ∧ M.length = 3 * n
 len : ns.length = M.length
 inv : ∀ (i j : Nat), M[i]? = some (some j) → M[j]? = some (some i) ∧ i ≠ j
 rng : ∀ (i : Nat) x, ns[i]? = some x → 0 ≤ x ∧ x ≤ 9999
 eqv : ∀ (i j : Nat) x, ns[i]? = some x → ns[j]? = some x → i = j ∨ M[i]? = some (some j)
 eqm : ∀ (i j : Nat), M[i]? = some (some j) → ns[j]? = ns[i]?
structure SewOk (N : Nat) (F : List Nat) (M : List (Option Nat)) : Prop where
 len : M.length = N
 nd : F.Nodup
 free : ∀ f ∈ F, f < N ∧ M[f]? = some none
 inv : ∀ (i j : Nat), M[i]? = some (some j) → M[j]? = some (some i) ∧ i ≠ j
theorem SewOk.start (N : Nat) : SewOk N (List.range N) (List.replicate N none) := by
 refine ⟨by simp, List.nodup_range, fun f hf => ?_, fun i j h => ?_⟩
 ·have h := List.mem_range.mp hf
  exact ⟨h, by rw [List.getElem?_replicate, if_pos h]⟩
 ·rw [List.getElem?_replicate] at h
  split at h <;> cases h
theorem SewOk.skip {N : Nat} {one : Nat} {F : List Nat} {M : List (Option Nat)} (h : SewOk N (one :: F) M) : SewOk N F M :=
 ⟨h.len, (List.nodup_cons.mp h.nd).2, fun f hf => h.free f (List.mem_cons_of_mem _ hf), h.inv⟩
theorem SewOk.pair {N : Nat} {one other k : Nat} {F : List Nat} {M : List (Option Nat)} (h : SewOk N (one :: F) M) (hk : F[k]? = some other) : SewOk N (F.eraseIdx k) ((M.set one (some other)).set other (some one)) := by
 obtain ⟨n1, n2⟩ := List.nodup_cons.mp h.nd
 have hm : other ∈ F := List.mem_of_getElem? hk
 have hne : one ≠ other := fun z => n1 (z ▸ hm)
 obtain ⟨h1, f1⟩ := h.free one List.mem_cons_self
 obtain ⟨h2, f2⟩ := h.free other (List.mem_cons_of_mem _ hm)
 have l1 : one < M.length := by rw [h.len]; exact h1
 have l2 : other < M.length := by rw [h.len]; exact h2
 have g1 : ((M.set one (some other)).set other (some one))[one]? = some (some other) := by
  rw [List.getElem?_set_ne (Ne.symm hne), List.getElem?_set_self l1]
 have g2 : ((M.set one (some other)).set other (some one))[other]? = some (some one) := by
  rw [List.getElem?_set_self (by rw [List.length_set]; exact l2)]
 have g3 : ∀ i, i ≠ one → i ≠ other → ((M.set one (some other)).set other (some one))[i]? = M[i]? := fun i a b => by
  rw [List.getElem?_set_ne (Ne.symm b), List.getElem?_set_ne (Ne.symm a)]
 refine ⟨by rw [List.length_set, List.length_set]; exact h.len, n2.sublist (List.eraseIdx_sublist F k), fun f hf => ?_, fun i j e => ?_⟩
 ·obtain ⟨i, hi, hik, e⟩ := List.mem_eraseIdx_iff_getElem.mp hf
  have fm : f ∈ F := e ▸ List.getElem_mem hi
  obtain ⟨a, b⟩ := h.free f (List.mem_cons_of_mem _ fm)
  have c1 : f ≠ one := fun z => n1 (z ▸ fm)
  have c2 : f ≠ other := fun z => by
   obtain ⟨hk', ek⟩ := List.getElem?_eq_some_iff.mp hk
   exact hik ((List.getElem_inj n2).mp (e.trans (z.trans ek.symm)))
  exact ⟨a, by rw [g3 f c1 c2]; exact b⟩
 ·by_cases c1 : i = one
  ·subst c1
   rw [g1] at e
   cases e
   exact ⟨g2, hne⟩
  ·by_cases c2 : i = other
   ·subst c2
    rw [g2] at e
    cases e
    exact ⟨g1, Ne.symm hne⟩
   ·rw [g3 i c1 c2] at e
    obtain ⟨a, b⟩ := h.inv i j e
    have d1 : j ≠ one := fun z => by rw [z, f1] at a; cases a
    have d2 : j ≠ other := fun z => by rw [z, f2] at a; cases a
    exact ⟨by rw [g3 j d1 d2]; exact a, b⟩
noncomputable def nm (s t : Int) (i : Nat) : Int := (s + t * i) % 10000
noncomputable def rep (M : List (Option Nat)) (i : Nat) : Nat := match M[i]? with
 | some (some j) => if j < i then j else i
 | _ => i
noncomputable def flat (M : List (Option Nat)) (s t : Int) : List Int := (List.range M.length).map fun i => nm s t (rep M i)
noncomputable def steps : List Int := [1, 3, 7, 9, 37, 1009, 3333, 9999]
theorem nm_d : ∀ t ∈ steps, ∀ d : Fin 42, t * ((d.val : Nat) : Int) % 10000 = 0 → d.val = 0 := by decide +kernel
theorem nm_inj {s t : Int} (ht : t ∈ steps) {i j : Nat} (hi : i < 42) (hj : j < 42) (h : nm s t i = nm s t j) : i = j := by
  have key : ∀ a b : Nat, b ≤ a → a < 42 → nm s t a = nm s t b → a = b := fun a b hab ha e => by
    have e2 := Int.emod_eq_emod_iff_emod_sub_eq_zero.mp e
    rw [Int.add_sub_add_left, ← Int.mul_sub, ← Int.natCast_sub hab] at e2
    have := nm_d t ht ⟨a - b, Nat.lt_of_le_of_lt (Nat.sub_le _ _) ha⟩ e2
    exact Nat.le_antisymm (Nat.sub_eq_zero_iff_le.mp this) hab
  rcases Nat.le_total i j with h' | h'
  · exact (key j i h' hj h.symm).symm
  · exact key i j h' hi h
theorem rep_lt {M : List (Option Nat)} {i N : Nat} (h : i < N) : rep M i < N := by
 unfold rep
 split
 ·split <;> omega
 ·exact h
theorem rep_cases (M : List (Option Nat)) (i : Nat) : rep M i = i ∨ (∃ j, M[i]? = some (some j) ∧ j < i ∧ rep M i = j) := by
 cases e : M[i]? with
 | none => exact .inl (by unfold rep; rw [e])
 | some o =>
  cases o with
  | none => exact .inl (by unfold rep; rw [e])
  | some j =>
   by_cases h : j < i
   ·exact .inr ⟨j, rfl, h, by unfold rep; rw [e]; exact if_pos h⟩
   ·exact .inl (by unfold rep; rw [e]; exact if_neg h)
theorem flat_get {M : List (Option Nat)} {s t : Int} {i : Nat} {x : Int} (h : (flat M s t)[i]? = some x) : i < M.length ∧ x = nm s t (rep M i) := by
 unfold flat at h
 rw [List.getElem?_map] at h
 by_cases hi : i < M.length
 ·rw [List.getElem?_range hi] at h
  exact ⟨hi, (Option.some.inj h).symm⟩
 ·rw [List.getElem?_eq_none (by simpa using hi)] at h
  cases h
theorem flat_at {M : List (Option Nat)} {s t : Int} {i : Nat} (hi : i < M.length) : (flat M s t)[i]? = some (nm s t (rep M i)) := by
 unfold flat
 rw [List.getElem?_map, List.getElem?_range hi]
 rfl
theorem td_flat {M : List (Option Nat)} {s t : Int} {n : Nat} (h1 : 1 ≤ n) (h2 : n ≤ 14) (hM : M.length = 3 * n) (hinv : ∀ (i j : Nat), M[i]? = some (some j) → M[j]? = some (some i) ∧ i ≠ j) (ht : t ∈ steps) : TD M (flat M s t) where
 n := ⟨n, h1, by omega, hM⟩
 len := by unfold flat; simp
 inv := hinv
 rng := fun i x h => by
  obtain ⟨_, rfl⟩ := flat_get h
  unfold nm
  omega
 eqv := fun i j x hi hj => by
  obtain ⟨li, ei⟩ := flat_get hi
  obtain ⟨lj, ej⟩ := flat_get hj
  have e : rep M i = rep M j := nm_inj ht (by have := rep_lt (M := M) li; omega) (by have := rep_lt (M := M) lj; omega) (ei.symm.trans ej)
  rcases rep_cases M i with a | ⟨a, ha, la, ra⟩
  ·rcases rep_cases M j with b | ⟨b, hb, lb, rb⟩
   ·exact .inl (a.symm.trans (e.trans b))
   ·have : b = i := by rw [← rb, ← e, a]
    subst this
    exact .inr (hinv j b hb).1
  ·rcases rep_cases M j with b | ⟨b, hb, lb, rb⟩
   ·have : a = j := by rw [← ra, e, b]
    subst this
    exact .inr ha
   ·have : a = b := by rw [← ra, e, rb]
    subst this
    have c1 := (hinv i a ha).1
    have c2 := (hinv j a hb).1
    rw [c1] at c2
    exact .inl (by cases c2; rfl)
 eqm := fun i j h => by
  obtain ⟨h', hne⟩ := hinv i j h
  have li : i < M.length := (List.getElem?_eq_some_iff.mp h).1
  have lj : j < M.length := (List.getElem?_eq_some_iff.mp h').1
  rw [flat_at li, flat_at lj]
  have e : rep M j = rep M i := by
   by_cases c : j < i
   ·have a : rep M i = j := by unfold rep; rw [h]; exact if_pos c
    have b : rep M j = j := by unfold rep; rw [h']; exact if_neg (by omega)
    rw [a, b]
   ·have a : rep M i = i := by unfold rep; rw [h]; exact if_neg c
    have b : rep M j = i := by unfold rep; rw [h']; exact if_pos (by omega)
    rw [a, b]
  rw [e]
end KT
set_option maxHeartbeats 4000000
namespace KT
open PySem L2
noncomputable def pl (ns : List Int) (n : Nat) (x : Int) : List Nat := (List.range n).filter fun i => decide (ns[i]? = some x)
noncomputable def keys (ns : List Int) : Nat → List Int
 | 0 => []
 | n + 1 => match ns[n]? with
  | some x => if x ∈ keys ns n then keys ns n else keys ns n ++ [x]
  | none => keys ns n
theorem pl_mem {ns : List Int} {n : Nat} {x : Int} {i : Nat} : i ∈ pl ns n x ↔ i < n ∧ ns[i]? = some x := by
 unfold pl
 rw [List.mem_filter, List.mem_range]
 simp
theorem pl_nodup (ns : List Int) (n : Nat) (x : Int) : (pl ns n x).Nodup := (List.nodup_range).sublist List.filter_sublist
theorem pl_sorted (ns : List Int) (n : Nat) (x : Int) : (pl ns n x).Pairwise (· < ·) := (List.pairwise_lt_range).sublist List.filter_sublist
theorem pl_same {ns : List Int} {n : Nat} {x : Int} (h : ns[n]? = some x) : pl ns (n + 1) x = pl ns n x ++ [n] := by
 unfold pl
 rw [List.range_succ, List.filter_append]
 congr 1
 simp [h]
theorem pl_other {ns : List Int} {n : Nat} {x : Int} (h : ns[n]? ≠ some x) : pl ns (n + 1) x = pl ns n x := by
 unfold pl
 rw [List.range_succ, List.filter_append]
 simp [h]
theorem keys_step {ns : List Int} {n : Nat} {x : Int} (h : ns[n]? = some x) : keys ns (n + 1) = if x ∈ keys ns n then keys ns n else keys ns n ++ [x] := by
 show (match ns[n]? with | some x => if x ∈ keys ns n then keys ns n else keys ns n ++ [x] | none => keys ns n) = _
 rw [h]
theorem keys_mem {ns : List Int} : ∀ {n : Nat} {x : Int}, x ∈ keys ns n ↔ ∃ i, i < n ∧ ns[i]? = some x
 | 0, x => by simp [keys]
 | n + 1, x => by
  have ih := keys_mem (ns := ns) (n := n) (x := x)
  have e : x ∈ keys ns (n + 1) ↔ x ∈ keys ns n ∨ ns[n]? = some x := by
   cases h : ns[n]? with
   | none =>
    have : keys ns (n + 1) = keys ns n := by
     show (match ns[n]? with | some x => if x ∈ keys ns n then keys ns n else keys ns n ++ [x] | none => keys ns n) = _
     rw [h]
    rw [this]; simp
   | some y =>
    rw [keys_step h]
    split
    ·constructor
     ·exact .inl
     ·rintro (z | z)
      ·exact z
      ·cases z; assumption
    ·rw [List.mem_append, List.mem_singleton]
     constructor
     ·rintro (z | z)
      ·exact .inl z
      ·exact .inr (by rw [z])
     ·rintro (z | z)
      ·exact .inl z
      ·exact .inr (by cases z; rfl)
  rw [e, ih]
  constructor
  ·rintro (⟨i, h1, h2⟩ | h)
   ·exact ⟨i, by omega, h2⟩
   ·exact ⟨n, by omega, h⟩
  ·rintro ⟨i, h1, h2⟩
   by_cases c : i = n
   ·subst c; exact .inr h2
   ·exact .inl ⟨i, by omega, h2⟩
theorem keys_len (ns : List Int) : ∀ n, (keys ns n).length ≤ n
 | 0 => Nat.le_refl _
 | n + 1 => by
  have ih := keys_len ns n
  cases h : ns[n]? with
  | none =>
   have : keys ns (n + 1) = keys ns n := by
    show (match ns[n]? with | some x => if x ∈ keys ns n then keys ns n else keys ns n ++ [x] | none => keys ns n) = _
    rw [h]
   rw [this]; omega
  | some y =>
   rw [keys_step h]
   split
   ·omega
   ·rw [List.length_append, List.length_singleton]; omega
theorem pl_nil {ns : List Int} {n : Nat} {x : Int} (h : x ∉ keys ns n) : pl ns n x = [] := by
 cases e : pl ns n x with
 | nil => rfl
 | cons a r =>
  have : a ∈ pl ns n x := by rw [e]; exact List.mem_cons_self
  obtain ⟨h1, h2⟩ := pl_mem.mp this
  exact absurd (keys_mem.mpr ⟨a, h1, h2⟩) h
theorem pl_le2 {M : List (Option Nat)} {ns : List Int} (td : TD M ns) (n : Nat) (x : Int) : (pl ns n x).length ≤ 2 := by
 match e : pl ns n x with
 | [] => simp
 | [_] => simp
 | [_, _] => simp
 | a :: b :: c :: r =>
  exfalso
  have nd := pl_nodup ns n x
  rw [e] at nd
  have ha := (pl_mem.mp (show a ∈ pl ns n x by rw [e]; simp)).2
  have hb := (pl_mem.mp (show b ∈ pl ns n x by rw [e]; simp)).2
  have hc := (pl_mem.mp (show c ∈ pl ns n x by rw [e]; simp)).2
  simp only [List.nodup_cons, List.mem_cons, not_or] at nd
  obtain ⟨⟨n1, n2, _⟩, ⟨n3, _⟩, _⟩ := nd
  rcases td.eqv a b x ha hb with z | z
  ·exact n1 z
  ·rcases td.eqv a c x ha hc with y | y
   ·exact n2 y
   ·rw [z] at y
    cases y
    exact n3 rfl
theorem pl_cases {M : List (Option Nat)} {ns : List Int} (td : TD M ns) {x : Int} (hx : x ∈ keys ns ns.length) :
  (∃ a, pl ns ns.length x = [a] ∧ ns[a]? = some x ∧ M[a]? = some none) ∨ (∃ a b, a < b ∧ pl ns ns.length x = [a, b] ∧ ns[a]? = some x ∧ ns[b]? = some x ∧ M[a]? = some (some b) ∧ M[b]? = some (some a)) := by
 obtain ⟨i, h1, h2⟩ := keys_mem.mp hx
 have mi : i ∈ pl ns ns.length x := pl_mem.mpr ⟨h1, h2⟩
 have l2 := pl_le2 td ns.length x
 have st := pl_sorted ns ns.length x
 match e : pl ns ns.length x with
 | [] => rw [e] at mi; simp at mi
 | [a] =>
  obtain ⟨ga, ha⟩ := pl_mem.mp (show a ∈ pl ns ns.length x by rw [e]; simp)
  refine .inl ⟨a, rfl, ha, ?_⟩
  have la : a < M.length := by rw [← td.len]; exact ga
  cases q : M[a]? with
  | none => rw [List.getElem?_eq_none_iff] at q; omega
  | some o =>
   cases o with
   | none => rfl
   | some b =>
    exfalso
    have hb : ns[b]? = some x := by rw [td.eqm a b q]; exact ha
    have mb : b ∈ pl ns ns.length x := pl_mem.mpr ⟨(List.getElem?_eq_some_iff.mp hb).1, hb⟩
    rw [e, List.mem_singleton] at mb
    exact (td.inv a b q).2 mb.symm
 | [a, b] =>
  obtain ⟨ga, ha⟩ := pl_mem.mp (show a ∈ pl ns ns.length x by rw [e]; simp)
  obtain ⟨gb, hb⟩ := pl_mem.mp (show b ∈ pl ns ns.length x by rw [e]; simp)
  rw [e] at st
  have hab : a < b := by simpa using st
  rcases td.eqv a b x ha hb with z | z
  ·omega
  ·exact .inr ⟨a, b, hab, rfl, ha, hb, z, (td.inv a b z).1⟩
 | a :: b :: c :: r => rw [e] at l2; simp at l2
noncomputable def part (M : List (Option Nat)) (ns : List Int) (ks : List Int) : List (Option Nat) := (List.range M.length).map fun i => match ns[i]? with
 | some x => if x ∈ ks then M.getD i none else none
 | none => none
theorem part_len (M : List (Option Nat)) (ns ks : List Int) : (part M ns ks).length = M.length := by unfold part; simp
theorem part_get {M : List (Option Nat)} {ns ks : List Int} (td : TD M ns) {i : Nat} {x : Int} (h : ns[i]? = some x) : (part M ns ks)[i]? = some (if x ∈ ks then M.getD i none else none) := by
 have li : i < M.length := by rw [← td.len]; exact (List.getElem?_eq_some_iff.mp h).1
 unfold part
 rw [List.getElem?_map, List.getElem?_range li]
 simp [h]
theorem part_nil {M : List (Option Nat)} {ns : List Int} (td : TD M ns) : part M ns [] = List.replicate M.length none := by
 apply List.ext_getElem?
 intro i
 by_cases li : i < M.length
 ·obtain ⟨x, hx⟩ : ∃ x, ns[i]? = some x := ⟨_, List.getElem?_eq_getElem (by rw [td.len]; exact li)⟩
  rw [part_get td hx, List.getElem?_replicate, if_pos li]
  simp
 ·rw [List.getElem?_eq_none (by rw [part_len]; omega), List.getElem?_eq_none (by simp; omega)]
theorem part_all {M : List (Option Nat)} {ns : List Int} (td : TD M ns) : part M ns (keys ns ns.length) = M := by
 apply List.ext_getElem?
 intro i
 by_cases li : i < M.length
 ·have ln : i < ns.length := by rw [td.len]; exact li
  obtain ⟨x, hx⟩ : ∃ x, ns[i]? = some x := ⟨_, List.getElem?_eq_getElem ln⟩
  rw [part_get td hx, if_pos (keys_mem.mpr ⟨i, ln, hx⟩), List.getD_eq_getElem?_getD, List.getElem?_eq_getElem li]
  rfl
 ·rw [List.getElem?_eq_none (by rw [part_len]; omega), List.getElem?_eq_none (by omega)]
theorem part_rim {M : List (Option Nat)} {ns ks : List Int} (td : TD M ns) {x : Int} {a : Nat} (hp : pl ns ns.length x = [a]) (hm : M[a]? = some none) : part M ns (ks ++ [x]) = part M ns ks := by
 apply List.ext_getElem?
 intro i
 by_cases li : i < M.length
 ·have ln : i < ns.length := by rw [td.len]; exact li
  obtain ⟨y, hy⟩ : ∃ x, ns[i]? = some x := ⟨_, List.getElem?_eq_getElem ln⟩
  rw [part_get td hy, part_get td hy]
  by_cases c : y = x
  ·subst c
   have : i ∈ pl ns ns.length y := pl_mem.mpr ⟨ln, hy⟩
   rw [hp, List.mem_singleton] at this
   subst this
   have : M.getD i none = none := by rw [List.getD_eq_getElem?_getD, hm]; rfl
   rw [this]
   simp
  ·simp [c]
 ·rw [List.getElem?_eq_none (by rw [part_len]; omega), List.getElem?_eq_none (by rw [part_len]; omega)]
theorem part_sewn {M : List (Option Nat)} {ns ks : List Int} (td : TD M ns) {x : Int} {a b : Nat} (hp : pl ns ns.length x = [a, b]) (hab : a < b) (ha : M[a]? = some (some b)) (hb : M[b]? = some (some a)) :
  part M ns (ks ++ [x]) = ((part M ns ks).set a (some b)).set b (some a) := by
 have la : a < M.length := (List.getElem?_eq_some_iff.mp ha).1
 have lb : b < M.length := (List.getElem?_eq_some_iff.mp hb).1
 have na := (pl_mem.mp (show a ∈ pl ns ns.length x by rw [hp]; simp)).2
 have nb := (pl_mem.mp (show b ∈ pl ns ns.length x by rw [hp]; simp)).2
 apply List.ext_getElem?
 intro i
 by_cases li : i < M.length
 ·have ln : i < ns.length := by rw [td.len]; exact li
  obtain ⟨y, hy⟩ : ∃ x, ns[i]? = some x := ⟨_, List.getElem?_eq_getElem ln⟩
  rw [part_get td hy]
  by_cases cb : i = b
  ·subst cb
   rw [nb] at hy; cases hy
   rw [List.getElem?_set_self (by rw [List.length_set, part_len]; exact lb), if_pos (by simp), List.getD_eq_getElem?_getD, hb]
   rfl
  ·rw [List.getElem?_set_ne (Ne.symm cb)]
   by_cases ca : i = a
   ·subst ca
    rw [na] at hy; cases hy
    rw [List.getElem?_set_self (by rw [part_len]; exact la), if_pos (by simp), List.getD_eq_getElem?_getD, ha]
    rfl
   ·rw [List.getElem?_set_ne (Ne.symm ca), part_get td hy]
    have : y ≠ x := by
     rintro rfl
     have : i ∈ pl ns ns.length y := pl_mem.mpr ⟨ln, hy⟩
     rw [hp] at this
     simp at this
     omega
    simp [this]
 ·rw [List.getElem?_eq_none (by rw [part_len]; omega), List.getElem?_eq_none (by rw [List.length_set, List.length_set, part_len]; omega)]
end KT
set_option maxHeartbeats 4000000
namespace KT
open PySem L2
noncomputable def nV (i : Nat) : V := .int (i : Int)
theorem val_map {g : Int → V} {y : Int} : ∀ {ks : List Int}, valV (ks.map fun x => ((Sum.inl x : Key), g x)) (Sum.inl y) = if y ∈ ks then some (g y) else none
 | [] => by simp [valV]
 | k :: r => by
  have ih := val_map (g := g) (y := y) (ks := r)
  unfold valV at ih ⊢
  rw [List.map_cons, List.find?_cons]
  by_cases c : k = y
  ·subst c
   simp
  ·have : (decide ((Sum.inl k : Key) = Sum.inl y)) = false := by
    rw [decide_eq_false_iff_not]
    intro z
    cases z
    exact c rfl
   simp only [this]
   rw [ih]
   have : (y ∈ k :: r) ↔ y ∈ r := by
    rw [List.mem_cons]
    exact ⟨fun z => z.elim (fun w => absurd w.symm c) id, .inr⟩
   simp only [this]
theorem put_new {g : Int → V} {y : Int} {v : V} {ks : List Int} (h : y ∉ ks) : putK (ks.map fun x => ((Sum.inl x : Key), g x)) (Sum.inl y) v = (ks.map fun x => ((Sum.inl x : Key), g x)) ++ [(Sum.inl y, v)] := by
 unfold putK
 rw [if_neg]
 intro z
 rw [List.any_eq_true] at z
 obtain ⟨kv, h1, h2⟩ := z
 obtain ⟨x, hx, rfl⟩ := List.mem_map.mp h1
 have : (Sum.inl x : Key) = Sum.inl y := of_decide_eq_true h2
 cases this
 exact h hx
theorem map_at {α : Type} {f : α → V} {l : List α} {i : Nat} {x : α} (h : l[i]? = some x) : atI (l.map f) (i : Int) = some (f x) := atI_nat (by rw [List.getElem?_map, h]; rfl)
theorem upd_none {H : Hp} {p q : Addr} {o : HO} (h : upd H p o q = none) : q ≠ p ∧ H q = none := by
 by_cases c : q = p
 ·subst c; rw [upd_same] at h; cases h
 ·rw [upd_ne c] at h; exact ⟨c, h⟩
end KT
set_option maxHeartbeats 4000000
namespace KT
open PySem L2
noncomputable def after (p : Int) : Int := if p % 3 = 2 then p - 2 else p + 1
noncomputable def before (p : Int) : Int := if p % 3 = 0 then p + 2 else p - 1
noncomputable def fourL (left : Bool) (a b : Nat) : List Int := if left then [after a, before b, after b, before a] else [after a, before a, after b, before b]
noncomputable def mvI (left : Bool) (a b : Nat) (z : Int) : Int :=
 if z = after a then (if left then before b else before a) else if z = before b then (if left then after b else after a) else if z = after b then (if left then before a else before b) else if z = before a then (if left then after a else after b) else z
noncomputable def glV (left : Bool) (a b : Nat) : List (Key × V) := (fourL left a b).map fun x => ((Sum.inl x : Key), V.int (mvI left a b x))
theorem after_div (p : Nat) : after p / 3 = (p : Int) / 3 ∧ after p ≠ p ∧ 0 ≤ after p := by unfold after; split <;> omega
theorem before_div (p : Nat) : before p / 3 = (p : Int) / 3 ∧ before p ≠ p ∧ 0 ≤ before p := by unfold before; split <;> omega
theorem after_before (p : Nat) : after p ≠ before p := by unfold after before; split <;> split <;> omega
theorem four_apart {a b : Nat} (h : a / 3 ≠ b / 3) : after a ≠ before a ∧ after a ≠ after b ∧ after a ≠ before b ∧ before a ≠ after b ∧ before a ≠ before b ∧ after b ≠ before b := by
 obtain ⟨h1, _, _⟩ := after_div a
 obtain ⟨h2, _, _⟩ := before_div a
 obtain ⟨h3, _, _⟩ := after_div b
 obtain ⟨h4, _, _⟩ := before_div b
 have e : ¬ (a : Int) / 3 = (b : Int) / 3 := by omega
 refine ⟨after_before a, fun z => e ?_, fun z => e ?_, fun z => e ?_, fun z => e ?_, after_before b⟩
 ·rw [← h1, ← h3, z]
 ·rw [← h1, ← h4, z]
 ·rw [← h2, ← h3, z]
 ·rw [← h2, ← h4, z]
theorem mergeK_app : ∀ (kvs acc : List (Key × V)), ((acc ++ kvs).map (·.1)).Nodup → mergeK acc kvs = acc ++ kvs
 | [], acc, _ => by simp [mergeK]
 | kv :: r, acc, h => by
  have h1 : (acc.any fun x => decide (x.1 = kv.1)) = false := by
   rw [List.any_eq_false]
   intro x hx z
   have z : x.1 = kv.1 := of_decide_eq_true z
   rw [List.map_append, List.map_cons] at h
   have := (List.nodup_append.mp h).2.2 x.1 (List.mem_map.mpr ⟨x, hx, rfl⟩) kv.1 List.mem_cons_self
   exact this z
  have h2 : putK acc kv.1 kv.2 = acc ++ [kv] := by
   unfold putK
   rw [if_neg (by rw [h1]; decide)]
  show mergeK (putK acc kv.1 kv.2) r = _
  rw [h2, mergeK_app r (acc ++ [kv]) (by simpa using h)]
  simp
theorem merge_gl {left : Bool} {a b : Nat} (h : a / 3 ≠ b / 3) : mergeK [] (glV left a b) = glV left a b := by
 obtain ⟨h1, h2, h3, h4, h5, h6⟩ := four_apart h
 refine mergeK_app (glV left a b) [] ?_
 unfold glV fourL
 rw [List.nil_append, List.map_map]
 cases left <;> simp [h1, h2, h3, h4, h5, h6, Ne.symm h1, Ne.symm h2, Ne.symm h3, Ne.symm h4, Ne.symm h5, Ne.symm h6]
theorem glV_left {a b : Nat} (h : a / 3 ≠ b / 3) : glV true a b = [(Sum.inl (after a), .int (before b)), (Sum.inl (before b), .int (after b)), (Sum.inl (after b), .int (before a)), (Sum.inl (before a), .int (after a))] := by
 obtain ⟨h1, h2, h3, h4, h5, h6⟩ := four_apart h
 unfold glV fourL mvI
 simp [h1, h2, h3, h4, h5, h6, Ne.symm h1, Ne.symm h2, Ne.symm h3, Ne.symm h4, Ne.symm h5, Ne.symm h6]
theorem glV_right {a b : Nat} (h : a / 3 ≠ b / 3) : glV false a b = [(Sum.inl (after a), .int (before a)), (Sum.inl (before a), .int (after b)), (Sum.inl (after b), .int (before b)), (Sum.inl (before b), .int (after a))] := by
 obtain ⟨h1, h2, h3, h4, h5, h6⟩ := four_apart h
 unfold glV fourL mvI
 simp [h1, h2, h3, h4, h5, h6, Ne.symm h1, Ne.symm h2, Ne.symm h3, Ne.symm h4, Ne.symm h5, Ne.symm h6]
end KT
set_option maxHeartbeats 4000000
namespace KT
open PySem L2
theorem mv_cases (left : Bool) (i j : Nat) (z : Int) : mvI left i j z = z ∨ mvI left i j z = after i ∨ mvI left i j z = before i ∨ mvI left i j z = after j ∨ mvI left i j z = before j := by
 unfold mvI
 by_cases c1 : z = after i
 ·cases left <;> simp [c1]
 ·by_cases c2 : z = before j
  ·rw [if_neg c1, if_pos c2]; cases left <;> simp
  ·by_cases c3 : z = after j
   ·rw [if_neg c1, if_neg c2, if_pos c3]; cases left <;> simp
   ·by_cases c4 : z = before i
    ·rw [if_neg c1, if_neg c2, if_neg c3, if_pos c4]; cases left <;> simp
    ·rw [if_neg c1, if_neg c2, if_neg c3, if_neg c4]; exact .inl rfl
noncomputable def mvN (left : Bool) (i j z : Nat) : Nat := (mvI left i j z).toNat
theorem mv_nonneg (left : Bool) (i j z : Nat) : 0 ≤ mvI left i j z := by
 have h1 := (after_div i).2.2
 have h2 := (before_div i).2.2
 have h3 := (after_div j).2.2
 have h4 := (before_div j).2.2
 rcases mv_cases left i j z with e | e | e | e | e <;> rw [e] <;> omega
theorem mvN_eq (left : Bool) (i j z : Nat) : ((mvN left i j z : Nat) : Int) = mvI left i j z := Int.toNat_of_nonneg (mv_nonneg left i j z)
theorem mvI_inv {i j : Nat} (h : i / 3 ≠ j / 3) (left : Bool) (z : Int) : mvI (!left) i j (mvI left i j z) = z := by
 obtain ⟨h1, h2, h3, h4, h5, h6⟩ := four_apart h
 by_cases c1 : z = after i
 ·subst c1; cases left <;> simp [mvI, h1, h2, h3, h4, h5, h6, Ne.symm h1, Ne.symm h2, Ne.symm h3, Ne.symm h4, Ne.symm h5, Ne.symm h6]
 ·by_cases c2 : z = before j
  ·subst c2; cases left <;> simp [mvI, h1, h2, h3, h4, h5, h6, Ne.symm h1, Ne.symm h2, Ne.symm h3, Ne.symm h4, Ne.symm h5, Ne.symm h6]
  ·by_cases c3 : z = after j
   ·subst c3; cases left <;> simp [mvI, h1, h2, h3, h4, h5, h6, Ne.symm h1, Ne.symm h2, Ne.symm h3, Ne.symm h4, Ne.symm h5, Ne.symm h6]
   ·by_cases c4 : z = before i
    ·subst c4; cases left <;> simp [mvI, h1, h2, h3, h4, h5, h6, Ne.symm h1, Ne.symm h2, Ne.symm h3, Ne.symm h4, Ne.symm h5, Ne.symm h6]
    ·cases left <;> simp [mvI, c1, c2, c3, c4]
theorem mvN_inv {i j : Nat} (h : i / 3 ≠ j / 3) (left : Bool) (z : Nat) : mvN (!left) i j (mvN left i j z) = z := by
 have := mvI_inv h left z
 rw [← mvN_eq left, ← mvN_eq] at this
 omega
theorem mvN_inv' {i j : Nat} (h : i / 3 ≠ j / 3) (left : Bool) (z : Nat) : mvN left i j (mvN (!left) i j z) = z := by
 have := mvN_inv h (!left) z
 rw [Bool.not_not] at this
 exact this
theorem cl_lt {p : Int} {q i n : Nat} (e : (q : Int) = p) (h : p / 3 = (i : Int) / 3) (hi : i < 3 * n) : q < 3 * n := by omega
theorem cl_in {p : Int} {i n : Nat} (h0 : 0 ≤ p) (h : p / 3 = (i : Int) / 3) (hi : i < 3 * n) : 0 ≤ p ∧ p < 3 * (n : Int) := ⟨h0, by omega⟩
theorem mvN_lt {i j n : Nat} (hi : i < 3 * n) (hj : j < 3 * n) (left : Bool) {z : Nat} (hz : z < 3 * n) : mvN left i j z < 3 * n := by
 have e := mvN_eq left i j z
 rcases mv_cases left i j z with q | q | q | q | q <;> rw [q] at e
 ·exact cl_lt e rfl hz
 ·exact cl_lt e (after_div i).1 hi
 ·exact cl_lt e (before_div i).1 hi
 ·exact cl_lt e (after_div j).1 hj
 ·exact cl_lt e (before_div j).1 hj
theorem mvN_inj {i j : Nat} (h : i / 3 ≠ j / 3) (left : Bool) {y z : Nat} (e : mvN left i j y = mvN left i j z) : y = z := by
 have := congrArg (mvN (!left) i j) e
 rw [mvN_inv h, mvN_inv h] at this
 exact this
noncomputable def exN (left : Bool) (i j : Nat) (ns : List Int) : List Int := (List.range ns.length).map fun z => ns.getD (mvN (!left) i j z) 0
noncomputable def exM (left : Bool) (i j : Nat) (M : List (Option Nat)) : List (Option Nat) := (List.range M.length).map fun z => (M.getD (mvN (!left) i j z) none).map (mvN left i j)
theorem exN_len (left : Bool) (i j : Nat) (ns : List Int) : (exN left i j ns).length = ns.length := by unfold exN; simp
theorem exM_len (left : Bool) (i j : Nat) (M : List (Option Nat)) : (exM left i j M).length = M.length := by unfold exM; simp
section
variable {M : List (Option Nat)} {ns : List Int} {i j : Nat}
theorem exN_get (td : TD M ns) (hi : i < M.length) (hj : j < M.length) (h : i / 3 ≠ j / 3) (left : Bool) {z : Nat} : z < M.length → (exN left i j ns)[z]? = ns[mvN (!left) i j z]? := by
 intro hz
 obtain ⟨n, _, _, hn⟩ := td.n
 rw [hn] at hi hj hz
 have hz' := mvN_lt hi hj (!left) hz
 have l1 : z < ns.length := by rw [td.len, hn]; exact hz
 have l2 : mvN (!left) i j z < ns.length := by rw [td.len, hn]; exact hz'
 unfold exN
 rw [List.getElem?_map, List.getElem?_range l1]
 show some (ns.getD _ 0) = _
 rw [List.getD_eq_getElem?_getD, List.getElem?_eq_getElem l2]
 rfl
theorem exM_get (td : TD M ns) (hi : i < M.length) (hj : j < M.length) (h : i / 3 ≠ j / 3) (left : Bool) {z : Nat} : z < M.length → (exM left i j M)[z]? = (M[mvN (!left) i j z]?).map (Option.map (mvN left i j)) := by
 intro hz
 obtain ⟨n, _, _, hn⟩ := td.n
 have hz0 := hz
 rw [hn] at hi hj hz
 have hz' := mvN_lt hi hj (!left) hz
 have l2 : mvN (!left) i j z < M.length := by rw [hn]; exact hz'
 unfold exM
 rw [List.getElem?_map, List.getElem?_range hz0]
 show some ((M.getD _ none).map _) = _
 rw [List.getD_eq_getElem?_getD, List.getElem?_eq_getElem l2]
 rfl
theorem TD.ex (td : TD M ns) (hi : i < M.length) (hj : j < M.length) (h : i / 3 ≠ j / 3) (left : Bool) : TD (exM left i j M) (exN left i j ns) where
 n := by obtain ⟨n, a, b, c⟩ := td.n; exact ⟨n, a, b, by rw [exM_len]; exact c⟩
 len := by rw [exN_len, exM_len]; exact td.len
 inv := fun p q e => by
  have hp : p < M.length := by have := (List.getElem?_eq_some_iff.mp e).1; rw [exM_len] at this; exact this
  rw [exM_get td hi hj h left hp] at e
  cases e1 : M[mvN (!left) i j p]? with
  | none => rw [e1] at e; cases e
  | some o =>
   cases o with
   | none => rw [e1] at e; cases e
   | some b =>
    rw [e1] at e
    have e2 : mvN left i j b = q := by have := Option.some.inj e; exact Option.some.inj this
    obtain ⟨i1, i2⟩ := td.inv _ _ e1
    have hb : b < M.length := (List.getElem?_eq_some_iff.mp i1).1
    obtain ⟨n, _, _, hn⟩ := td.n
    have hq : q < M.length := by rw [← e2, hn]; rw [hn] at hi hj hb; exact mvN_lt hi hj left hb
    have eb : mvN (!left) i j q = b := by rw [← e2, mvN_inv h]
    refine ⟨?_, fun z => i2 ?_⟩
    ·rw [exM_get td hi hj h left hq, eb, i1]
     show some (some (mvN left i j (mvN (!left) i j p))) = _
     rw [mvN_inv' h]
    ·rw [z, eb]
 rng := fun p x e => by
  have hp : p < M.length := by have := (List.getElem?_eq_some_iff.mp e).1; rw [exN_len, td.len] at this; exact this
  rw [exN_get td hi hj h left hp] at e
  exact td.rng _ x e
 eqv := fun p q x e1 e2 => by
  have hp : p < M.length := by have := (List.getElem?_eq_some_iff.mp e1).1; rw [exN_len, td.len] at this; exact this
  have hq : q < M.length := by have := (List.getElem?_eq_some_iff.mp e2).1; rw [exN_len, td.len] at this; exact this
  rw [exN_get td hi hj h left hp] at e1
  rw [exN_get td hi hj h left hq] at e2
  rcases td.eqv _ _ x e1 e2 with z | z
  ·exact .inl (mvN_inj h (!left) z)
  ·right
   rw [exM_get td hi hj h left hp, z]
   show some (some (mvN left i j (mvN (!left) i j q))) = _
   rw [mvN_inv' h]
 eqm := fun p q e => by
  have hp : p < M.length := by have := (List.getElem?_eq_some_iff.mp e).1; rw [exM_len] at this; exact this
  have e0 := e
  rw [exM_get td hi hj h left hp] at e
  cases e1 : M[mvN (!left) i j p]? with
  | none => rw [e1] at e; cases e
  | some o =>
   cases o with
   | none => rw [e1] at e; cases e
   | some b =>
    rw [e1] at e
    have e2 : mvN left i j b = q := by have := Option.some.inj e; exact Option.some.inj this
    obtain ⟨i1, i2⟩ := td.inv _ _ e1
    have hb : b < M.length := (List.getElem?_eq_some_iff.mp i1).1
    obtain ⟨n, _, _, hn⟩ := td.n
    have hq : q < M.length := by rw [← e2, hn]; rw [hn] at hi hj hb; exact mvN_lt hi hj left hb
    have eb : mvN (!left) i j q = b := by rw [← e2, mvN_inv h]
    rw [exN_get td hi hj h left hp, exN_get td hi hj h left hq, eb]
    exact td.eqm _ _ e1
end
noncomputable def nst (left : Bool) (i j : Nat) (ns : List Int) (k : Nat) : List Int := (List.range ns.length).map fun z => if ((mvN (!left) i j z : Nat) : Int) ∈ (fourL left i j).take k then ns.getD (mvN (!left) i j z) 0 else ns.getD z 0
theorem nst_zero (left : Bool) (i j : Nat) (ns : List Int) : nst left i j ns 0 = ns := by
 apply List.ext_getElem?
 intro z
 unfold nst
 rw [List.getElem?_map]
 by_cases hz : z < ns.length
 ·rw [List.getElem?_range hz, List.take_zero]
  simp [hz]
 ·rw [List.getElem?_eq_none (by simpa using hz), List.getElem?_eq_none (by omega)]
  rfl
theorem mv_other {i j : Nat} {left : Bool} {z : Int} (h : z ∉ fourL left i j) (l2 : Bool) : mvI l2 i j z = z := by
 have n1 : ¬ z = after i := fun e => h (by unfold fourL; split <;> simp [e])
 have n2 : ¬ z = before j := fun e => h (by unfold fourL; split <;> simp [e])
 have n3 : ¬ z = after j := fun e => h (by unfold fourL; split <;> simp [e])
 have n4 : ¬ z = before i := fun e => h (by unfold fourL; split <;> simp [e])
 unfold mvI
 rw [if_neg n1, if_neg n2, if_neg n3, if_neg n4]
theorem four_len (left : Bool) (i j : Nat) : (fourL left i j).length = 4 := by unfold fourL; split <;> rfl
theorem nst_all {i j : Nat} (h : i / 3 ≠ j / 3) (left : Bool) (ns : List Int) : nst left i j ns 4 = exN left i j ns := by
 unfold nst exN
 apply List.map_congr_left
 intro z _
 by_cases c : ((mvN (!left) i j z : Nat) : Int) ∈ (fourL left i j).take 4
 ·rw [if_pos c]
 ·rw [if_neg c]
  rw [List.take_of_length_le (Nat.le_of_eq (four_len left i j))] at c
  have e1 := mv_other c left
  rw [mvN_eq, ] at e1
  have e2 := mvI_inv h (!left) (z : Int)
  rw [Bool.not_not] at e2
  rw [e2] at e1
  have : mvN (!left) i j z = z := by have := mvN_eq (!left) i j z; omega
  rw [this]
theorem nst_step {i j : Nat} (h : i / 3 ≠ j / 3) {left : Bool} {ns : List Int} {k p : Nat} (hk : (fourL left i j)[k]? = some (p : Int)) (hq : mvN left i j p < ns.length) :
  (nst left i j ns k).set (mvN left i j p) (ns.getD p 0) = nst left i j ns (k + 1) := by
 apply List.ext_getElem?
 intro z
 unfold nst
 by_cases c : z = mvN left i j p
 ·subst c
  rw [List.getElem?_set_self (by simpa using hq), List.getElem?_map, List.getElem?_range hq]
  have e : mvN (!left) i j (mvN left i j p) = p := mvN_inv h left p
  have : ((mvN (!left) i j (mvN left i j p) : Nat) : Int) ∈ (fourL left i j).take (k + 1) := by rw [e, List.take_add_one, hk]; simp
  simp only [Option.map_some, this, if_true]
  rw [e]
 ·rw [List.getElem?_set_ne (Ne.symm c), List.getElem?_map, List.getElem?_map]
  by_cases d : z < ns.length
  ·rw [List.getElem?_range d]
   have ne : ¬ ((mvN (!left) i j z : Nat) : Int) = (p : Int) := fun e => c (by
    have e : mvN (!left) i j z = p := by omega
    rw [← e, mvN_inv' h])
   have : ((mvN (!left) i j z : Nat) : Int) ∈ (fourL left i j).take (k + 1) ↔ ((mvN (!left) i j z : Nat) : Int) ∈ (fourL left i j).take k := by
    rw [List.take_add_one, hk]
    simp [ne]
   simp only [Option.map_some, this]
  ·rw [List.getElem?_eq_none (by simpa using d)]
   rfl
theorem four_in {left : Bool} {i j n k : Nat} {p : Int} (hi : i < 3 * n) (hj : j < 3 * n) (hk : (fourL left i j)[k]? = some p) : 0 ≤ p ∧ p < 3 * (n : Int) := by
 have hm : p ∈ fourL left i j := List.mem_of_getElem? hk
 obtain ⟨a1, _, a3⟩ := after_div i
 obtain ⟨b1, _, b3⟩ := before_div i
 obtain ⟨c1, _, c3⟩ := after_div j
 obtain ⟨d1, _, d3⟩ := before_div j
 have hm : p = after i ∨ p = before i ∨ p = after j ∨ p = before j := by
  unfold fourL at hm
  split at hm <;> simp at hm <;> rcases hm with e | e | e | e <;> simp [e]
 rcases hm with e | e | e | e <;> rw [e]
 ·exact cl_in a3 a1 hi
 ·exact cl_in b3 b1 hi
 ·exact cl_in c3 c1 hj
 ·exact cl_in d3 d1 hj
noncomputable def mfil {α : Type} (left : Bool) (i j n : Nat) (f : Nat → α) (d : α) (k : Nat) : List α := (List.range n).map fun z => if mvN (!left) i j z < k then f z else d
theorem mfil_zero {α : Type} (left : Bool) (i j n : Nat) (f : Nat → α) (d : α) : mfil left i j n f d 0 = List.replicate n d := by
 unfold mfil
 apply List.ext_getElem?
 intro z
 rw [List.getElem?_map, List.getElem?_replicate]
 by_cases h : z < n
 ·rw [List.getElem?_range h, if_pos h]; simp
 ·rw [List.getElem?_eq_none (by simpa using h), if_neg h]; rfl
theorem mfil_len {α : Type} (left : Bool) (i j n : Nat) (f : Nat → α) (d : α) (k : Nat) : (mfil left i j n f d k).length = n := by unfold mfil; simp
theorem mfil_step {α : Type} {left : Bool} {i j n : Nat} {f : Nat → α} {d : α} {k : Nat} (h : i / 3 ≠ j / 3) (hk : mvN left i j k < n) : (mfil left i j n f d k).set (mvN left i j k) (f (mvN left i j k)) = mfil left i j n f d (k + 1) := by
 apply List.ext_getElem?
 intro z
 unfold mfil
 by_cases c : z = mvN left i j k
 ·subst c
  rw [List.getElem?_set_self (by simpa using hk), List.getElem?_map, List.getElem?_range hk]
  have e : mvN (!left) i j (mvN left i j k) = k := mvN_inv h left k
  simp only [Option.map_some]
  rw [e, if_pos (by omega)]
 ·rw [List.getElem?_set_ne (Ne.symm c), List.getElem?_map, List.getElem?_map]
  by_cases d : z < n
  ·rw [List.getElem?_range d]
   have ne : mvN (!left) i j z ≠ k := fun e => c (by rw [← e, mvN_inv' h])
   have : mvN (!left) i j z < k + 1 ↔ mvN (!left) i j z < k := by omega
   simp only [Option.map_some, this]
  ·rw [List.getElem?_eq_none (by simpa using d)]
   rfl
theorem mfil_skip {α : Type} {left : Bool} {i j n : Nat} {f : Nat → α} {d : α} {k : Nat} (h : i / 3 ≠ j / 3) (hd : f (mvN left i j k) = d) : mfil left i j n f d k = mfil left i j n f d (k + 1) := by
 unfold mfil
 apply List.map_congr_left
 intro z _
 by_cases c : mvN (!left) i j z = k
 ·have : z = mvN left i j k := by rw [← c, mvN_inv' h]
  subst this
  rw [if_neg (by omega), if_pos (by omega), hd]
 ·have : mvN (!left) i j z < k + 1 ↔ mvN (!left) i j z < k := by omega
  simp only [this]
theorem mfil_all {α : Type} {left : Bool} {i j m : Nat} {f : Nat → α} {d : α} (hi : i < 3 * m) (hj : j < 3 * m) : mfil left i j (3 * m) f d (3 * m) = (List.range (3 * m)).map f := by
 unfold mfil
 apply List.map_congr_left
 intro z hz
 rw [if_pos (mvN_lt hi hj _ (List.mem_range.mp hz))]
end KT
set_option maxHeartbeats 4000000
namespace KT
open PySem L2
noncomputable def side (p k : Nat) : Nat := p - p % 3 + (p + k) % 3
theorem side_lt {p k n : Nat} (h : p < 3 * n) : side p k < 3 * n := by unfold side; omega
theorem side_div (p k : Nat) : side p k / 3 = p / 3 := by unfold side; omega
end KT
set_option maxHeartbeats 4000000
namespace KT
open PySem L2
structure Pl (M : List (Option Nat)) (ws : List Nat) : Prop where
 ne : ws ≠ []
 has : ∀ p ∈ ws, ∃ m, M[p]? = some (some m)
 nxt : ∀ (k : Nat) (a p : Nat), ws[k]? = some a → ws[(k + 1) % ws.length]? = some p → ∀ m, M[a]? = some (some m) → p / 3 = m / 3 ∧ p ≠ m
noncomputable abbrev wI (ws : List Nat) : List Int := ws.map fun (x : Nat) => (x : Int)
structure Ch (M : List (Option Nat)) (row : List Nat) : Prop where
 has : ∀ p ∈ row, ∃ m, M[p]? = some (some m)
 nxt : ∀ (k : Nat) (a p m : Nat), row[k]? = some a → row[k + 1]? = some p → M[a]? = some (some m) → p / 3 = m / 3 ∧ p ≠ m
theorem Ch.one {M : List (Option Nat)} {p m : Nat} (h : M[p]? = some (some m)) : Ch M [p] := by
 refine ⟨fun q hq => ?_, fun k a q m' _ hq => ?_⟩
 ·rw [List.mem_singleton] at hq; subst hq; exact ⟨m, h⟩
 ·simp at hq
theorem Ch.snoc {M : List (Option Nat)} {row : List Nat} {a p m : Nat} (h : Ch M row) (hl : row.getLast? = some a) (hm : M[a]? = some (some m)) (h1 : p / 3 = m / 3) (h2 : p ≠ m) (hp : ∃ q, M[p]? = some (some q)) : Ch M (row ++ [p]) := by
 refine ⟨fun q hq => ?_, fun k b q m' hb hq hm' => ?_⟩
 ·rcases List.mem_append.mp hq with z | z
  ·exact h.has q z
  ·rw [List.mem_singleton] at z; subst z; exact hp
 ·by_cases c : k + 1 < row.length
  ·rw [List.getElem?_append_left c] at hq
   rw [List.getElem?_append_left (by omega)] at hb
   exact h.nxt k b q m' hb hq hm'
  ·have hk : k + 1 < (row ++ [p]).length := (List.getElem?_eq_some_iff.mp hq).1
   rw [List.length_append, List.length_singleton] at hk
   have hk : k + 1 = row.length := by omega
   rw [List.getElem?_append_right (by omega), hk] at hq
   have : q = p := by simpa using hq.symm
   subst this
   rw [List.getElem?_append_left (by omega)] at hb
   rw [List.getLast?_eq_getElem?, show row.length - 1 = k by omega, hb] at hl
   cases hl
   rw [hm] at hm'
   cases hm'
   exact ⟨h1, h2⟩
theorem Ch.cut {M : List (Option Nat)} {row : List Nat} {s e a : Nat} (h : Ch M row) (hse : s < e) (h1 : row[s]? = some a) (h2 : row[e]? = some a) : Pl M ((row.drop s).take (e - s)) := by
 have he : e < row.length := (List.getElem?_eq_some_iff.mp h2).1
 have hl : ((row.drop s).take (e - s)).length = e - s := by rw [List.length_take, List.length_drop]; omega
 have gt : ∀ k, k < e - s → ((row.drop s).take (e - s))[k]? = row[s + k]? := fun k hk => by rw [List.getElem?_take_of_lt hk, List.getElem?_drop]
 refine ⟨fun z => by rw [z] at hl; simp at hl; omega, fun p hp => ?_, fun k b p hb hp m hm => ?_⟩
 ·exact h.has p (List.mem_of_mem_drop (List.mem_of_mem_take hp))
 ·rw [hl] at hp
  have hk : k < e - s := by have := (List.getElem?_eq_some_iff.mp hb).1; rw [hl] at this; exact this
  rw [gt k hk] at hb
  by_cases c : k + 1 < e - s
  ·rw [Nat.mod_eq_of_lt c, gt _ c] at hp
   exact h.nxt (s + k) b p m hb (by rw [show s + k + 1 = s + (k + 1) by omega]; exact hp) hm
  ·have hk : k + 1 = e - s := by omega
   rw [hk, Nat.mod_self, gt 0 (by omega), Nat.add_zero, h1] at hp
   cases hp
   exact h.nxt (s + k) b a m hb (by rw [show s + k + 1 = e by omega]; exact h2) hm
end KT
set_option maxHeartbeats 4000000
namespace KT
open PySem L2
end KT
set_option maxHeartbeats 4000000
namespace L2
open PySem PySem.Spec PyProof.Rows
end L2
set_option maxHeartbeats 4000000
namespace L2
open PySem PySem.Spec PyProof.Rows
end L2
set_option maxHeartbeats 4000000
namespace HL
open PySem PyProof.Rows HT
end HL
set_option maxHeartbeats 4000000
namespace L2
open PySem PySem.Spec PyProof.Rows
end L2
namespace HT
end HT
set_option maxHeartbeats 4000000
namespace L2
open PySem PySem.Spec PyProof.Rows
end L2
set_option maxHeartbeats 4000000
namespace L2
open PySem PySem.Spec PyProof.Rows
end L2
set_option maxHeartbeats 4000000
namespace L2
open PySem PySem.Spec PyProof.Rows
section
variable {X : Cx} {pins : List (Addr × Obj)} {σ : St} {H : Hp} {s : Shared} {a : Addr}
theorem Inv.thaw {kvs : List (Key × V)} {ob : Obj} (I : Inv X pins σ H s) (e : H a = some (.frz ob (.dK kvs))) (h0 : ∀ o u, X.H₀ a ≠ some (.frz o u)) : Inv X pins σ (upd H a (.dK kvs)) s := by
 have nown : ∀ c y, H c = some (.own y) → c ≠ a := fun c y r z => by subst z; rw [r] at e; cases e
 have ntup : ∀ c xs, H c = some (.tup xs) → c ≠ a := fun c xs r z => by subst z; rw [r] at e; cases e
 have nnon : ∀ c, H c = none → c ≠ a := fun c r z => by subst z; rw [r] at e; cases e
 have hok : HOk X.prog X.w (upd H a (.dK kvs)) s.heap := fun b v q => by
  have st : ∀ c w', ObjOk X.prog X.w H s.heap c w' → ObjOk X.prog X.w (upd H a (.dK kvs)) s.heap c w' := fun c w' x => x.stay (fun _ _ _ q => q) (fun d r => by rw [upd_ne (nown d c r)]; exact r) fun d xs r => by rw [upd_ne (ntup d xs r)]; exact r
  by_cases hb : b = a
  ·subst hb
   rw [upd_same] at q
   cases q
   exact st _ _ (I.hok _ _ e).2
  ·rw [upd_ne hb] at q
   exact st _ _ (I.hok b v q)
 refine ⟨I.ok, I.os, I.bare, ⟨I.base.keep, I.base.slot, fun b o q n hx => ?_, I.base.there, fun b xs q => ?_, fun b o u q => ?_, fun b ps q => ?_⟩, I.loc, I.cell, ?_, fun x c q => ?_, fun p hp => ?_, hok, I.len⟩
 ·have := I.base.free b o q n hx
  rw [upd_ne (nnon b this)]; exact this
 ·have := I.base.tups b xs q
  rw [upd_ne (ntup b xs this)]; exact this
 ·have := I.base.frzs b o u q
  rw [upd_ne (fun z => by subst z; exact h0 _ _ q)]; exact this
 ·obtain ⟨more, z⟩ := I.base.tbls b ps q
  exact ⟨more, by rw [upd_ne (fun w => by subst w; rw [z] at e; cases e)]; exact z⟩
 ·have := I.free
  rw [upd_ne (nnon _ this)]; exact this
 ·have := I.freeC x c q
  rw [upd_ne (nnon _ this)]; exact this
 ·obtain ⟨q1, q2, q3⟩ := I.pin p hp
  exact ⟨q1, by rw [upd_ne (nnon _ q2)]; exact q2, q3⟩
end
end L2
set_option maxHeartbeats 4000000
namespace L2
open PySem PySem.Spec PyProof.Rows
end L2
namespace L2
open PySem PySem.Spec PyProof.Rows
section
variable {X : Cx}
theorem shaped_s1 {x : Str} (hx : PyData.strOk x = true) : SeqAt.shaped (.list [.str x]) = true := by
 have h3 : PyData.depth (.list [.str x]) ≤ 64 := by simp only [PyData.depth, PyData.depthAll]; omega
 show (PyData.canLay0 _ && decide (PyData.depth _ ≤ 64)) = true
 rw [Bool.and_eq_true]
 exact ⟨by simp only [PyData.canLay0, PyData.canLayAll0, hx, Bool.and_self], decide_eq_true h3⟩
theorem s1_reads {pins : List (Addr × Obj)} {σ : St} {H : Hp} {s : Shared} {p : Addr} {x : Str} (I : Inv X pins σ H s) (h : SqL X.K H p [.str x]) : ∃ as, Reads s.heap (.ref p) (.list [.str x]) as := by
 obtain ⟨ip, rp, pp, _⟩ := I.list h
 obtain ⟨u, rfl, ru⟩ := rp.one
 obtain ⟨t, rfl⟩ := ru
 obtain ⟨o, ho, hc, n, hd⟩ := pp.isList
 exact ⟨_, Reads.list ho hc hd (.cons (.str x t) .nil)⟩
noncomputable def rEqS1 (K : PySem.W.Frag) : R2 := fun x y H Q => ∃ p q a b, x = .ref p ∧ y = .ref q ∧ SqL K H p [.str a] ∧ SqL K H q [.str b] ∧ PyData.strOk a = true ∧ PyData.strOk b = true ∧ Q (.bl (a == b)) H
theorem op_eqS1 (hu : X.A.units + 64 < cLine) : OpR X (compareOp .Eq) (rEqS1 X.K) := by
 intro pins s σ H x y v u Q I rx ry h
 obtain ⟨p, q, a, b, rfl, rfl, hp, hq, oa, ob, k⟩ := h
 cases rx
 cases ry
 obtain ⟨as, ra⟩ := s1_reads I hp
 obtain ⟨bs, rb⟩ := s1_reads I hq
 refine eq_dataH_same ra rb (shaped_s1 oa) (shaped_s1 ob) hu ?_ ?_
 ·simp only [SeqAt.noMix, SeqAt.noMixAll, Bool.and_self]
 ·refine fin_bl I k ?_
  simp only [PySem.Spec.same, PySem.Spec.sameAll, Bool.and_true]
noncomputable def rNeS1 (K : PySem.W.Frag) : R2 := fun x y H Q => ∃ p q a b, x = .ref p ∧ y = .ref q ∧ SqL K H p [.str a] ∧ SqL K H q [.str b] ∧ PyData.strOk a = true ∧ PyData.strOk b = true ∧ Q (.bl (!(a == b))) H
theorem op_neS1 (hu : X.A.units + 64 < cLine) : OpR X (compareOp .NotEq) (rNeS1 X.K) := by
 intro pins s σ H x y v u Q I rx ry h
 obtain ⟨p, q, a, b, rfl, rfl, hp, hq, oa, ob, k⟩ := h
 cases rx
 cases ry
 obtain ⟨as, ra⟩ := s1_reads I hp
 obtain ⟨bs, rb⟩ := s1_reads I hq
 refine ne_dataH_same ra rb (shaped_s1 oa) (shaped_s1 ob) hu ?_ ?_
 ·simp only [SeqAt.noMix, SeqAt.noMixAll, Bool.and_self]
 ·refine fin_bl I k ?_
  simp only [PySem.Spec.same, PySem.Spec.sameAll, Bool.and_true]
end
end L2
set_option maxHeartbeats 4000000
namespace KT
open PySem L2
noncomputable def aftN (i : Nat) : Nat := if i % 3 = 2 then i - 2 else i + 1
theorem aftN_eq (i : Nat) : after (i : Int) = (aftN i : Int) := by unfold after aftN; split <;> split <;> omega
theorem aftN_div (i : Nat) : aftN i / 3 = i / 3 := by unfold aftN; split <;> omega
noncomputable def nxC (M : List (Option Nat)) (c : Nat) : Option Nat := (M[aftN c]?).join
theorem nd_len : ∀ (n : Nat) (l : List Nat), l.Nodup → (∀ a ∈ l, a < n) → l.length ≤ n
 | 0, l, _, h => by
  cases l with
  | nil => exact Nat.le_refl _
  | cons a r => exact absurd (h a List.mem_cons_self) (Nat.not_lt_zero _)
 | n + 1, l, hd, h => by
  have ih := nd_len n (l.erase n) (hd.erase n) fun a ha => by
   have := (List.Nodup.mem_erase_iff hd).mp ha
   have := h a this.2
   omega
  by_cases z : n ∈ l
  ·have := List.length_erase_of_mem z
   omega
  ·rw [List.erase_of_not_mem z] at ih
   omega
end KT
set_option maxHeartbeats 4000000
namespace KT
open PySem L2
noncomputable def befN (i : Nat) : Nat := if i % 3 = 0 then i + 2 else i - 1
theorem befN_eq (i : Nat) : before (i : Int) = (befN i : Int) := by unfold before befN; split <;> split <;> omega
noncomputable abbrev sR : Str := Str.ofString "R"
end KT
set_option maxHeartbeats 4000000
namespace L2
open PySem PySem.Spec PyProof.Rows
end L2
set_option maxHeartbeats 4000000
namespace L2
open PySem PySem.Spec PyProof.Rows
section
variable {X : Cx}
theorem mt_setadd : MtR X "set.add" (fun o xs H Q => ∃ p i S n, o = .ref p ∧ xs = [.int i] ∧ H p = some (.set S n) ∧ n + 1 < 4096 ∧ Q .non (upd H p (.set (fun k => S k || decide (k = i)) (if S i then n else n + 1)))) := by
 intro pins s σ H x xs v us Q I rx rs h
 obtain ⟨p, i, S, n, rfl, rfl, hp, hn, q⟩ := h
 cases rx
 obtain ⟨u, rfl, ru⟩ := vals1 rs
 obtain ⟨t, rfl⟩ := ru
 have hS : s.heap.SetOf (intKind X.prog X.w) p S n := I.hok p _ hp
 refine call_set_add (k := i) (intKind_is _ _ _ _) rfl hS hn fun h' hsb hS' => ?_
 obtain ⟨o, es, ep, tt, ho, hx⟩ := id hS'
 refine ⟨.non, _, I.write (x := p) (e := p) (by rw [hp]; exact trivial) (.inl rfl) (fun b' u hb hu => (hsb.2 b' hb).trans hu) ⟨_, ho⟩ ?_, rfl, q⟩
 exact hS'
theorem op_notIn_seqK (K : PySem.W.Frag) (h : X.K = K := by rfl) : OpR X (compareOp .NotIn) (rIn K true) := h ▸ op_notIn_seq
theorem call_sortedL : CallR X (.builtin "sorted") (fun xs H Q => ∃ (p : Addr) (ks : List Int), xs = [.ref p] ∧ SqL X.K H p (ks.map V.int) ∧ ks.length < 64 ∧
  ∀ (q : Addr) (out : List Int), H q = none → out.Perm ks → out.Pairwise (· ≤ ·) → Q (.ref q) (upd H q (.lst (out.map V.int)))) := by
 intro pins s σ H xs us Q I r h
 obtain ⟨p, ks, rfl, hp, h64, q⟩ := h
 obtain ⟨u, rfl, ru⟩ := vals1 r
 obtain rfl : u = Value.ref p := ru
 obtain ⟨its, rv, pl, _⟩ := I.list hp
 have hI : IntsAre its ks := by simpa using intsAre_of rv
 have hl : its.length = ks.length := by have := rv.length; rw [List.length_map] at this; omega
 refine Calls.call_function_entry kind_sorted plain_sorted entry_sorted (args_sorted1 _) ?_
 unfold Builtin.«sorted»
 refine wpAny_bind (m := checkCount "sorted" 1 1 _) (wpAny_pure ?_)
 refine wpAny_bind (collect_list pl.isList ?_ (by rw [hl, sizeLine_eq]; omega))
 have hk' : ∀ b o, s.heap.get? b = some o → ((s.heap.push (seqObj "list" #[] 0)).update s.heap.objs.size (Obj.mapSeq fun x => x ++ its.toArray)).get? b = some o := fun b o e =>
  (Heap.get?_update_other _ _ (Nat.ne_of_gt (Heap.lt_size e))).trans (Heap.get?_push_of_some _ e)
 generalize (s.heap.push (seqObj "list" #[] 0)).update s.heap.objs.size (Obj.mapSeq fun x => x ++ its.toArray) = h' at hk'
 refine wpAny_bind (wpAny_newList ?_ (by rw [hl, sizeLine_eq]; omega))
 have I1 : Inv X pins σ H { s with heap := h' } := I.kept (t' := s.toks) hk'
 have hoL : (h'.push { cls := .type "list", data := .seq its.toArray }).get? h'.objs.size = some (seqObj "list" its.toArray 0) := Heap.get?_push_size _ rfl
 refine wpAny_bind (wpAny_holding (wpAny_call_entry slot_list_sort ⟨_, hoL, rfl⟩ entry_list_sort (list_sort_tree hoL hI (by omega) fun out ns' a1 a2 a3 => ⟨_, rfl, ?_⟩) (args_list_sort _)))
 refine wpAny_pure ⟨_, rfl, ?_⟩
 obtain ⟨e, he⟩ := sortedHeap_at (out := out) hoL
 have kp : ∀ b u, h'.get? b = some u → (sortedHeap (h'.push { cls := .type "list", data := .seq its.toArray }) h'.objs.size its out).get? b = some u := fun b u hb => by
  have hlt : b < h'.objs.size := Heap.lt_size hb
  rw [sortedHeap_old (Nat.ne_of_lt hlt) (by rw [Heap.size_push]; exact Nat.lt_succ_of_lt hlt)]
  exact Heap.get?_push_of_some _ hb
 have hv : Vals (ns'.map V.int) out.toList := by
  clear he kp
  generalize out.toList = l at a1
  clear a2 a3
  induction a1 with
  | nil => exact .nil
  | cons i t _ ih => exact .cons ⟨_, rfl⟩ ih
 refine ⟨.ref h'.objs.size, upd H h'.objs.size (.lst (ns'.map V.int)), I1.laid kp (Nat.le_refl _) ?_, rfl, q _ ns' I1.fresh a2 a3⟩
 refine ⟨?_, out.toList, e, hv, ?_⟩
 ·rw [List.length_map, a2.length_eq, sizeLine_eq]; omega
 ·rw [he]
end
end L2
set_option maxHeartbeats 4000000
namespace L2
open PySem PySem.Spec PyProof.Rows PySem.SeqAt
mutual
inductive DV (K : PySem.W.Frag) (H : Hp) : V → PyData → Prop
 | non : DV K H .non .none
 | bl (b : Bool) : DV K H (.bl b) (.bool b)
 | int (i : Int) : DV K H (.int i) (.int i)
 | str (x : Str) : DV K H (.str x) (.str x)
 | lst {a : Addr} {xs : List V} {ds : List PyData} : SqL K H a xs → DVs K H xs ds → DV K H (.ref a) (.list ds)
 | tup {a : Addr} {xs : List V} {ds : List PyData} : SqT K H a xs → DVs K H xs ds → DV K H (.ref a) (.tuple ds)
inductive DVs (K : PySem.W.Frag) (H : Hp) : List V → List PyData → Prop
 | nil : DVs K H [] []
 | cons {x : V} {xs : List V} {d : PyData} {ds : List PyData} : DV K H x d → DVs K H xs ds → DVs K H (x :: xs) (d :: ds)
end
section
variable {X : Cx} {pins : List (Addr × Obj)} {σ : St} {H : Hp} {s : Shared}
mutual
theorem DV.reads (I : Inv X pins σ H s) : ∀ {x : V} {d : PyData} {u : Value}, DV X.K H x d → RelV x u → ∃ as, Reads s.heap u d as
 | _, _, _, .non, r => by cases r; exact ⟨_, .none⟩
 | _, _, _, .bl b, r => by cases r; exact ⟨_, .bool b⟩
 | _, _, _, .int i, r => by obtain ⟨t, rfl⟩ := r; exact ⟨_, .int i t⟩
 | _, _, _, .str x, r => by obtain ⟨t, rfl⟩ := r; exact ⟨_, .str x t⟩
 | _, _, _, .lst h hs, r => by
  cases r
  obtain ⟨its, rv, pl, _⟩ := I.list h
  obtain ⟨as, ra⟩ := DVs.reads I hs rv
  obtain ⟨o, ho, hc, n, hd⟩ := pl.isList
  exact ⟨_, .list ho hc hd (by simpa using ra)⟩
 | _, _, _, .tup h hs, r => by
  cases r
  obtain ⟨its, rv, pt, _⟩ := I.tuple h
  obtain ⟨as, ra⟩ := DVs.reads I hs rv
  obtain ⟨o, ho, hc, n, hd⟩ := pt
  exact ⟨_, .tuple ho hc hd (by simpa using ra)⟩
theorem DVs.reads (I : Inv X pins σ H s) : ∀ {xs : List V} {ds : List PyData} {us : List Value}, DVs X.K H xs ds → Vals xs us → ∃ as, ReadsAll s.heap us ds as
 | _, _, _, .nil, r => by cases r; exact ⟨_, .nil⟩
 | _, _, _, .cons h hs, r => by
  cases r with
  | cons r1 r2 =>
   obtain ⟨as, ra⟩ := DV.reads I h r1
   obtain ⟨bs, rb⟩ := DVs.reads I hs r2
   exact ⟨_, .cons ra rb⟩
end
end
section
variable {X : Cx}
noncomputable def rNeD (K : PySem.W.Frag) : R2 := fun x y H Q => ∃ d e, DV K H x d ∧ DV K H y e ∧ shaped d = true ∧ shaped e = true ∧ noMix d e = true ∧ Q (.bl (!same d e)) H
theorem op_neD (hu : X.A.units + 64 < cLine) : OpR X (compareOp .NotEq) (rNeD X.K) := by
 intro pins s σ H x y v u Q I rx ry h
 obtain ⟨d, e, hx, hy, sd, se, hm, q⟩ := h
 obtain ⟨_, r1⟩ := hx.reads I rx
 obtain ⟨_, r2⟩ := hy.reads I ry
 exact ne_dataH_same r1 r2 sd se hu hm ⟨.bl _, H, I, rfl, q⟩
end
end L2
set_option maxHeartbeats 4000000
namespace KT
open PySem L2
end KT
set_option maxHeartbeats 4000000
namespace KT
open PySem L2
theorem ne_af (a : Nat) : ¬ (a : Int) = after a := by have := after_div a; omega
theorem ne_be (a : Nat) : ¬ (a : Int) = before a := by have := before_div a; omega
theorem ne_af' {a b : Nat} (h : a / 3 ≠ b / 3) : ¬ (a : Int) = after b := by have := (after_div b).1; omega
theorem ne_be' {a b : Nat} (h : a / 3 ≠ b / 3) : ¬ (a : Int) = before b := by have := (before_div b).1; omega
end KT
set_option maxHeartbeats 4000000
namespace KT
open PySem L2
theorem mv_a {left : Bool} {a b : Nat} (h : a / 3 ≠ b / 3) : mvN left a b a = a ∧ mvN left a b b = b := by
 have h' := Ne.symm h
 have i1 : mvI left a b a = a := by
  unfold mvI
  rw [if_neg (ne_af a), if_neg (ne_be' h), if_neg (ne_af' h), if_neg (ne_be a)]
 have i2 : mvI left a b b = b := by
  unfold mvI
  rw [if_neg (ne_af' h'), if_neg (ne_be b), if_neg (ne_af b), if_neg (ne_be' h')]
 unfold mvN
 rw [i1, i2]
 exact ⟨Int.toNat_natCast a, Int.toNat_natCast b⟩
end KT
set_option maxHeartbeats 4000000
namespace KT
open PySem L2
end KT
set_option maxHeartbeats 4000000
namespace KT
open PySem L2
end KT
set_option maxHeartbeats 4000000
namespace KT
open PySem L2
end KT
set_option maxHeartbeats 4000000
namespace KT
open PySem L2
theorem befN_div (i : Nat) : befN i / 3 = i / 3 := by unfold befN; split <;> omega
end KT
set_option maxHeartbeats 4000000
namespace KT
open PySem L2
end KT
set_option maxHeartbeats 4000000
namespace KT
open PySem L2
end KT
set_option maxHeartbeats 4000000
namespace L2
open PySem PySem.Spec PyProof.Rows PySem.SeqAt
end L2
set_option maxHeartbeats 4000000
namespace L2
open PySem PySem.Spec PyProof.Rows
noncomputable abbrev TBX := St → Hp → (St → Hp → Prop) → XK → Prop
end L2
set_option maxHeartbeats 4000000
namespace L2
open PySem PySem.Spec PyProof.Rows
end L2
set_option maxHeartbeats 4000000
namespace HL
open PySem PyProof.Rows HT
end HL
namespace L2
open PySem PySem.Spec PyProof.Rows
end L2
set_option maxHeartbeats 4000000
namespace KT
open PySem L2
noncomputable def aN (a : Nat) : Nat := (after a).toNat
noncomputable def bN (a : Nat) : Nat := (before a).toNat
structure PC (M : List (Option Nat)) (f : Nat → Int) : Prop where
 nn : ∀ p, p < M.length → 0 ≤ f p
 rim : ∀ p : Nat, M[p]? = some none → f p = 0
 mate : ∀ p q : Nat, M[p]? = some (some q) → f q = f p
 even : ∀ p, p < M.length → (f p + f (aN p) + f (bN p)) % 2 = 0
 tri : ∀ p, p < M.length → f p ≤ f (aN p) + f (bN p)
noncomputable def mx (x y : Int) : Int := if y > x then y else x
noncomputable def bh (f : Nat → Int) (a b : Nat) : Int := mx (f (aN a) + f (aN b)) (f (bN a) + f (bN b)) - f a
noncomputable def fx (left : Bool) (a b : Nat) (f : Nat → Int) (z : Nat) : Int := if z = a ∨ z = b then bh f a b else f (mvN (!left) a b z)
end KT
set_option maxHeartbeats 4000000
namespace KT
open PySem L2
noncomputable def sF (f : Nat → Int) : Nat → Int
 | 0 => 0
 | n + 1 => sF f n + f n
end KT
set_option maxHeartbeats 4000000
namespace KT
open PySem L2
end KT
set_option maxHeartbeats 4000000
namespace KT
open PySem L2
end KT
set_option maxHeartbeats 4000000
namespace KT
open PySem L2
section
variable {M : List (Option Nat)} {ns : List Int} {f : Nat → Int} {g : Int → Int}
noncomputable def mu (M : List (Option Nat)) (p : Nat) : Nat := match (M[p]?).join with
 | some q => q
 | none => p
end
end KT
set_option maxHeartbeats 4000000
namespace KT
end KT
set_option maxHeartbeats 4000000
namespace KT
open PySem L2
end KT
set_option maxHeartbeats 4000000
namespace L2
open PySem PySem.Spec PyProof.Rows
noncomputable def tThawE (H0 : Hp) (t : TE) : TE := fun σ H Q => t σ H fun v H' => ∃ (a : Addr) (o : Obj) (kvs : List (Key × V)), H' a = some (.frz o (.dK kvs)) ∧ (∀ o u, H0 a ≠ some (.frz o u)) ∧ Q v (upd H' a (.dK kvs))
theorem pe_thaw {X : Cx} {e : Expr} {t : TE} (h : PE X e t) : PE X e (tThawE X.H₀ t) := by
 intro pins s σ H Q I hw
 refine wpAny_mono (h pins s σ H _ I hw) (fun v s' q => ?_) fun _ _ e => e
 obtain ⟨x, H', I', r, a, o, kvs, e, h0, q⟩ := q
 exact ⟨x, _, I'.thaw e h0, r, q⟩
end L2
set_option maxHeartbeats 4000000
namespace L2
open PySem PySem.Spec PyProof.Rows
end L2
set_option maxHeartbeats 4000000
namespace L2
open PySem PySem.Spec PyProof.Rows
end L2
set_option maxHeartbeats 4000000
namespace L2
open PySem PySem.Spec PyProof.Rows
end L2
set_option maxHeartbeats 4000000
namespace PySem.F
end PySem.F
namespace L2
open PySem PySem.Spec PyProof.Rows
end L2
set_option maxHeartbeats 4000000
namespace L2
open PySem PySem.Spec PyProof.Rows
end L2
set_option maxHeartbeats 4000000
namespace L2
open PySem PySem.Spec PyProof.Rows
noncomputable def dd (ks : List Int) : List Int := ks.foldl step_dedup []
theorem dd_fold : ∀ (ks acc : List Int), acc.Nodup → (ks.foldl step_dedup acc).Nodup ∧ (∀ x, x ∈ ks.foldl step_dedup acc ↔ x ∈ acc ∨ x ∈ ks) ∧ (ks.foldl step_dedup acc).length ≤ acc.length + ks.length
 | [], acc, h => ⟨h, fun x => by simp, by simp⟩
 | k :: ks, acc, h => by
  have hs : (step_dedup acc k).Nodup ∧ (∀ x, x ∈ step_dedup acc k ↔ x ∈ acc ∨ x = k) ∧ (step_dedup acc k).length ≤ acc.length + 1 := by
   unfold step_dedup
   by_cases c : acc.any (· == k) = true
   ·rw [if_pos c]
    obtain ⟨y, hy, e⟩ := List.any_eq_true.mp c
    have e := beq_iff_eq.mp e
    subst e
    exact ⟨h, fun x => ⟨.inl, fun z => z.elim id fun e => e ▸ hy⟩, by omega⟩
   ·rw [if_neg c]
    have hk : k ∉ acc := fun z => c (List.any_eq_true.mpr ⟨k, z, beq_self_eq_true _⟩)
    refine ⟨?_, fun x => by simp, by simp⟩
    rw [List.nodup_append]
    refine ⟨h, by simp, fun a ha b hb e => ?_⟩
    rw [List.mem_singleton] at hb
    subst hb e
    exact hk ha
  obtain ⟨i1, i2, i3⟩ := dd_fold ks _ hs.1
  rw [List.foldl_cons]
  refine ⟨i1, fun x => ?_, ?_⟩
  ·rw [i2, hs.2.1, List.mem_cons, or_assoc]
  ·have := hs.2.2
   rw [List.length_cons]
   omega
theorem dd_mem {ks : List Int} {x : Int} : x ∈ dd ks ↔ x ∈ ks := by
 have := (dd_fold ks [] List.nodup_nil).2.1 x
 unfold dd
 simpa using this
theorem dd_len (ks : List Int) : (dd ks).length ≤ ks.length := by
 have := (dd_fold ks [] List.nodup_nil).2.2
 unfold dd
 simpa using this
end L2
set_option maxHeartbeats 4000000
namespace L2
open PySem PySem.Spec PyProof.Rows
end L2
set_option maxHeartbeats 1000000
namespace L2
open PySem PySem.Spec PyProof.Rows
section
variable {P : Program} {w : World} {A : Around} {R : Result → Shared → Prop} {s : Shared}
theorem compStart_set {elt t i : Expr} {fs : List Expr} {rest : List Comprehension} {scope : Scope} {pos : Pos} {it acc : Value} {env : Env} (h0 : codeAny (model P w) A (.compLoop (.SetComp elt (⟨t, i, fs, 0⟩ :: rest) scope pos) 0 it acc env) R s)
  (h : wpAny (model P w) A (pyIter it) (fun it' s' => codeAny (model P w) A (.compLoop (.SetComp elt (⟨t, i, fs, 0⟩ :: rest) scope pos) 0 it' acc env) R s') (notedBy (model P w) A env fun x s' => R (.error x) s') s) :
  codeAny (model P w) A (.compStart (.SetComp elt (⟨t, i, fs, 0⟩ :: rest) scope pos) 0 it acc env) R s := by
 refine codeAny_of_tree (show wpAny _ _ ((compStart (.SetComp elt (⟨t, i, fs, 0⟩ :: rest) scope pos) 0 it acc env).onRaise _) _ _ s from ?_)
 refine wpAny_notedAt ?_
 unfold compStart
 show wpAny _ A (ask >>= _) _ _ s
 refine wpAny_bind (wpAny_askSetting (wpAny_ite ?_))
 split
 ·first
   | exact wpAny_pure ⟨rfl, h0⟩
   | exact wpAny_bind (wpAny_pure (wpAny_pure ⟨rfl, h0⟩))
 ·first
   | exact wpAny_bind (wpAny_rule (wpAny_bind (wpAny_standAt (wpAny_bind (wpAny_mono h (fun it' s' z => wpAny_pure ⟨rfl, z⟩) fun _ _ x => x)))))
   | (refine wpAny_bind (wpAny_rule ?_); show wpAny _ _ (standAt i.pos >>= _) _ _ s; exact wpAny_bind (wpAny_standAt (wpAny_bind (wpAny_mono h (fun it' s' z => wpAny_pure ⟨rfl, z⟩) fun _ _ x => x))))
end
noncomputable def tSEmit (te : TE) (D : Addr) : TB := fun σ H N => te σ H fun v H1 => ∃ i S n, v = .int i ∧ H1 D = some (.set S n) ∧ n + 1 < 4096 ∧ N σ (upd H1 D (.set (fun k => S k || decide (k = i)) (if S i then n else n + 1)))
section
variable {X : Cx}
theorem pb_semit {elt : Expr} {te : TE} {D : Addr} {c : Code} {p : Pos} (he : PE X elt te) :
  PB X ((eval elt X.env >>= fun v => standAt p >>= fun _ => call (.builtin "set.add") [.ref D, v] >>= fun _ => pure ()) >>= fun _ => again c) c (tSEmit te D) := by
 intro pins s σ H N I h
 refine wpAny_bind (wpAny_bind (thn (he pins s σ H _ I h) fun u s1 zz34 => ?_))
 obtain ⟨v, H1, I1, r1, q1⟩ := zz34
 refine wpAny_bind (wpAny_standAt ?_)
 obtain ⟨i, S, n, rfl, hD, hl, q⟩ := q1
 refine wpAny_bind (thn (mt_setadd pins s1 σ H1 (.ref D) [.int i] (.ref D) [u] (fun _ H2 => N σ H2) I1 rfl (.cons r1 .nil) ⟨D, i, S, n, rfl, rfl, hD, hl, q⟩) fun _ s2 zz9 => ?_)
 obtain ⟨_, H2, I2, _, q2⟩ := zz9
 exact wpAny_pure (wpAny_pure ⟨rfl, σ, H2, I2, q2⟩)
end
noncomputable def tSComp (ts : List Str) (fv : List (Str × Nat)) (wi : TI) (g : TG) (tt : TT) (tb : Addr → TB) : TE := fun σ H Q => wi σ H fun J H1 => ∀ D, H1 D = none →
 LoopR J g tt (tb D) (fun _ H' => Q (.ref D) H') (blkS ts fv σ) (upd H1 D (.set (fun _ => false) 0))
section
variable {X : Cx} {ts : List Str} {fv : List (Str × Nat)} {scope : Scope} {elt t0 i0 : Expr} {f0 : List Expr} {rest : List Comprehension} {pos : Pos} {wi : TI} {g : TG} {tt : TT} {tb : Addr → TB} {kont : Env → Addr → Addr → Sem Fin}
theorem scomp_core (B : BlkOk X scope fv) (hc : X.calm = true) (hi : PI X t0 i0 wi)
  (hg : ∀ C s₀ H₀ ex, PG (blkCx X (blkN ts fv) scope C s₀ H₀ ex) t0 g) (ht : ∀ C s₀ H₀ ex, PTs (blkCx X (blkN ts fv) scope C s₀ H₀ ex) f0 tt)
  (heq : ∀ (env : Env) (it D : Addr), compTurn (.SetComp elt (⟨t0, i0, f0, 0⟩ :: rest) scope pos) 0 (.ref it) (.ref D) env = (standAt i0.pos >>= fun _ => pyNext (.ref it) >>= fun r => match r with
   | none => pure (.done .next)
   | some v => letOwnedTupleGo t0 (.ref it) v >>= fun _ => assign t0 env v >>= fun _ =>
    (forIn f0 true fun c r => if r = true then do let ok ← isTrue c env (eval c env); pure (ForInStep.yield ok) else pure (ForInStep.yield r)) >>= fun ok =>
     if ok = true then kont env it D else again (.compLoop (.SetComp elt (⟨t0, i0, f0, 0⟩ :: rest) scope pos) 0 (.ref it) (.ref D) env)))
  (hb : ∀ C s₀ H₀ ex it D, PB (blkCx X (blkN ts fv) scope C s₀ H₀ ex) (kont (blkCx X (blkN ts fv) scope C s₀ H₀ ex).env it D) (.compLoop (.SetComp elt (⟨t0, i0, f0, 0⟩ :: rest) scope pos) 0 (.ref it) (.ref D) (blkCx X (blkN ts fv) scope C s₀ H₀ ex).env) (tb D))
  {pins : List (Addr × Obj)} {s : Shared} {σ : St} {H : Hp} {Q : VK} {RR : Value → Addr → Result → Shared → Prop} (I : Inv X pins σ H s) (h : tSComp ts fv wi g tt tb σ H Q)
  (hRR : ∀ D C s' H', Inv X pins σ H' s' → H' C = none → X.s₀.heap.objs.size ≤ C → C ≠ X.env.locals → (∀ x c, X.env.cells.lookup x = some c → c ≠ C) → (∀ p ∈ X.pn ++ pins, p.1 ≠ C) → (∃ m, s'.heap.Ns C m) → Q (.ref D) H' → RR (.ref D) C (.ok .next) s') :
  wpAny (model X.prog X.w) X.A (eval i0 X.env) (fun x s₁ => wpAny (model X.prog X.w) X.A (pyIter x) (fun it s₂ => wpAny (model X.prog X.w) X.A (newSet (.type "set")) (fun acc s₃ =>
   wpAny (model X.prog X.w) X.A (newFunctionEnv scope X.env.globals (cloList X.env scope.names []) [] X.env.qual none .none (some X.env)) (fun cenv s₄ =>
    codeAny (model X.prog X.w) X.A (.compStart (.SetComp elt (⟨t0, i0, f0, 0⟩ :: rest) scope pos) 0 it acc { cenv with scope := relabel scope X.env }) (RR acc cenv.locals) s₄) X.xe s₃) X.xe s₂) X.xe s₁) X.xe s := by
 refine thn (hi pins s σ H _ I h) fun v s1 h1 => thn h1 fun itv s2 h2 => ?_
 obtain ⟨it, fp, tn, J, H2, e, I2, T, st2, f2, L⟩ := h2
 subst e
 have L := L s2.heap.objs.size I2.fresh
 refine wpAny_newSet_of (knd := intKind X.prog X.w) fun led hS => ?_
 have hk0 : ∀ b o, s2.heap.get? b = some o → (s2.heap.push { cls := .type "set", dict := none, data := .set #[] 0 (.fresh 0 0 led) }).get? b = some o := fun _ _ q => Heap.get?_push_of_some _ q
 generalize s2.heap.push { cls := .type "set", dict := none, data := .set #[] 0 (.fresh 0 0 led) } = hp at hk0 hS
 have I3 : Inv X pins σ (upd H2 s2.heap.objs.size (.set (fun _ => false) 0)) { s2 with heap := hp, toks := s2.toks } := I2.laid (a := s2.heap.objs.size) (o := .set (fun _ => false) 0) (t' := s2.toks) hk0 (Nat.le_refl _) hS
 have ho2 : ∀ b ∈ fp, ∃ o, s2.heap.get? b = some o ∧ ∀ v, o.data ≠ .cell v := T.obj _ _ st2
 have f3 : ∀ b ∈ fp, FpOk X pins (upd H2 s2.heap.objs.size (.set (fun _ => false) 0)) b := fun b hb => by
  obtain ⟨o, ho, _⟩ := ho2 b hb
  refine ⟨?_, (f2 b hb).2⟩
  rw [upd_ne (Nat.ne_of_lt (Heap.lt_size ho))]
  exact (f2 b hb).1
 have st3 : tn 0 hp := T.keep _ _ _ st2 fun b _ o e => hk0 b o e
 have ho3 : ∀ b ∈ fp, ∃ o, hp.get? b = some o := fun b hb => let ⟨o, e, _⟩ := ho2 b hb; ⟨o, hk0 _ _ e⟩
 generalize hs3 : ({ s2 with heap := hp, toks := s2.toks } : Shared) = s3 at I3
 have eh : hp = s3.heap := by rw [← hs3]
 rw [eh] at st3 ho3
 refine wpAny_newFunctionEnv B.nocell (by intro y hy; simp at hy) (fun h₁ hns hsb => ?_) B.kind
 have hk : ∀ b o, s3.heap.get? b = some o → h₁.get? b = some o := fun b o e => hsb.extBut b o (Nat.ne_of_lt (Heap.lt_size e)) (Heap.get?_push_of_some _ e)
 have I4 := blk_start (ts := ts) (tk := s3.toks + ([] : List (Str × Value)).length) B I3 f3 ho3 hns hk
 have f4 : ∀ b ∈ fp, FpOk (blkCx X (blkN ts fv) scope s3.heap.objs.size s3 (upd H2 s2.heap.objs.size (.set (fun _ => false) 0)) fp) [] (upd H2 s2.heap.objs.size (.set (fun _ => false) 0)) b := fun b hb => by
  obtain ⟨f0, f1, f2', f3', f4', f5'⟩ := f3 b hb
  obtain ⟨o, eo⟩ := ho3 b hb
  exact ⟨f0, Nat.ne_of_lt (Heap.lt_size eo), I4.ok.exfs b hb, .inl hb, (I4.ok.exf b hb).2, fun p hp => absurd (show p ∈ ([] : List (Addr × Obj)) from hp) (by simp)⟩
 have st4 : tn 0 h₁ := T.keep _ _ _ st3 fun b _ o e => hk b o e
 have loop : codeAny (model X.prog X.w) X.A (.compLoop (.SetComp elt (⟨t0, i0, f0, 0⟩ :: rest) scope pos) 0 (.ref it) (.ref s2.heap.objs.size) (blkCx X (blkN ts fv) scope s3.heap.objs.size s3 (upd H2 s2.heap.objs.size (.set (fun _ => false) 0)) fp).env)
   (RR (.ref s2.heap.objs.size) s3.heap.objs.size) { s3 with heap := h₁, toks := s3.toks + ([] : List (Str × Value)).length } := by
  refine comp_loop (X := blkCx X (blkN ts fv) scope s3.heap.objs.size s3 (upd H2 s2.heap.objs.size (.set (fun _ => false) 0)) fp) (tg := t0) (ifs := f0) (R := fun _ H' => Q (.ref s2.heap.objs.size) H') rfl rfl rfl rfl (heq _ it s2.heap.objs.size) T hc (hg _ _ _ _) (ht _ _ _ _) (hb _ _ _ _ it s2.heap.objs.size) f4 I4 st4 L fun s' σ' H' J' q => ?_
  obtain ⟨e1, e2, e3, e4, e5, e6⟩ := blk_end I3 f3 (Nat.le_refl _) J'
  obtain ⟨m, hm, _⟩ := J'.loc
  exact hRR _ _ s' H' e1 e2 e3 e4 e5 e6 ⟨m, hm⟩ q
 exact compStart_set loop (T.self _ _ _ _ _ st4 loop)
theorem pe_scompG (B : BlkOk X scope fv) (hc : X.calm = true) (hi : PI X t0 i0 wi)
  (hg : ∀ C s₀ H₀ ex, PG (blkCx X (blkN ts fv) scope C s₀ H₀ ex) t0 g) (ht : ∀ C s₀ H₀ ex, PTs (blkCx X (blkN ts fv) scope C s₀ H₀ ex) f0 tt)
  (heq : ∀ (env : Env) (it D : Addr), compTurn (.SetComp elt (⟨t0, i0, f0, 0⟩ :: rest) scope pos) 0 (.ref it) (.ref D) env = (standAt i0.pos >>= fun _ => pyNext (.ref it) >>= fun r => match r with
   | none => pure (.done .next)
   | some v => letOwnedTupleGo t0 (.ref it) v >>= fun _ => assign t0 env v >>= fun _ =>
    (forIn f0 true fun c r => if r = true then do let ok ← isTrue c env (eval c env); pure (ForInStep.yield ok) else pure (ForInStep.yield r)) >>= fun ok =>
     if ok = true then kont env it D else again (.compLoop (.SetComp elt (⟨t0, i0, f0, 0⟩ :: rest) scope pos) 0 (.ref it) (.ref D) env)))
  (hb : ∀ C s₀ H₀ ex it D, PB (blkCx X (blkN ts fv) scope C s₀ H₀ ex) (kont (blkCx X (blkN ts fv) scope C s₀ H₀ ex).env it D) (.compLoop (.SetComp elt (⟨t0, i0, f0, 0⟩ :: rest) scope pos) 0 (.ref it) (.ref D) (blkCx X (blkN ts fv) scope C s₀ H₀ ex).env) (tb D))
  (hs : ∀ x, foldedSetIterable i0 X.env x = pure x := by intro _; rfl) :
  PE X (.SetComp elt (⟨t0, i0, f0, 0⟩ :: rest) scope pos) (tSComp ts fv wi g tt tb) := by
 intro pins s σ H Q I h
 show wpAny _ X.A (comprehension (.SetComp elt (⟨t0, i0, f0, 0⟩ :: rest) scope pos) scope X.env _ (newSet (.type "set")) false (eval i0 X.env)) _ _ s
 refine wpAny_comprehension_free (use := none) rfl hs (closure_run fun y hy e => I.ok.has y.1 (B.free y hy e)) B.kind B.names ?_
 refine scomp_core (RR := fun acc C => compPost (model X.prog X.w) X.A X.xe none (EP X pins σ Q) acc C) B hc hi hg ht heq hb I h fun D C s' H' I' e2 e3 e4 e5 e6 hm q => ?_
 obtain ⟨m, hm⟩ := hm
 exact ⟨m, hm, fun h' hs' => ⟨.ref D, H', I'.apart hs' e2 e3 e4 e5 e6, rfl, q⟩⟩
end
end L2
set_option maxHeartbeats 1000000
namespace L2
open PySem PySem.Spec PyProof.Rows
section
variable {X : Cx} {l : Expr} {tl : TE}
theorem vals_of {kvs : List (Key × V)} {vs : List (Key × Value)} (r : KV kvs vs) : Vals (kvs.map (·.2)) (vs.map (·.2)) := by
 induction r with
 | nil => exact .nil
 | cons h t ih => exact .cons h.2 ih
noncomputable def tLVals (tl : TE) : TE := fun σ H Q => tl σ H fun v H1 => ∃ (d : Addr) (kvs : List (Key × V)), v = .ref d ∧ Rd H1 d (.dK kvs) ∧ ∀ p, H1 p = none → Q (.ref p) (upd H1 p (.lst (kvs.map (·.2))))
theorem pe_listVals {apos cpos p pos : Pos} (hc : X.calm = true) (hl : PE X l tl) (m : M0 X l "values" apos cpos) (hg : Gl X "list") (hm : X.mg "list" = none) : PE X (.Call (.Name "list" p) [.Call (.Attribute l "values" apos) [] [] cpos] [] pos) (tLVals tl) := by
 intro pins s σ H Q I h
 refine wpAny_Call_Name_kw (ld_blt I hg hm PySem.Pv.boot_list ?_ (by decide) (by decide))
 refine PyProof.Rows.callWith_type1 ?_ rfl rfl
 show wpAny _ _ (spliced ((false, eval (.Call (.Attribute l "values" apos) [] [] cpos) X.env) :: [])) _ _ s
 refine Calls.spliced_cons ?_
 refine wpAny_Call_method m.base m.few m.line PySem.F.plainAttrs_dict PySem.F.slot_dict_values PySem.F.type_dict_values (thn (hl pins s σ H _ I h) fun v s1 zz9 => ?_)
 obtain ⟨x, H1, I1, r1, q1⟩ := zz9
 obtain ⟨a, kvs, e, hd, q⟩ := q1
 subst e
 cases r1
 obtain ⟨z, hsys, vs, rel, dd⟩ := dk_rd I1.hok hd
 obtain ⟨ep, da⟩ := dd.dictAt
 obtain ⟨t1, t2, _⟩ := isD_at I1 (.inl ⟨kvs, hd⟩)
 refine ⟨t1, t2, ?_⟩
 refine Calls.callWith_builtin rfl (PyProof.Rows.evalArgs_empty ?_)
 refine call_meetsIn PySem.F.slot_dict_values da.dictOf.typeIs PySem.F.entry_dict_values (PySem.F.args_dict_values_1 _) (meets_dict_values (mixKind X.prog X.w) a hsys) ⟨⟨vs, da.dictOf⟩, ?_⟩
 refine Calls.spliced_nil ?_
 have I3 : Inv X pins σ H1 { s1 with heap := s1.heap.push { cls := .type "dict_values", data := .fields #[.ref a] } } := I1.kept (t' := s1.toks) fun b o e => Heap.get?_push_of_some _ e
 generalize hs2 : ({ s1 with heap := s1.heap.push { cls := .type "dict_values", data := .fields #[.ref a] } } : Shared) = s2 at I3 ⊢
 have hv2 : s2.heap.IsValuesView s1.heap.objs.size a := by rw [← hs2]; exact ⟨_, Heap.get?_push_size _ rfl, rfl, rfl⟩
 have da2 : s2.heap.DictAt (mixKind X.prog X.w) a vs ep := by rw [← hs2]; exact da.push _
 have hz : vs.length ≤ sizeLine := by rw [← rel.length]; exact z
 refine PySem.W.kdl_call (PySem.W.kdl_values (knd := mixKind X.prog X.w) (kvs := vs) (ep := ep)) (I.ok.hd hc) ⟨hv2, da2⟩ hz fun h' tk acc c hk hD hacc => ?_
 have ev : acc.toList = vs.map (·.2) := PySem.W.kdl_vals_eq acc.toList (by rw [Array.length_toList]; exact hacc.1) fun j v e => hacc.2 j v (by rw [← Array.getElem?_toList]; exact e)
 have hf : H1 s2.heap.objs.size = none := I3.fresh
 refine ⟨.ref s2.heap.objs.size, _, I3.laid (a := s2.heap.objs.size) (o := .lst (kvs.map (·.2))) (t' := tk) hk (Nat.le_refl _) ?_, rfl, q _ hf⟩
 refine ⟨by rw [List.length_map]; exact z, acc.toList, c, ?_, ?_⟩
 ·rw [ev]; exact vals_of rel
 ·rw [Array.toArray_toList]; exact hD
noncomputable def rUpd : V → List V → Hp → VK → Prop := fun o xs H Q => ∃ a b ka kb, o = .ref a ∧ xs = [.ref b] ∧ a ≠ b ∧ H a = some (.dK ka) ∧ Rd H b (.dK kb) ∧ ka.length + kb.length ≤ sizeLine ∧ Q .non (upd H a (.dK (mergeK ka kb)))
theorem mt_update : MtR X "dict.update" rUpd := by
 intro pins s σ H x xs v us Q I rx rs h
 obtain ⟨a, b, ka, kb, rfl, rfl, hab, ha, hb, hz, q⟩ := h
 cases rx
 obtain ⟨u, rfl, ru⟩ := vals1 rs
 cases ru
 obtain ⟨za, sa, va, ra, da⟩ := dk_of I.hok ha
 obtain ⟨zb, sb, vb, rb, db⟩ := dk_rd I.hok hb
 refine call_meetsIn PySem.F.slot_dict_update da.typeIs PySem.F.entry_dict_update (PySem.F.args_dict_update_2 _ _) (meets_dict_update (mixKind X.prog X.w) a b hab sb) ⟨va, vb, da, db, by rw [← ra.length, ← rb.length]; exact hz, fun h' dd' _ hs => ?_⟩
 have he : ∃ q, h'.get? a = some q := let ⟨q, _, _, hq, _⟩ := dd'; ⟨q, hq⟩
 have hl2 : (mergeK ka kb).length ≤ sizeLine := Nat.le_trans (length_mergeK kb ka) hz
 exact ⟨.non, _, d_write I (t' := s.toks) (by rw [ha]; exact True.intro) hs he (dk_new hl2 sa (rb.merge ra) dd'), rfl, q⟩
theorem call_lenSet : CallR X (.builtin "len") (fun xs H Q => ∃ p S n, xs = [.ref p] ∧ H p = some (.set S n) ∧ Q (.int (n : Nat)) H) := by
 intro pins s σ H xs us Q I r h
 obtain ⟨p, S, n, rfl, hp, q⟩ := h
 obtain ⟨u, rfl, ru⟩ := vals1 r
 cases ru
 obtain ⟨o, es, ep, t, ho, hx, hd, _, _, hb, hf, rfl⟩ := (show s.heap.SetOf (intKind X.prog X.w) p S n from I.hok p _ hp)
 exact call_len_set ho hx hd hf (by have : scanBound = 4096 := rfl; omega) ⟨.int es.size, H, I.tok _, ⟨_, rfl⟩, q⟩
theorem op_neDK (K : PySem.W.Frag) (hu : X.A.units + 64 < cLine) (h : X.K = K := by rfl) : OpR X (compareOp .NotEq) (rNeD K) := h ▸ op_neD hu
end
end L2
set_option maxHeartbeats 1000000
namespace KT
open PySem L2
theorem nm_inj48 {s t : Int} (ht : t ∈ steps) {i j : Nat} (hi : i < 48) (hj : j < 48) (h : nm s t i = nm s t j) : i = j := by
 unfold nm at h
 simp only [steps, List.mem_cons, List.not_mem_nil, or_false] at ht
 rcases ht with rfl | rfl | rfl | rfl | rfl | rfl | rfl | rfl <;> omega
theorem td_flat16 {M : List (Option Nat)} {s t : Int} {n : Nat} (h1 : 1 ≤ n) (h2 : n ≤ 16) (hM : M.length = 3 * n) (hinv : ∀ (i j : Nat), M[i]? = some (some j) → M[j]? = some (some i) ∧ i ≠ j) (ht : t ∈ steps) : TD M (flat M s t) where
 n := ⟨n, h1, by omega, hM⟩
 len := by unfold flat; simp
 inv := hinv
 rng := fun i x h => by
  obtain ⟨_, rfl⟩ := flat_get h
  unfold nm
  omega
 eqv := fun i j x hi hj => by
  obtain ⟨li, ei⟩ := flat_get hi
  obtain ⟨lj, ej⟩ := flat_get hj
  have e : rep M i = rep M j := nm_inj48 ht (by have := rep_lt (M := M) li; omega) (by have := rep_lt (M := M) lj; omega) (ei.symm.trans ej)
  rcases rep_cases M i with a | ⟨a, ha, la, ra⟩
  ·rcases rep_cases M j with b | ⟨b, hb, lb, rb⟩
   ·exact .inl (a.symm.trans (e.trans b))
   ·have : b = i := by rw [← rb, ← e, a]
    subst this
    exact .inr (hinv j b hb).1
  ·rcases rep_cases M j with b | ⟨b, hb, lb, rb⟩
   ·have : a = j := by rw [← ra, e, b]
    subst this
    exact .inr ha
   ·have : a = b := by rw [← ra, e, rb]
    subst this
    have c1 := (hinv i a ha).1
    have c2 := (hinv j a hb).1
    rw [c1] at c2
    exact .inl (by cases c2; rfl)
 eqm := fun i j h => by
  obtain ⟨h', hne⟩ := hinv i j h
  have li : i < M.length := (List.getElem?_eq_some_iff.mp h).1
  have lj : j < M.length := (List.getElem?_eq_some_iff.mp h').1
  rw [flat_at li, flat_at lj]
  have e : rep M j = rep M i := by
   by_cases c : j < i
   ·have a : rep M i = j := by unfold rep; rw [h]; exact if_pos c
    have b : rep M j = j := by unfold rep; rw [h']; exact if_neg (by omega)
    rw [a, b]
   ·have a : rep M i = i := by unfold rep; rw [h]; exact if_neg c
    have b : rep M j = i := by unfold rep; rw [h']; exact if_pos (by omega)
    rw [a, b]
  rw [e]
noncomputable abbrev Prs := List (Nat × Nat)
noncomputable def gk (gs : Prs) (p : Nat) : Option Nat := (gs.find? fun kv => decide (kv.1 = p)).map (·.2)
theorem gk_some {gs : Prs} {p v : Nat} (h : gk gs p = some v) : (p, v) ∈ gs := by
 unfold gk at h
 obtain ⟨⟨a, b⟩, h1, h2⟩ := Option.map_eq_some_iff.mp h
 have := List.find?_some h1
 have e : a = p := of_decide_eq_true this
 have h2 : b = v := h2
 subst e h2
 exact List.mem_of_find?_eq_some h1
theorem gk_none {gs : Prs} {p : Nat} : gk gs p = none ↔ p ∉ gs.map (·.1) := by
 unfold gk
 rw [Option.map_eq_none_iff, List.find?_eq_none]
 constructor
 ·intro h z
  obtain ⟨kv, h1, h2⟩ := List.mem_map.mp z
  exact h kv h1 (decide_eq_true h2)
 ·intro h kv hk z
  exact h (List.mem_map.mpr ⟨kv, hk, of_decide_eq_true z⟩)
theorem gk_has {gs : Prs} {p : Nat} (h : p ∈ gs.map (·.1)) : ∃ v, gk gs p = some v := by
 cases e : gk gs p with
 | none => exact absurd h (gk_none.mp e)
 | some v => exact ⟨v, rfl⟩
noncomputable def stp (s : Prs × List Nat) : Option Nat × Option Nat → Option (Prs × List Nat)
 | (some a, some b) => if (gk s.1 a).getD b = b then some (if (gk s.1 a).isSome then s else (s.1 ++ [(a, b)], a :: s.2)) else none
 | _ => none
theorem stp_eq {s : Prs × List Nat} {a b : Nat} : stp s (some a, some b) = if (gk s.1 a).getD b = b then some (if (gk s.1 a).isSome then s else (s.1 ++ [(a, b)], a :: s.2)) else none := rfl
noncomputable def prc : List (Option Nat × Option Nat) → Prs × List Nat → Option (Prs × List Nat)
 | [], s => some s
 | x :: l, s => (stp s x).bind (prc l)
theorem prc_snoc : ∀ {l : List (Option Nat × Option Nat)} {x : Option Nat × Option Nat} {s : Prs × List Nat}, prc (l ++ [x]) s = (prc l s).bind fun s' => stp s' x
 | [], x, s => by
  show (stp s x).bind (prc []) = stp s x
  cases stp s x <;> rfl
 | y :: l, x, s => by
  show (stp s y).bind (prc (l ++ [x])) = ((stp s y).bind (prc l)).bind _
  cases stp s y with
  | none => rfl
  | some s' => exact prc_snoc
theorem prc_pre {l m : List (Option Nat × Option Nat)} {s : Prs × List Nat} (h : prc l s = none) : prc (l ++ m) s = none := by
 induction l generalizing s with
 | nil => cases h
 | cons x l ih =>
  show (stp s x).bind (prc (l ++ m)) = none
  have h : (stp s x).bind (prc l) = none := h
  cases e : stp s x with
  | none => rfl
  | some s' => rw [e] at h; exact ih h
noncomputable def prsL (M1 M2 : List (Option Nat)) (p q : Nat) : List (Option Nat × Option Nat) :=
 (some (aftN p), some (aftN q)) :: if M1.getD p none = none ∧ M2.getD q none = none then [] else [(M1.getD p none, M2.getD q none)]
noncomputable def lyRun (M1 M2 : List (Option Nat)) : Nat → Prs → List Nat → Option Prs
 | _, gs, [] => some gs
 | 0, _, _ :: _ => none
 | f + 1, gs, p :: st => (prc (prsL M1 M2 p ((gk gs p).getD 0)) (gs, st)).bind fun s => lyRun M1 M2 f s.1 s.2
noncomputable def vI (gs : Prs) : List Int := gs.map fun kv => (kv.2 : Int)
noncomputable def layR (M1 M2 : List (Option Nat)) (s g : Nat) : Option Prs := (lyRun M1 M2 200 [(s, g)] [s]).bind fun gs => if (dd (vI gs)).length = gs.length then some gs else none
structure LyOk (N1 N2 : Nat) (gs : Prs) (st : List Nat) : Prop where
 nd : (gs.map (·.1)).Nodup
 lt : ∀ kv ∈ gs, kv.1 < N1 ∧ kv.2 < N2
 has : ∀ p ∈ st, p ∈ gs.map (·.1)
theorem LyOk.len {N1 N2 : Nat} {gs : Prs} {st : List Nat} (h : LyOk N1 N2 gs st) : gs.length ≤ N1 := by
 have := nd_len N1 _ h.nd fun x hx => by
  obtain ⟨kv, h1, h2⟩ := List.mem_map.mp hx
  exact h2 ▸ (h.lt kv h1).1
 rwa [List.length_map] at this
noncomputable def msr (N : Nat) (s : Prs × List Nat) : Nat := 3 * (N - s.1.length) + s.2.length
theorem stp_ok {N1 N2 : Nat} {s s' : Prs × List Nat} {a b : Nat} (h : LyOk N1 N2 s.1 s.2) (ha : a < N1) (hb : b < N2) (e : stp s (some a, some b) = some s') :
  LyOk N1 N2 s'.1 s'.2 ∧ msr N1 s' ≤ msr N1 s ∧ (∃ l, s'.1 = s.1 ++ l) := by
 rw [stp_eq] at e
 split at e
 ·injection e with e
  cases g : gk s.1 a with
  | some v => rw [g] at e; subst e; exact ⟨h, Nat.le_refl _, [], (List.append_nil _).symm⟩
  | none =>
   rw [g] at e
   subst e
   have hn := gk_none.mp g
   have ok : LyOk N1 N2 (s.1 ++ [(a, b)]) (a :: s.2) := by
    refine ⟨?_, fun kv hk => ?_, fun p hp => ?_⟩
    ·rw [List.map_append, List.nodup_append]
     refine ⟨h.nd, by simp, fun x hx y hy z => ?_⟩
     rw [List.map_cons, List.map_nil, List.mem_singleton] at hy
     have e : x = a := z.trans hy
     exact hn (e ▸ hx)
    ·rcases List.mem_append.mp hk with z | z
     ·exact h.lt kv z
     ·rw [List.mem_singleton.mp z]; exact ⟨ha, hb⟩
    ·rw [List.map_append, List.mem_append]
     rcases List.mem_cons.mp hp with z | z
     ·exact .inr (by rw [z]; exact List.mem_singleton.mpr rfl)
     ·exact .inl (h.has p z)
   refine ⟨ok, ?_, _, rfl⟩
   have := ok.len
   unfold msr
   rw [List.length_append, List.length_singleton] at this
   show 3 * (N1 - (s.1 ++ [(a, b)]).length) + (a :: s.2).length ≤ 3 * (N1 - s.1.length) + s.2.length
   rw [List.length_append, List.length_singleton, List.length_cons]
   omega
 ·cases e
theorem stp_pair {s s' : Prs × List Nat} {x : Option Nat × Option Nat} (e : stp s x = some s') : ∃ a b, x = (some a, some b) := by
 obtain ⟨x, y⟩ := x
 cases x with
 | none => cases e
 | some a =>
  cases y with
  | none => cases e
  | some b => exact ⟨a, b, rfl⟩
theorem prc_ok {N1 N2 : Nat} : ∀ {l : List (Option Nat × Option Nat)} {s s' : Prs × List Nat}, LyOk N1 N2 s.1 s.2 → (∀ a b, (some a, some b) ∈ l → a < N1 ∧ b < N2) → prc l s = some s' → LyOk N1 N2 s'.1 s'.2 ∧ msr N1 s' ≤ msr N1 s ∧ (∃ k, s'.1 = s.1 ++ k)
 | [], s, s', h, _, e => by cases e; exact ⟨h, Nat.le_refl _, [], (List.append_nil _).symm⟩
 | x :: l, s, s', h, hl, e => by
  replace e : (stp s x).bind (prc l) = some s' := e
  cases e1 : stp s x with
  | none => rw [e1] at e; cases e
  | some s1 =>
   rw [e1] at e
   obtain ⟨a, b, rfl⟩ := stp_pair e1
   obtain ⟨ha, hb⟩ := hl a b List.mem_cons_self
   obtain ⟨o1, m1, k1, h1⟩ := stp_ok h ha hb e1
   have e : prc l s1 = some s' := e
   obtain ⟨o2, m2, k2, h2⟩ := prc_ok o1 (fun a b z => hl a b (List.mem_cons_of_mem _ z)) e
   exact ⟨o2, Nat.le_trans m2 m1, k1 ++ k2, by rw [h2, h1, List.append_assoc]⟩
theorem prc_pfx : ∀ {l : List (Option Nat × Option Nat)} {s s' : Prs × List Nat}, prc l s = some s' → ∃ k, s'.1 = s.1 ++ k
 | [], s, s', e => by cases e; exact ⟨[], (List.append_nil _).symm⟩
 | x :: l, s, s', e => by
  have e : (stp s x).bind (prc l) = some s' := e
  cases e1 : stp s x with
  | none => rw [e1] at e; cases e
  | some s1 =>
   rw [e1] at e
   obtain ⟨k2, h2⟩ := prc_pfx e
   obtain ⟨a, b, rfl⟩ := stp_pair e1
   rw [stp_eq] at e1
   split at e1
   ·injection e1 with e1
    cases g : gk s.1 a with
    | some v => rw [g] at e1; subst e1; exact ⟨k2, h2⟩
    | none => rw [g] at e1; subst e1; exact ⟨_, by rw [h2]; exact List.append_assoc _ _ _⟩
   ·cases e1
theorem lyRun_pfx {M1 M2 : List (Option Nat)} : ∀ {f : Nat} {gs : Prs} {st : List Nat} {r : Prs}, lyRun M1 M2 f gs st = some r → ∃ k, r = gs ++ k
 | 0, gs, [], r, e => by cases e; exact ⟨[], (List.append_nil _).symm⟩
 | f + 1, gs, [], r, e => by cases e; exact ⟨[], (List.append_nil _).symm⟩
 | f + 1, gs, p :: st, r, e => by
  have e : (prc (prsL M1 M2 p ((gk gs p).getD 0)) (gs, st)).bind (fun s => lyRun M1 M2 f s.1 s.2) = some r := e
  cases e1 : prc (prsL M1 M2 p ((gk gs p).getD 0)) (gs, st) with
  | none => rw [e1] at e; cases e
  | some s =>
   rw [e1] at e
   obtain ⟨k1, h1⟩ := prc_pfx e1
   obtain ⟨k2, h2⟩ := lyRun_pfx (f := f) e
   exact ⟨k1 ++ k2, by rw [h2, h1, List.append_assoc]⟩
theorem layR_head {M1 M2 : List (Option Nat)} {s g : Nat} {r : Prs} (h : layR M1 M2 s g = some r) : ∃ k, r = (s, g) :: k := by
 unfold layR at h
 cases e : lyRun M1 M2 200 [(s, g)] [s] with
 | none => rw [e] at h; cases h
 | some gs =>
  rw [e] at h
  have h : (if (dd (vI gs)).length = gs.length then some gs else none) = some r := h
  split at h
  ·cases h
   exact lyRun_pfx e
  ·cases h
noncomputable def pput (gs : Prs) (kv : Nat × Nat) : Prs := if (gk gs kv.1).isSome then gs.map (fun x => if x.1 = kv.1 then (x.1, kv.2) else x) else gs ++ [kv]
noncomputable def mrg (gs more : Prs) : Prs := more.foldl pput gs
noncomputable def mtSt (M1 M2 : List (Option Nat)) (a : Prs × List Nat) (s : Nat) : Option (Prs × List Nat) :=
 if (gk a.1 s).isSome then some a else (a.2.findSome? (layR M1 M2 s)).map fun gs => (mrg a.1 gs, a.2.filter fun x => decide (x ∉ gs.map (·.2)))
noncomputable def mtRun (M1 M2 : List (Option Nat)) : List Nat → Prs × List Nat → Option (Prs × List Nat)
 | [], a => some a
 | s :: l, a => (mtSt M1 M2 a s).bind (mtRun M1 M2 l)
theorem mtRun_snoc {M1 M2 : List (Option Nat)} : ∀ {l : List Nat} {x : Nat} {a : Prs × List Nat}, mtRun M1 M2 (l ++ [x]) a = (mtRun M1 M2 l a).bind fun a' => mtSt M1 M2 a' x
 | [], x, a => by
  show (mtSt M1 M2 a x).bind (mtRun M1 M2 []) = mtSt M1 M2 a x
  cases mtSt M1 M2 a x <;> rfl
 | y :: l, x, a => by
  show (mtSt M1 M2 a y).bind (mtRun M1 M2 (l ++ [x])) = ((mtSt M1 M2 a y).bind (mtRun M1 M2 l)).bind _
  cases mtSt M1 M2 a y with
  | none => rfl
  | some s' => exact mtRun_snoc
theorem mtRun_pre {M1 M2 : List (Option Nat)} {l m : List Nat} {a : Prs × List Nat} (h : mtRun M1 M2 l a = none) : mtRun M1 M2 (l ++ m) a = none := by
 induction l generalizing a with
 | nil => cases h
 | cons x l ih =>
  show (mtSt M1 M2 a x).bind (mtRun M1 M2 (l ++ m)) = none
  have h : (mtSt M1 M2 a x).bind (mtRun M1 M2 l) = none := h
  cases e : mtSt M1 M2 a x with
  | none => rfl
  | some s' => rw [e] at h; exact ih h
noncomputable def matF (M1 M2 : List (Option Nat)) : Option (List Nat) := if M1.length = M2.length then (mtRun M1 M2 (List.range M1.length) ([], List.range M2.length)).map fun a => (List.range M1.length).map fun p => (gk a.1 p).getD 0 else none
theorem pput_keys {gs : Prs} {kv : Nat × Nat} {p : Nat} (h : p ∈ gs.map (·.1) ∨ p = kv.1) : p ∈ (pput gs kv).map (·.1) := by
 unfold pput
 split
 ·rename_i c
  have e : (gs.map (fun x => if x.1 = kv.1 then (x.1, kv.2) else x)).map (·.1) = gs.map (·.1) := by
   rw [List.map_map]
   apply List.map_congr_left
   intro x _
   show (if x.1 = kv.1 then (x.1, kv.2) else x).1 = x.1
   split <;> rfl
  rw [e]
  rcases h with h | h
  ·exact h
  ·obtain ⟨v, hv⟩ := Option.isSome_iff_exists.mp c
   rw [h]
   exact List.mem_map.mpr ⟨_, gk_some hv, rfl⟩
 ·rw [List.map_append, List.mem_append]
  rcases h with h | h
  ·exact .inl h
  ·exact .inr (by rw [h]; exact List.mem_singleton.mpr rfl)
theorem mrg_keys : ∀ {more gs : Prs} {p : Nat}, p ∈ gs.map (·.1) ∨ p ∈ more.map (·.1) → p ∈ (mrg gs more).map (·.1)
 | [], gs, p, h => h.elim id fun z => absurd z List.not_mem_nil
 | kv :: more, gs, p, h => by
  show p ∈ (mrg (pput gs kv) more).map (·.1)
  rcases h with h | h
  ·exact mrg_keys (.inl (pput_keys (.inl h)))
  ·rw [List.map_cons, List.mem_cons] at h
   rcases h with h | h
   ·exact mrg_keys (.inl (pput_keys (.inr h)))
   ·exact mrg_keys (.inr h)
theorem pput_len (gs : Prs) (kv : Nat × Nat) : (pput gs kv).length ≤ gs.length + 1 := by
 unfold pput
 split
 ·rw [List.length_map]; omega
 ·rw [List.length_append, List.length_singleton]; exact Nat.le_refl _
theorem mrg_len : ∀ {more gs : Prs}, (mrg gs more).length ≤ gs.length + more.length
 | [], gs => Nat.le_refl _
 | kv :: more, gs => by
  have h1 := mrg_len (more := more) (gs := pput gs kv)
  have h2 := pput_len gs kv
  show (mrg (pput gs kv) more).length ≤ _
  rw [List.length_cons]
  omega
noncomputable def enc (gs : Prs) : List (Key × V) := gs.map fun kv => ((Sum.inl (kv.1 : Int) : Key), V.int kv.2)
theorem enc_len (gs : Prs) : (enc gs).length = gs.length := by unfold enc; rw [List.length_map]
theorem enc_val : ∀ {gs : Prs} {p : Nat}, valV (enc gs) (Sum.inl (p : Int)) = (gk gs p).map fun v => V.int (v : Int)
 | [], p => rfl
 | kv :: gs, p => by
  have ih := enc_val (gs := gs) (p := p)
  unfold enc valV gk at ih ⊢
  rw [List.map_cons, List.find?_cons, List.find?_cons]
  by_cases c : kv.1 = p
  ·rw [decide_eq_true c, decide_eq_true (show (Sum.inl (kv.1 : Int) : Key) = Sum.inl (p : Int) by rw [c])]
   rfl
  ·rw [decide_eq_false c, decide_eq_false (show ¬ (Sum.inl (kv.1 : Int) : Key) = Sum.inl (p : Int) from fun z => c (by injection z with z; omega))]
   exact ih
theorem enc_any {gs : Prs} {p : Nat} : ((enc gs).any fun kv => decide (kv.1 = (Sum.inl (p : Int) : Key))) = (gk gs p).isSome := by
 have := enc_val (gs := gs) (p := p)
 rw [valV_any, this]
 cases gk gs p <;> rfl
theorem enc_put {gs : Prs} {a b : Nat} : putK (enc gs) (Sum.inl (a : Int)) (V.int (b : Int)) = enc (pput gs (a, b)) := by
 unfold putK pput
 rw [enc_any]
 by_cases c : (gk gs a).isSome = true
 ·rw [if_pos c, if_pos c]
  unfold enc
  rw [List.map_map, List.map_map]
  apply List.map_congr_left
  intro x _
  by_cases z : x.1 = a
  ·simp [z]
  ·have : ¬ (x.1 : Int) = (a : Int) := by omega
   simp [z, this]
 ·rw [if_neg c, if_neg c]
  unfold enc
  rw [List.map_append]
  rfl
theorem enc_merge : ∀ {more gs : Prs}, mergeK (enc gs) (enc more) = enc (mrg gs more)
 | [], gs => rfl
 | kv :: more, gs => by
  show mergeK (putK (enc gs) (Sum.inl (kv.1 : Int)) (V.int (kv.2 : Int))) (enc more) = enc (mrg (pput gs kv) more)
  rw [enc_put]
  exact enc_merge
end KT
set_option maxHeartbeats 4000000
namespace L2
open PySem PySem.Spec PyProof.Rows
end L2
set_option maxHeartbeats 4000000
set_option genInjectivity false
set_option genSizeOf false
namespace KT
open PySem L2
noncomputable def bmV : List Value := [.type "ValueError", .type "Exception", .type "BaseException", .type "object"]
theorem FBV : ExcBaseFacts "ValueError" "ValueError.__new__" "ValueError.__init__" bmV := PySem.F.excBase_ValueError
theorem map_some {α : Type} {f : α → V} {l : List α} {i : Nat} {y : V} (h : (l.map f)[i]? = some y) : ∃ q, l[i]? = some q ∧ y = f q := by
 rw [List.getElem?_map] at h
 cases e : l[i]? with
 | none => rw [e] at h; cases h
 | some q => rw [e] at h; cases h; exact ⟨q, rfl, rfl⟩
structure FT (K : PySem.W.Frag) (mg : Str → Option Value) (x : Str) (st : Stmt) (ps : List Str) (f : Addr) (d : FuncData) : Prop where
 F : Fun K x x st f d
 b : Binds K d ps []
 g : mg x = some (.ref f)
structure FM (K : PySem.W.Frag) (C : Addr) (x q : Str) (st : Stmt) (ps : List Str) (f : Addr) (d : FuncData) : Prop where
 F : Fun K x q st f d
 b : Binds K d ps []
 m : Meth K C x f
noncomputable def BA (q : Str) (st : Stmt) (ps : List Str) : Prop := ∀ (x : Str) (kV doc pm : Value) (an : Option Addr) (cdv ct : Value) (us : List Value), us.length = ps.length → bindArgs (PySem.W.fnOf x q (defArgs st) (defBody st) (defScope st) .none kV doc pm an cdv ct) ⟨us, []⟩ = pure (ps.zip us)
theorem len_two {α : Type} {us : List α} (e : us.length = 2) : ∃ a b, us = [a, b] := by
 obtain ⟨a, us, rfl⟩ := List.exists_cons_of_length_eq_add_one e
 obtain ⟨b, rfl⟩ := List.length_eq_one_iff.mp (Nat.succ.inj e)
 exact ⟨a, b, rfl⟩
theorem len_three {α : Type} {us : List α} (e : us.length = 3) : ∃ a b c, us = [a, b, c] := by
 obtain ⟨a, us, rfl⟩ := List.exists_cons_of_length_eq_add_one e
 obtain ⟨b, c, rfl⟩ := len_two (Nat.succ.inj e)
 exact ⟨a, b, c, rfl⟩
theorem ba1 {q : Str} {st : Stmt} {ps : List Str} (h : ∀ (x : Str) (kV doc pm : Value) (an : Option Addr) (cdv ct : Value) (a : Value), bindArgs (PySem.W.fnOf x q (defArgs st) (defBody st) (defScope st) .none kV doc pm an cdv ct) ⟨[a], []⟩ = pure (ps.zip [a])) (hl : ps.length = 1) : BA q st ps := fun x kV doc pm an cdv ct us e => by
 rw [hl] at e
 obtain ⟨a, rfl⟩ := List.length_eq_one_iff.mp e
 exact h x kV doc pm an cdv ct a
theorem ba2 {q : Str} {st : Stmt} {ps : List Str} (h : ∀ (x : Str) (kV doc pm : Value) (an : Option Addr) (cdv ct : Value) (a b : Value), bindArgs (PySem.W.fnOf x q (defArgs st) (defBody st) (defScope st) .none kV doc pm an cdv ct) ⟨[a, b], []⟩ = pure (ps.zip [a, b])) (hl : ps.length = 2) : BA q st ps := fun x kV doc pm an cdv ct us e => by
 rw [hl] at e
 obtain ⟨a, b, rfl⟩ := len_two e
 exact h x kV doc pm an cdv ct a b
theorem ba3 {q : Str} {st : Stmt} {ps : List Str} (h : ∀ (x : Str) (kV doc pm : Value) (an : Option Addr) (cdv ct : Value) (a b c : Value), bindArgs (PySem.W.fnOf x q (defArgs st) (defBody st) (defScope st) .none kV doc pm an cdv ct) ⟨[a, b, c], []⟩ = pure (ps.zip [a, b, c])) (hl : ps.length = 3) : BA q st ps := fun x kV doc pm an cdv ct us e => by
 rw [hl] at e
 obtain ⟨a, b, c, rfl⟩ := len_three e
 exact h x kV doc pm an cdv ct a b c
theorem ba4 {q : Str} {st : Stmt} {ps : List Str} (h : ∀ (x : Str) (kV doc pm : Value) (an : Option Addr) (cdv ct : Value) (a b c d : Value), bindArgs (PySem.W.fnOf x q (defArgs st) (defBody st) (defScope st) .none kV doc pm an cdv ct) ⟨[a, b, c, d], []⟩ = pure (ps.zip [a, b, c, d])) (hl : ps.length = 4) : BA q st ps := fun x kV doc pm an cdv ct us e => by
 rw [hl] at e
 obtain ⟨a, us, rfl⟩ := List.exists_cons_of_length_eq_add_one e
 obtain ⟨b, c, d, rfl⟩ := len_three (Nat.succ.inj e)
 exact h x kV doc pm an cdv ct a b c d
section
variable {K : PySem.W.Frag} {h : Heap} {mg : Str → Option Value} {C : Addr} {x q : Str} {st : Stmt} {ps : List Str} {f : Addr} {oc : Value} {od an : Option Addr} {sl : Array (Option Value)} {kV doc pm cd ct : Value}
theorem FT.of (X : K.In h) (G : h.Ns mainGlobals mg) (B : BA x st ps) (a : PySem.W.nsIn K mainGlobals x = some (some (.ref f))) (l : K.lookup f = some ⟨oc, od, .func (PySem.W.fnOf x x (defArgs st) (defBody st) (defScope st) .none kV doc pm an cd ct), sl⟩)
  (c : PySem.W.codeIn K cd x = true) (k : PySem.W.keepIn K (.ref f) = true) : FT K mg x st ps f (PySem.W.fnOf x x (defArgs st) (defBody st) (defScope st) .none kV doc pm an cd ct) := ⟨fun_mk l c k, (fun_mk l c k).binds (B x), PySem.W.mg_of X G a⟩
theorem FM.of (B : BA q st ps) (a : PySem.W.findIn K (.ref C) x = some (some (.ref f))) (i : PySem.W.isFn K (.ref f) = true) (l : K.lookup f = some ⟨oc, od, .func (PySem.W.fnOf x q (defArgs st) (defBody st) (defScope st) .none kV doc pm an cd ct), sl⟩)
  (c : PySem.W.codeIn K cd q = true) (k : PySem.W.keepIn K (.ref f) = true) : FM K C x q st ps f (PySem.W.fnOf x q (defArgs st) (defBody st) (defScope st) .none kV doc pm an cd ct) := ⟨fun_mk l c k, (fun_mk l c k).binds (B x), ⟨a, i, k⟩⟩
end
noncomputable def top (i : Nat) : Stmt := PySem.Challenge.pw_tentloops_k49_carried_threads.main.body.getD i (.Pass ⟨0, 0, 0, 0⟩)
noncomputable abbrev s_after : Stmt := top 12
noncomputable abbrev s_before : Stmt := top 13
noncomputable abbrev s_cloth_of : Stmt := top 14
noncomputable abbrev s_spots_of : Stmt := top 15
noncomputable abbrev s_mates_of : Stmt := top 16
noncomputable abbrev s_Tent_init : Stmt := inClass (top 17) 0
noncomputable abbrev s_Tent_rows : Stmt := inClass (top 17) 1
noncomputable abbrev s_Tent_size : Stmt := inClass (top 17) 2
noncomputable abbrev s_Tent_all_places : Stmt := inClass (top 17) 4
noncomputable abbrev s_Tent_has_place : Stmt := inClass (top 17) 5
noncomputable abbrev s_Tent_look_place : Stmt := inClass (top 17) 6
noncomputable abbrev s_Tent_seam_at : Stmt := inClass (top 17) 7
noncomputable abbrev s_Tent_places : Stmt := inClass (top 17) 8
noncomputable abbrev s_Tent_mate : Stmt := inClass (top 17) 9
noncomputable abbrev s_Tent_sort_of : Stmt := inClass (top 17) 10
noncomputable abbrev s_step_pairs : Stmt := top 19
noncomputable abbrev s_piece_laid : Stmt := top 20
noncomputable abbrev s_first_laid : Stmt := top 21
noncomputable abbrev s_matched : Stmt := top 22
noncomputable abbrev s_carried : Stmt := top 23
noncomputable abbrev s_look_way : Stmt := top 26
noncomputable abbrev s_look_free : Stmt := top 27
noncomputable abbrev s_square : Stmt := top 28
noncomputable abbrev s_shifts : Stmt := top 29
noncomputable abbrev s_exchanged : Stmt := top 30
noncomputable abbrev s_l_whole : Stmt := top 32
noncomputable abbrev s_l_list : Stmt := top 33
noncomputable abbrev s_l_cell : Stmt := top 34
noncomputable abbrev s_l_numbers : Stmt := top 35
noncomputable abbrev s_l_sewn : Stmt := top 36
noncomputable abbrev s_l_rows : Stmt := top 37
noncomputable abbrev s_l_tent : Stmt := top 38
noncomputable abbrev s_l_renumbered : Stmt := top 39
noncomputable abbrev s_l_walk : Stmt := top 40
noncomputable abbrev s_l_thread : Stmt := top 41
noncomputable abbrev s_l_plain : Stmt := top 42
noncomputable abbrev s_l_free : Stmt := top 43
noncomputable abbrev s_l_shift : Stmt := top 44
noncomputable abbrev s_l_around : Stmt := top 45
noncomputable abbrev s_l_goals : Stmt := top 46
noncomputable abbrev s_l_seam : Stmt := top 47
noncomputable abbrev s_l_found : Stmt := top 48
noncomputable abbrev s_l_lays : Stmt := top 49
noncomputable abbrev s_law : Stmt := top 50
structure Adr where
 (C_Tent f_after f_before f_cloth_of f_spots_of f_mates_of f_Tent_init f_Tent_rows f_Tent_size f_Tent_all_places f_Tent_has_place f_Tent_look_place f_Tent_seam_at f_Tent_places f_Tent_mate f_Tent_sort_of f_step_pairs f_piece_laid f_first_laid f_matched f_carried f_look_way f_look_free f_square f_shifts f_exchanged f_l_whole f_l_list f_l_cell f_l_numbers f_l_sewn f_l_rows f_l_tent f_l_renumbered f_l_walk f_l_thread f_l_plain f_l_free f_l_shift f_l_around f_l_goals f_l_seam f_l_found f_l_lays f_law g_CONTRARY_WAYS E_NoPlace E_NoSeam E_Rim E_Locked E_NoWay E_NotAlike : Addr)
 (d_after d_before d_cloth_of d_spots_of d_mates_of d_Tent_init d_Tent_rows d_Tent_size d_Tent_all_places d_Tent_has_place d_Tent_look_place d_Tent_seam_at d_Tent_places d_Tent_mate d_Tent_sort_of d_step_pairs d_piece_laid d_first_laid d_matched d_carried d_look_way d_look_free d_square d_shifts d_exchanged d_l_whole d_l_list d_l_cell d_l_numbers d_l_sewn d_l_rows d_l_tent d_l_renumbered d_l_walk d_l_thread d_l_plain d_l_free d_l_shift d_l_around d_l_goals d_l_seam d_l_found d_l_lays d_law : FuncData)
 (k_GREATEST_NAME : Tok)
structure Txt (w : World) (K : PySem.W.Frag) (mg : Str → Option Value) (t : Adr) : Prop where
 gC_Tent : mg "Tent" = some (.ref t.C_Tent)
 cl_Tent : Cls K t.C_Tent
 a_Tent_cloths : NoAttr K t.C_Tent "cloths"
 a_Tent_names_at : NoAttr K t.C_Tent "names_at"
 a_Tent_spots : NoAttr K t.C_Tent "spots"
 a_Tent_mates : NoAttr K t.C_Tent "mates"
 p_after : FT K mg "after" s_after ["place"] t.f_after t.d_after
 p_before : FT K mg "before" s_before ["place"] t.f_before t.d_before
 p_cloth_of : FT K mg "cloth_of" s_cloth_of ["place"] t.f_cloth_of t.d_cloth_of
 p_spots_of : FT K mg "spots_of" s_spots_of ["names_at"] t.f_spots_of t.d_spots_of
 p_mates_of : FT K mg "mates_of" s_mates_of ["spots", "count"] t.f_mates_of t.d_mates_of
 p_Tent_init : FM K t.C_Tent "__init__" "Tent.__init__" s_Tent_init ["self", "rows"] t.f_Tent_init t.d_Tent_init
 p_Tent_rows : FM K t.C_Tent "rows" "Tent.rows" s_Tent_rows ["self"] t.f_Tent_rows t.d_Tent_rows
 p_Tent_size : FM K t.C_Tent "size" "Tent.size" s_Tent_size ["self"] t.f_Tent_size t.d_Tent_size
 p_Tent_all_places : FM K t.C_Tent "all_places" "Tent.all_places" s_Tent_all_places ["self"] t.f_Tent_all_places t.d_Tent_all_places
 p_Tent_has_place : FM K t.C_Tent "has_place" "Tent.has_place" s_Tent_has_place ["self", "place"] t.f_Tent_has_place t.d_Tent_has_place
 p_Tent_look_place : FM K t.C_Tent "look_place" "Tent.look_place" s_Tent_look_place ["self", "place"] t.f_Tent_look_place t.d_Tent_look_place
 p_Tent_seam_at : FM K t.C_Tent "seam_at" "Tent.seam_at" s_Tent_seam_at ["self", "place"] t.f_Tent_seam_at t.d_Tent_seam_at
 p_Tent_places : FM K t.C_Tent "places" "Tent.places" s_Tent_places ["self", "seam"] t.f_Tent_places t.d_Tent_places
 p_Tent_mate : FM K t.C_Tent "mate" "Tent.mate" s_Tent_mate ["self", "place"] t.f_Tent_mate t.d_Tent_mate
 p_Tent_sort_of : FM K t.C_Tent "sort_of" "Tent.sort_of" s_Tent_sort_of ["self", "seam"] t.f_Tent_sort_of t.d_Tent_sort_of
 p_step_pairs : FT K mg "step_pairs" s_step_pairs ["one", "other", "place", "spot"] t.f_step_pairs t.d_step_pairs
 p_piece_laid : FT K mg "piece_laid" s_piece_laid ["one", "other", "start", "goal"] t.f_piece_laid t.d_piece_laid
 p_first_laid : FT K mg "first_laid" s_first_laid ["one", "other", "start", "spare"] t.f_first_laid t.d_first_laid
 p_matched : FT K mg "matched" s_matched ["one", "other"] t.f_matched t.d_matched
 p_carried : FT K mg "carried" s_carried ["one", "other", "word"] t.f_carried t.d_carried
 p_look_way : FT K mg "look_way" s_look_way ["way"] t.f_look_way t.d_look_way
 p_look_free : FT K mg "look_free" s_look_free ["tent", "seam"] t.f_look_free t.d_look_free
 p_square : FT K mg "square" s_square ["tent", "seam"] t.f_square t.d_square
 p_shifts : FT K mg "shifts" s_shifts ["tent", "seam", "way"] t.f_shifts t.d_shifts
 p_exchanged : FT K mg "exchanged" s_exchanged ["tent", "seam", "way"] t.f_exchanged t.d_exchanged
 p_l_whole : FT K mg "_law_whole" s_l_whole ["_law_found_here"] t.f_l_whole t.d_l_whole
 p_l_list : FT K mg "_law_list" s_l_list ["_law_found_here", "_law_due"] t.f_l_list t.d_l_list
 p_l_cell : FT K mg "_law_cell" s_l_cell ["_law_script", "_law_at"] t.f_l_cell t.d_l_cell
 p_l_numbers : FT K mg "_law_numbers" s_l_numbers ["_law_cell_here", "_law_many"] t.f_l_numbers t.d_l_numbers
 p_l_sewn : FT K mg "_law_sewn" s_l_sewn ["_law_nums", "_law_many", "_law_share"] t.f_l_sewn t.d_l_sewn
 p_l_rows : FT K mg "_law_rows" s_l_rows ["_law_mates", "_law_start", "_law_step"] t.f_l_rows t.d_l_rows
 p_l_tent : FT K mg "_law_tent" s_l_tent ["_law_script"] t.f_l_tent t.d_l_tent
 p_l_renumbered : FT K mg "_law_renumbered" s_l_renumbered ["_law_mates", "_law_nums"] t.f_l_renumbered t.d_l_renumbered
 p_l_walk : FT K mg "_law_walk" s_l_walk ["_law_mates", "_law_nums"] t.f_l_walk t.d_l_walk
 p_l_thread : FT K mg "_law_thread" s_l_thread ["_law_script", "_law_at", "_law_mates"] t.f_l_thread t.d_l_thread
 p_l_plain : FT K mg "_law_plain" s_l_plain ["_law_mates", "_law_word"] t.f_l_plain t.d_l_plain
 p_l_free : FT K mg "_law_free" s_l_free ["_law_mates"] t.f_l_free t.d_l_free
 p_l_shift : FT K mg "_law_shift" s_l_shift ["_law_mates", "_law_rows_here", "_law_goals_here"] t.f_l_shift t.d_l_shift
 p_l_around : FT K mg "_law_around" s_l_around ["_law_mates", "_law_place"] t.f_l_around t.d_l_around
 p_l_goals : FT K mg "_law_goals" s_l_goals ["_law_mates", "_law_place", "_law_left"] t.f_l_goals t.d_l_goals
 p_l_seam : FT K mg "_law_seam" s_l_seam ["_law_rows_here", "_law_place"] t.f_l_seam t.d_l_seam
 p_l_found : FT K mg "_law_found" s_l_found ["_law_one", "_law_other", "_law_word"] t.f_l_found t.d_l_found
 p_l_lays : FT K mg "_law_lays" s_l_lays ["_law_ties", "_law_others", "_law_spots"] t.f_l_lays t.d_l_lays
 p_law : FT K mg "law" s_law ["_law_script"] t.f_law t.d_law
 mk_Tent : Mk K t.C_Tent t.f_Tent_init
 c_GREATEST_NAME : mg "GREATEST_NAME" = some (.int 9999 t.k_GREATEST_NAME)
 gd_CONTRARY_WAYS : mg "CONTRARY_WAYS" = some (.ref t.g_CONTRARY_WAYS)
 kd_CONTRARY_WAYS : KDict w K t.g_CONTRARY_WAYS [(Sum.inr "left", .str "right"), (Sum.inr "right", .str "left")]
 bl : ∀ (s : Shared) (u : Value), BindsTo s t.d_law ⟨[u], []⟩ [("_law_script", u)]
 n_bool : mg "bool" = none
 n_enumerate : mg "enumerate" = none
 n_int : mg "int" = none
 n_isinstance : mg "isinstance" = none
 n_len : mg "len" = none
 n_list : mg "list" = none
 n_range : mg "range" = none
 n_reversed : mg "reversed" = none
 n_sorted : mg "sorted" = none
 n_tuple : mg "tuple" = none
 gx_NoPlace : mg "NoPlace" = some (.ref t.E_NoPlace)
 x_NoPlace : ExcK K t.E_NoPlace bmV "ValueError.__new__"
 gx_NoSeam : mg "NoSeam" = some (.ref t.E_NoSeam)
 x_NoSeam : ExcK K t.E_NoSeam bmV "ValueError.__new__"
 gx_Rim : mg "Rim" = some (.ref t.E_Rim)
 x_Rim : ExcK K t.E_Rim bmV "ValueError.__new__"
 gx_Locked : mg "Locked" = some (.ref t.E_Locked)
 x_Locked : ExcK K t.E_Locked bmV "ValueError.__new__"
 gx_NoWay : mg "NoWay" = some (.ref t.E_NoWay)
 x_NoWay : ExcK K t.E_NoWay bmV "ValueError.__new__"
 gx_NotAlike : mg "NotAlike" = some (.ref t.E_NotAlike)
 x_NotAlike : ExcK K t.E_NotAlike bmV "ValueError.__new__"
end KT
set_option maxHeartbeats 4000000
namespace KT
open PySem L2
theorem Same.add {H H1 : Hp} {p : Addr} {o : HO} (s : Same H H1) (hp : H p = none) : Same H (upd H1 p o) := fun b u e => by rw [upd_ne (ne_of_none e hp)]; exact s b u e
theorem Same.new {H : Hp} {p : Addr} {o : HO} (hp : H p = none) : Same H (upd H p o) := Same.add (Same.refl H) hp
theorem seq_post {t u : TS} {D : Ends} {σ : St} {H : Hp} (Post : St → Hp → Prop) (ht : ∀ nx : St → Hp → Prop, (∀ σ H, Post σ H → nx σ H) → t { D with nx := nx } σ H) (hu : ∀ σ H, Post σ H → u D σ H) : tSeq t u D σ H := ht (u D) hu
theorem seq_cut {t u : TS} {D : Ends} {σ : St} {H : Hp} (ht : ∀ nx : St → Hp → Prop, (∀ σ H, u D σ H → nx σ H) → t { D with nx := nx } σ H) : tSeq t u D σ H := ht (u D) fun _ _ h => h
theorem map_snoc (xs : List Int) (y : Int) : xs.map V.int ++ [V.int y] = (xs ++ [y]).map V.int := by simp
theorem getI {ns : List Int} {n : Nat} (h : n < ns.length) : (ns.map V.int)[n]? = some (V.int (ns.getD n 0)) := by
 rw [List.getElem?_map, List.getElem?_eq_getElem h, List.getD_eq_getElem?_getD, List.getElem?_eq_getElem h]
 rfl
noncomputable def cell (ns : List Int) (n : Int) : Int := if n < ns.length then ns.getD n.toNat 0 else if ns.length = 0 then 31 * n + 7 else ns.getD (n % ns.length).toNat 0 % 1000003 + 101 * n
noncomputable def sp_cell (K : PySem.W.Frag) : Sp := fun vs H Q _ => ∃ (a : Addr) (ns : List Int) (n : Int), vs = [.ref a, .int n] ∧ SqL K H a (ns.map V.int) ∧ ns.length ≤ 63 ∧ 0 ≤ n ∧ n < 1000000 ∧ Q (.int (cell ns n)) H
noncomputable def sp_whole : Sp := fun vs H Q _ => ∃ n : Int, vs = [.int n] ∧ Q (.bl true) H
noncomputable def sp_numbers : Sp := fun vs H Q _ => ∃ (c : Int) (n : Nat), vs = [.int c, .int n] ∧ n ≤ 60 ∧ ∀ (p : Addr) (xs : List Int) (H' : Hp), Same H H' → H p = none → H' p = some (.lst (xs.map V.int)) → xs.length = n → (∀ x ∈ xs, 0 ≤ x ∧ x < 1009) → Q (.ref p) H'
section
variable {P : Program} {w : World} {K : PySem.W.Frag} {mg : Str → Option Value} {base : Heap} {t : Adr}
theorem sc_l_whole : FnScope ["_law_found_here"] ["_law_found_here"] (defScope s_l_whole) := ⟨rfl, rfl, rfl, by decide +kernel, rfl, by decide +kernel, by decide +kernel⟩
theorem ok_l_whole (T : Txt w K mg t) : FnOk P w K mg base (CXr P w) 1 t.f_l_whole t.d_l_whole ["_law_found_here"] sp_whole := by
 refine T.p_l_whole.F.okR sc_l_whole (fun vs H Q E h => ?_) (fun cdv A outer s H vs Q E hr h => ?_)
 ·obtain ⟨p, rfl, _⟩ := h
  rfl
 ·obtain ⟨p, rfl, k⟩ := h
  refine ⟨_, (pss_one (ps_ret (pe_and (pe_callB call_isinst (by rfl) T.n_isinstance PyProof.Rows.boot_isinstance (pa_cons (pv 0) (pa_cons (pe_bltn (v := .ty "int") (by rfl) T.n_int PySem.Pv.boot_int rfl) pa_nil))) (pe_one (pe_not (pe_callB call_isinst (by rfl) T.n_isinstance PyProof.Rows.boot_isinstance (pa_cons (pv 0) (pa_cons (pe_bltn (v := .ty "bool") (by rfl) T.n_bool PySem.Pv.boot_bool rfl) pa_nil)))))))), ?_⟩
  refine ⟨_, rfl, _, "int", _, true, rfl, TyOf.int p, kit_same, _, rfl, iteT ?_⟩
  refine ⟨_, rfl, _, "bool", _, false, rfl, TyOf.int p, (by rfl), _, rfl, k⟩
theorem sc_l_cell : FnScope ["_law_script", "_law_at"] ["_law_script", "_law_at"] (defScope s_l_cell) := ⟨rfl, rfl, rfl, by decide +kernel, rfl, by decide +kernel, by decide +kernel⟩
theorem ok_l_cell (T : Txt w K mg t) : FnOk P w K mg base (CXr P w) 1 t.f_l_cell t.d_l_cell ["_law_script", "_law_at"] (sp_cell K) := by
 refine T.p_l_cell.F.okR sc_l_cell (fun vs H Q E h => ?_) (fun cdv A outer s H vs Q E hr h => ?_)
 ·obtain ⟨a, ns, n, rfl, _⟩ := h
  rfl
 ·obtain ⟨a, ns, n, rfl, hS, hl, h0, h1, k⟩ := h
  refine ⟨_, (pss_cons (ps_if (pt_cmpR op_lt (pv 1) (pe_callB call_len_seq (by rfl) T.n_len PySem.boot_len (pa_cons (pv 0) pa_nil)) (nomark _)) (pss_one (ps_ret (pe_ix ix_list (pv 0) (pv 1) (fun _ _ => rfl)))) pss_nil)
   (pss_cons (ps_if (pt_cmpR op_eq (pe_callB call_len_seq (by rfl) T.n_len PySem.boot_len (pa_cons (pv 0) pa_nil)) pe_int (nomark _)) (pss_one (ps_ret (pe_op op_add (pe_op op_mul pe_int (pv 1)) pe_int))) pss_nil)
   (pss_one (ps_ret (pe_op op_add (pe_op op_mod (pe_ix ix_list (pv 0) (pe_op op_mod (pv 1) (pe_callB call_len_seq (by rfl) T.n_len PySem.boot_len (pa_cons (pv 0) pa_nil))) (fun _ _ => rfl)) pe_int) (pe_op op_mul pe_int (pv 1))))))), ?_⟩
  have el : ((ns.map V.int).length : Int) = ns.length := by simp
  refine ⟨_, rfl, _, rfl, a, _, rfl, .inl hS, _, _, rfl, rfl, _, rfl, ?_⟩
  rw [el]
  refine ite2 (fun h => ?_) (fun h => ?_)
  ·have h : n < ns.length := by simpa using h
   have e : cell ns n = ns.getD n.toNat 0 := if_pos h
   have en : n = (n.toNat : Int) := by omega
   have ei : atI (ns.map V.int) n = some (V.int (ns.getD n.toNat 0)) := by rw [en]; exact atI_nat (getI (n := n.toNat) (by omega))
   rw [e] at k
   exact ⟨_, rfl, _, rfl, a, _, _, _, rfl, rfl, hS, ei, k⟩
  ·have h : ¬ n < ns.length := by simpa using h
   have e : cell ns n = if ns.length = 0 then 31 * n + 7 else ns.getD (n % ns.length).toNat 0 % 1000003 + 101 * n := if_neg h
   refine ⟨_, rfl, a, _, rfl, .inl hS, rfl, _, rfl, ?_⟩
   rw [el]
   refine ite2 (fun g => ?_) (fun g => ?_)
   ·have g : ns.length = 0 := by simpa using g
    refine ⟨_, rfl, _, _, rfl, rfl, .inl ⟨by decide, by decide⟩, _, _, rfl, rfl, ?_⟩
    rw [if_pos g] at e
    rw [e] at k; exact k
   ·have g : ¬ ns.length = 0 := by simpa using g
    have gp : (0 : Int) < ns.length := by omega
    rw [if_neg g] at e
    have m0 := Int.emod_nonneg n (show (ns.length : Int) ≠ 0 by omega)
    have m1 := Int.emod_lt_of_pos n gp
    refine ⟨_, rfl, _, rfl, _, rfl, a, _, rfl, .inl hS, _, _, rfl, rfl, (by rw [el]; exact gp), a, _, _, _, rfl, rfl, hS, (?_ : atI _ _ = some (V.int (ns.getD (n % ns.length).toNat 0))), _, _, rfl, rfl, (by show (0 : Int) < 1000003; decide), _, rfl, _, _, rfl, rfl, .inl ⟨by decide, by decide⟩, _, _, rfl, rfl, ?_⟩
    ·rw [el]
     have en : n % (ns.length : Int) = ((n % (ns.length : Int)).toNat : Int) := by omega
     rw [en]
     exact atI_nat (getI (by omega))
    ·rw [e] at k; exact k
theorem sc_l_numbers : FnScope ["_law_cell_here", "_law_many", "_law_row", "_law_rest", "_law_seed"] ["_law_cell_here", "_law_many"] (defScope s_l_numbers) := ⟨rfl, rfl, rfl, by decide +kernel, rfl, by decide +kernel, by decide +kernel⟩
theorem ok_l_numbers (T : Txt w K mg t) : FnOk P w K mg base (CXr P w) 1 t.f_l_numbers t.d_l_numbers ["_law_cell_here", "_law_many"] sp_numbers := by
 refine T.p_l_numbers.F.okR sc_l_numbers (fun vs H Q E h => ?_) (fun cdv A outer s H vs Q E hr h => ?_)
 ·obtain ⟨c, n, rfl, _⟩ := h
  rfl
 ·obtain ⟨c, n, rfl, hn60, k⟩ := h
  refine ⟨_, (pss_cons (ps_set (i := 2) sc_l_numbers.nd rfl (Or.inl rfl) (pe_lst pa_nil))
   (pss_cons (ps_set (i := 3) sc_l_numbers.nd rfl (Or.inl rfl) (pe_op op_sub (pv 0) (pe_op op_pow pe_int pe_int)))
   (pss_cons (ps_while PassesOwn.never (PW.pt (pw_and (pt_cmpR op_gt (pv 3) pe_int (nomark _)) (pw_and1 (pt_cmpR op_lt (pe_callB call_len_seq (by rfl) T.n_len PySem.boot_len (pa_cons (pv 2) pa_nil)) (pv 1) (nomark _))))) (pss_cons (ps_expr (pe_bm PySem.F.plainAttrs_list PySem.F.slot_list_append PySem.F.type_list_append mt_append (pv 2) (pa_cons (pe_op op_mod (pv 3) pe_int) pa_nil)))
   (pss_one (ps_set (i := 3) sc_l_numbers.nd rfl (Or.inl rfl) (pe_op op_fdiv (pv 3) pe_int)))))
   (pss_cons (ps_set (i := 4) sc_l_numbers.nd rfl (Or.inl rfl) (pe_op op_mod (pv 0) pe_int))
   (pss_cons (ps_while PassesOwn.never (pt_cmpR op_lt (pe_callB call_len_seq (by rfl) T.n_len PySem.boot_len (pa_cons (pv 2) pa_nil)) (pv 1) (nomark _)) (pss_cons (ps_set (i := 4) sc_l_numbers.nd rfl (Or.inl rfl) (pe_op op_mod (pe_op op_add (pe_op op_add (pe_op op_mul (pv 4) pe_int) pe_int) (pe_callB call_len_seq (by rfl) T.n_len PySem.boot_len (pa_cons (pv 2) pa_nil))) pe_int))
   (pss_one (ps_expr (pe_bm PySem.F.plainAttrs_list PySem.F.slot_list_append PySem.F.type_list_append mt_append (pv 2) (pa_cons (pe_op op_mod (pe_op op_fdiv (pe_op op_mod (pe_op op_mul (pv 4) pe_int) pe_int) pe_int) pe_int) pa_nil))))))
   (pss_one (ps_ret (pv 2)))))))), ?_⟩
  refine ⟨Nat.zero_le _, fun r hr0 => ?_⟩
  refine ⟨_, rfl, _, _, rfl, rfl, ⟨by decide, by decide, by decide⟩, _, _, rfl, rfl, ?_⟩
  show tSeq (tWhile _ _) _ _ _ _
  refine seq_post (fun σ H1 => ∃ (xs : List Int) (rest : Int), σ = [some (.int c), some (.int n), some (.ref r), some (.int rest), none] ∧ Same H H1 ∧ H1 r = some (.lst (xs.map V.int)) ∧ xs.length ≤ n ∧ (∀ x ∈ xs, 0 ≤ x ∧ x < 1009)) (fun nx hnx => ?_) ?_
  ·refine ⟨fun m σ H1 => ∃ (xs : List Int) (rest : Int), m = n - xs.length ∧ σ = [some (.int c), some (.int n), some (.ref r), some (.int rest), none] ∧ Same H H1 ∧ H1 r = some (.lst (xs.map V.int)) ∧ xs.length ≤ n ∧ (∀ x ∈ xs, 0 ≤ x ∧ x < 1009),
    ⟨n, [], _, rfl, rfl, Same.new hr0, upd_same, Nat.zero_le _, fun x hx => absurd hx (by simp)⟩, ?_⟩
   rintro m σ H1 ⟨xs, rest, rfl, rfl, sm, h1, hl, hx⟩
   have el : ((xs.map V.int).length : Int) = xs.length := by simp
   refine ⟨_, rfl, _, _, rfl, rfl, _, rfl, ?_⟩
   refine ite2 (fun _ => ?_) (fun _ => ?_)
   ·refine ⟨_, rfl, r, _, rfl, .inl (SqL.of h1), _, rfl, _, _, rfl, rfl, _, rfl, ?_⟩
    rw [el]
    refine ite2 (fun g => ?_) (fun _ => ?_)
    ·have g : (xs.length : Int) < n := by simpa using g
     refine ⟨_, fun σ' H' h => h, ?_⟩
     refine ⟨_, rfl, .inl ⟨rfl, _, SqL.of h1⟩, _, rfl, _, _, rfl, rfl, (by show (0 : Int) < 1009; decide), r, _, _, rfl, rfl, h1, (by rw [List.length_map]; exact small1000 (by omega)), ?_⟩
     refine ⟨_, rfl, _, _, rfl, rfl, ⟨by decide, by decide⟩, ?_⟩
     refine ⟨n - (xs ++ [rest % 1009]).length, ?_, xs ++ [rest % 1009], _, rfl, rfl, Same.add sm hr0, ?_, ?_, ?_⟩
     ·rw [List.length_append, List.length_singleton]; omega
     ·rw [upd_same, ← map_snoc]
     ·rw [List.length_append, List.length_singleton]; omega
     ·intro x hm
      rcases List.mem_append.mp hm with z | z
      ·exact hx x z
      ·have : x = rest % 1009 := by simpa using z
       subst this
       omega
    ·exact hnx _ _ ⟨xs, rest, rfl, sm, h1, hl, hx⟩
   ·exact hnx _ _ ⟨xs, rest, rfl, sm, h1, hl, hx⟩
  rintro σ H1 ⟨xs, rest, rfl, sm, h1, hl, hx⟩
  refine ⟨_, rfl, _, _, rfl, rfl, (by show (0 : Int) < 2147483629; decide), ?_⟩
  show tSeq (tWhile _ _) _ _ _ _
  refine seq_post (fun σ H1 => ∃ (xs : List Int) (rest seed : Int), σ = [some (.int c), some (.int n), some (.ref r), some (.int rest), some (.int seed)] ∧ Same H H1 ∧ H1 r = some (.lst (xs.map V.int)) ∧ xs.length = n ∧ (∀ x ∈ xs, 0 ≤ x ∧ x < 1009)) (fun nx hnx => ?_) ?_
  ·refine ⟨fun m σ H1 => ∃ (xs : List Int) (rest seed : Int), m = n - xs.length ∧ σ = [some (.int c), some (.int n), some (.ref r), some (.int rest), some (.int seed)] ∧ Same H H1 ∧ H1 r = some (.lst (xs.map V.int)) ∧ xs.length ≤ n ∧ (∀ x ∈ xs, 0 ≤ x ∧ x < 1009),
    ⟨n - xs.length, xs, rest, _, rfl, rfl, sm, h1, hl, hx⟩, ?_⟩
   clear h1 hl hx sm xs rest
   rintro m σ H1 ⟨xs, rest, seed, rfl, rfl, sm, h1, hl, hx⟩
   have el : ((xs.map V.int).length : Int) = xs.length := by simp
   refine ⟨_, rfl, r, _, rfl, .inl (SqL.of h1), _, rfl, _, _, rfl, rfl, _, rfl, ?_⟩
   rw [el]
   refine ite2 (fun g => ?_) (fun g => ?_)
   ·have g : (xs.length : Int) < n := by simpa using g
    refine ⟨_, fun σ' H' h => h, ?_⟩
    refine ⟨_, rfl, _, _, rfl, rfl, .inr ⟨by decide, by decide⟩, _, _, rfl, rfl, _, rfl, r, _, rfl, .inl (SqL.of h1), _, _, rfl, rfl, _, _, rfl, rfl, (by show (0 : Int) < 2147483647; decide), ?_⟩
    obtain ⟨y, hy⟩ : ∃ y, y = (seed * 48271 + 12345 + ((xs.map V.int).length : Int)) % 2147483647 * 69621 % 2147483629 / 7 % 1009 := ⟨_, rfl⟩
    refine ⟨_, rfl, .inl ⟨rfl, _, SqL.of h1⟩, _, rfl, _, _, rfl, rfl, .inr ⟨by decide, by decide⟩, _, _, rfl, rfl, (by show (0 : Int) < 2147483629; decide), _, _, rfl, rfl, ⟨by decide, by decide⟩, _, _, rfl, rfl, (by show (0 : Int) < 1009; decide), r, _, _, rfl, rfl, h1, (by rw [List.length_map]; exact small1000 (by omega)), ?_⟩
    refine ⟨n - (xs ++ [y]).length, ?_, xs ++ [y], _, _, rfl, rfl, Same.add sm hr0, ?_, ?_, ?_⟩
    ·rw [List.length_append, List.length_singleton]; omega
    ·rw [upd_same, ← map_snoc, hy]
    ·rw [List.length_append, List.length_singleton]; omega
    ·intro x hm
     rcases List.mem_append.mp hm with z | z
     ·exact hx x z
     ·have : x = y := by simpa using z
      rw [this, hy]
      exact ⟨Int.emod_nonneg _ (by decide), Int.emod_lt_of_pos _ (by decide)⟩
   ·have g : ¬ (xs.length : Int) < n := by simpa using g
    exact hnx _ _ ⟨xs, rest, seed, rfl, sm, h1, by omega, hx⟩
  rintro σ H1 ⟨xs, rest, seed, rfl, sm, h1, hl, hx⟩
  exact ⟨_, rfl, k r xs H1 sm hr0 h1 hl hx⟩
noncomputable def sp_sewn (K : PySem.W.Frag) : Sp := fun vs H Q _ => ∃ (a : Addr) (xs : List Int) (n : Nat) (sh : Int), vs = [.ref a, .int n, .int sh] ∧ H a = some (.lst (xs.map V.int)) ∧ xs.length = 60 ∧ (∀ x ∈ xs, 0 ≤ x ∧ x < 1009) ∧ 1 ≤ n ∧ n ≤ 16 ∧
 ∀ (p : Addr) (M : List (Option Nat)) (H' : Hp), Same H H' → H p = none → H' p = some (.lst (M.map mV)) → M.length = 3 * n → (∀ (i j : Nat), M[i]? = some (some j) → M[j]? = some (some i) ∧ i ≠ j) → Q (.ref p) H'
theorem map_set {α : Type} (f : α → V) (l : List α) (i : Nat) (x : α) : (l.map f).set i (f x) = (l.set i x).map f := by rw [List.map_set]
theorem ixN_nat {n i : Nat} (h : i < n) : ixN n (i : Int) = some i := by
 unfold ixN
 simp
 omega
theorem er_map {α β : Type} (f : α → β) : ∀ (l : List α) (i : Nat), (l.map f).eraseIdx i = (l.eraseIdx i).map f
 | [], _ => rfl
 | _ :: _, 0 => rfl
 | a :: r, i + 1 => by rw [List.map_cons, List.eraseIdx_cons_succ, er_map f r i, List.eraseIdx_cons_succ, List.map_cons]
theorem natV (F : List Nat) (i : Nat) : (F.map fun (j : Nat) => V.int j)[i]? = (F[i]?).map fun (j : Nat) => V.int j := List.getElem?_map ..
theorem sc_l_sewn : FnScope ["_law_nums", "_law_many", "_law_share", "_law_mates", "_law_free_here", "_law_at", "_law_one", "_law_pick", "_law_other"] ["_law_nums", "_law_many", "_law_share"] (defScope s_l_sewn) := ⟨rfl, rfl, rfl, by decide +kernel, rfl, by decide +kernel, by decide +kernel⟩
theorem ok_l_sewn (T : Txt w K mg t) : FnOk P w K mg base (CXr P w) 1 t.f_l_sewn t.d_l_sewn ["_law_nums", "_law_many", "_law_share"] (sp_sewn K) := by
 refine T.p_l_sewn.F.okR sc_l_sewn (fun vs H Q E h => ?_) (fun cdv A outer s H vs Q E hr h => ?_)
 ·obtain ⟨a, xs, n, sh, rfl, _⟩ := h
  rfl
 ·obtain ⟨a, xs, n, sh, rfl, ha, hl, hx, h1, h2, k⟩ := h
  refine ⟨_, (pss_cons (ps_set (i := 3) sc_l_sewn.nd rfl (Or.inl rfl) (pe_op op_rep (pe_lst (pa_cons pe_non pa_nil)) (pe_op op_mul pe_int (pv 1))))
   (pss_cons (ps_set (i := 4) sc_l_sewn.nd rfl (Or.inl rfl) (pe_listRange rfl T.n_list rfl T.n_range rfl (pa_cons (pe_op op_mul pe_int (pv 1)) pa_nil)))
   (pss_cons (ps_set (i := 5) sc_l_sewn.nd rfl (Or.inl rfl) pe_int)
   (pss_cons (ps_while PassesOwn.never (pt_cmpR op_gt (pe_callB call_len_seq (by rfl) T.n_len PySem.boot_len (pa_cons (pv 4) pa_nil)) pe_int (nomark _)) (pss_cons (ps_set (i := 6) sc_l_sewn.nd rfl (Or.inl rfl) (pe_bm PySem.F.plainAttrs_list PySem.F.slot_list_pop PySem.F.type_list_pop mt_popAt (pv 4) (pa_cons pe_int pa_nil)))
   (pss_cons (ps_set (i := 7) sc_l_sewn.nd rfl (Or.inl rfl) (pe_ix ix_list (pv 0) (pv 5) (fun _ _ => rfl)))
   (pss_cons (ps_set (i := 5) sc_l_sewn.nd rfl (Or.inl rfl) (pe_op op_add (pv 5) pe_int))
   (pss_one (ps_if (pt_cmpR op_ge (pe_op op_mod (pv 7) pe_int) (pv 2) (nomark _)) (pss_cons (ps_set (i := 8) sc_l_sewn.nd rfl (Or.inl rfl) (pe_bm PySem.F.plainAttrs_list PySem.F.slot_list_pop PySem.F.type_list_pop mt_popAt (pv 4) (pa_cons (pe_op op_mod (pe_op op_fdiv (pv 7) pe_int) (pe_callB call_len_seq (by rfl) T.n_len PySem.boot_len (pa_cons (pv 4) pa_nil))) pa_nil)))
   (pss_cons (ps_asg (pv 8) (pg_sub (pv 3) (pv 6) set_list))
   (pss_one (ps_asg (pv 6) (pg_sub (pv 3) (pv 8) set_list))))) pss_nil))))))
   (pss_one (ps_ret (pv 3))))))), ?_⟩
  refine ⟨(by show 1 ≤ sizeLine; decide), fun q hq => ?_⟩
  refine ⟨_, rfl, _, _, rfl, rfl, .inl ⟨by decide, by decide⟩, q, _, _, rfl, rfl, upd_same, (by omega), (by omega), ?_, fun m hm => ?_⟩
  ·have : (3 * (n : Int)).toNat = 3 * n := by omega
   show 1 * (3 * (n : Int)).toNat ≤ sizeLine
   rw [this, sizeLine_eq]; omega
  have eN : (3 * (n : Int)).toNat = 3 * n := by omega
  have eM : (List.replicate (3 * (n : Int)).toNat [V.non]).flatten = (List.replicate (3 * n) (none : Option Nat)).map mV := by
   rw [eN, List.flatten_replicate_singleton, List.map_replicate]
   rfl
  refine ⟨_, rfl, _, _, rfl, rfl, .inl ⟨by decide, by decide⟩, 3 * n, (congrArg (fun z => [V.int z]) (by omega : (3 * (n : Int)) = ((3 * n : Nat) : Int))), by omega, fun f hf => ?_⟩
  have hfm : f ≠ m := fun z => by rw [z, upd_same] at hf; cases hf
  have hm0 : H m = none := by
   have : m ≠ q := fun z => by rw [z, upd_same] at hm; cases hm
   rw [upd_ne this] at hm; exact hm
  have hf0 : H f = none := by
   rw [upd_ne hfm] at hf
   have : f ≠ q := fun z => by rw [z, upd_same] at hf; cases hf
   rw [upd_ne this] at hf; exact hf
  have sm0 : Same H (upd (upd (upd H q (.lst [.non])) m (.lst (List.replicate (3 * (n : Int)).toNat [V.non]).flatten)) f (.lst ((List.range (3 * n)).map fun (i : Nat) => V.int i))) := Same.add (Same.add (Same.new hq) hm0) hf0
  show tSeq (tWhile _ _) _ _ _ _
  refine seq_post (fun σ H1 => ∃ (M : List (Option Nat)) (v4 v5 v6 v7 v8 : Option V), σ = [some (.ref a), some (.int n), some (.int sh), some (.ref m), v4, v5, v6, v7, v8] ∧ Same H H1 ∧ H1 m = some (.lst (M.map mV)) ∧ M.length = 3 * n ∧ ∀ (i j : Nat), M[i]? = some (some j) → M[j]? = some (some i) ∧ i ≠ j) (fun nx hnx => ?_) ?_
  ·refine ⟨fun c σ H1 => ∃ (F : List Nat) (M : List (Option Nat)) (at' : Nat) (v6 v7 v8 : Option V), c = F.length ∧ σ = [some (.ref a), some (.int n), some (.int sh), some (.ref m), some (.ref f), some (.int at'), v6, v7, v8] ∧ Same H H1 ∧ H1 m = some (.lst (M.map mV)) ∧ H1 f = some (.lst (F.map fun (i : Nat) => V.int i)) ∧ SewOk (3 * n) F M ∧ at' + F.length ≤ 3 * n,
    ⟨_, List.range (3 * n), List.replicate (3 * n) none, 0, none, none, none, rfl, rfl, sm0, ?_, upd_same, SewOk.start _, by simp⟩, ?_⟩
   ·rw [upd_ne hfm.symm, upd_same, eM]
   rintro c σ H1 ⟨F, M, at', v6, v7, v8, rfl, rfl, sm, g1, g2, hs, hat⟩
   refine ⟨_, rfl, f, _, rfl, .inl (SqL.of g2), _, _, rfl, rfl, _, rfl, ?_⟩
   rw [List.length_map]
   refine ite2 (fun g => ?_) (fun g => ?_)
   ·have g : 1 < F.length := by have := of_decide_eq_true g; omega
    obtain ⟨one, F', rfl⟩ : ∃ one F', F = one :: F' := by
     cases F with
     | nil => simp at g
     | cons a b => exact ⟨a, b, rfl⟩
    rw [List.length_cons] at g hat
    refine ⟨_, fun σ' H' h => h, ?_⟩
    refine ⟨_, rfl, .inl ⟨rfl, _, SqL.of g2⟩, f, _, 0, 0, V.int one, rfl, rfl, g2, by decide, by decide, (by simp [seqIndex?]), rfl, ?_⟩
    have e0 : ((one :: F').map fun (i : Nat) => V.int i).eraseIdx 0 = F'.map fun (i : Nat) => V.int i := rfl
    rw [e0]
    have g2' : (upd H1 f (.lst (F'.map fun (i : Nat) => V.int i))) f = some (.lst (F'.map fun (i : Nat) => V.int i)) := upd_same
    have g1' : (upd H1 f (.lst (F'.map fun (i : Nat) => V.int i))) m = some (.lst (M.map mV)) := by rw [upd_ne hfm.symm]; exact g1
    have sm' : Same H (upd H1 f (.lst (F'.map fun (i : Nat) => V.int i))) := Same.add sm hf0
    generalize upd H1 f (.lst (F'.map fun (i : Nat) => V.int i)) = H2 at g1' g2' sm' ⊢
    have hpick : at' < xs.length := by omega
    refine ⟨_, rfl, _, rfl, a, _, _, _, rfl, rfl, SqL.of (sm' _ _ ha), atI_nat (getI hpick), ?_⟩
    obtain ⟨p0, p1⟩ := hx _ (List.getElem_mem hpick)
    have ep : xs.getD at' 0 = xs[at'] := by rw [List.getD_eq_getElem?_getD, List.getElem?_eq_getElem hpick]; rfl
    rw [ep]
    generalize xs[at'] = pick at p0 p1 ⊢
    refine ⟨_, rfl, _, _, rfl, rfl, ?_⟩
    refine ⟨_, rfl, _, _, rfl, rfl, (by show (0 : Int) < 7; decide), _, rfl, _, _, rfl, rfl, _, rfl, ?_⟩
    refine ite2 (fun _ => ?_) (fun _ => ?_)
    ·-- other = free.pop(..)
     have hF : (0 : Int) < F'.length := by omega
     have k0 := Int.emod_nonneg (pick / 7) (show (F'.length : Int) ≠ 0 by omega)
     have k1 := Int.emod_lt_of_pos (pick / 7) hF
     obtain ⟨kk, hkk⟩ : ∃ kk : Nat, pick / 7 % (F'.length : Int) = kk := ⟨_, (Int.toNat_of_nonneg k0).symm⟩
     have hkl : kk < F'.length := by omega
     refine ⟨_, rfl, .inl ⟨rfl, _, SqL.of g2'⟩, _, rfl, _, _, rfl, rfl, ⟨by decide, by decide⟩, _, rfl, f, _, rfl, .inl (SqL.of g2'), _, _, rfl, rfl, (by rw [List.length_map]; exact hF), f, _, _, kk, V.int F'[kk], rfl, rfl, g2', ?_, ?_, ?_, ?_, ?_⟩
     ·rw [List.length_map, hkk]; omega
     ·rw [List.length_map, hkk]; omega
     ·rw [List.length_map, hkk]; simp [seqIndex?]; omega
     ·rw [natV, List.getElem?_eq_getElem hkl]; rfl
     have e1 : (F'.map fun (i : Nat) => V.int i).eraseIdx kk = (F'.eraseIdx kk).map fun (i : Nat) => V.int i := by rw [er_map]
     rw [e1]
     have hp := hs.pair (List.getElem?_eq_getElem hkl)
     have l1 : one < M.length := by rw [hs.len]; exact (hs.free one List.mem_cons_self).1
     have l2 : F'[kk] < M.length := by rw [hs.len]; exact (hs.free _ (List.mem_cons_of_mem _ (List.getElem_mem hkl))).1
     have g1'' : (upd H2 f (.lst ((F'.eraseIdx kk).map fun (i : Nat) => V.int i))) m = some (.lst (M.map mV)) := by rw [upd_ne hfm.symm]; exact g1'
     refine ⟨_, rfl, _, rfl, _, rfl, m, _, _, one, rfl, rfl, g1'', (by rw [List.length_map]; exact ixN_nat l1), ?_⟩
     refine ⟨_, rfl, _, rfl, _, rfl, m, _, _, F'[kk], rfl, rfl, upd_same, (by rw [List.length_set, List.length_map]; exact ixN_nat l2), ?_⟩
     refine ⟨(F'.eraseIdx kk).length, ?_, F'.eraseIdx kk, (M.set one (some F'[kk])).set F'[kk] (some one), at' + 1, _, _, _, rfl, rfl, Same.add (Same.add (Same.add sm' hf0) hm0) hm0, ?_, ?_, hp, ?_⟩
     ·rw [List.length_eraseIdx_of_lt hkl, List.length_cons]; omega
     ·rw [upd_same]
      show some (HO.lst (((M.map mV).set one (mV (some F'[kk]))).set F'[kk] (mV (some one)))) = _
      rw [map_set, map_set]
     ·rw [upd_ne hfm, upd_ne hfm, upd_same]
     ·rw [List.length_eraseIdx_of_lt hkl]; omega
    ·exact ⟨F'.length, by rw [List.length_cons]; omega, F', M, at' + 1, _, _, _, rfl, rfl, sm', g1', g2', hs.skip, by omega⟩
   ·exact hnx _ _ ⟨M, _, _, _, _, _, rfl, sm, g1, hs.len, hs.inv⟩
  rintro σ H1 ⟨M, v4, v5, v6, v7, v8, rfl, sm, g1, hl', hi'⟩
  exact ⟨_, rfl, k m M H1 sm hm0 g1 hl' hi'⟩
end
end KT
set_option maxHeartbeats 4000000
namespace KT
open PySem L2
theorem loop_range {lo : Int} {n : Nat} {g : TG} {tt : TT} {tb : TB} {R : St → Hp → Prop} {σ : St} {H : Hp} (Pv : Nat → St → Hp → Prop) (h0 : Pv 0 σ H)
  (hs : ∀ (i : Nat) σ H, i < n → Pv i σ H → g (.int (lo + i)) σ H fun σ2 H2 => tt σ2 H2 fun b H3 => if b = true then tb σ2 H3 (Pv (i + 1)) else Pv (i + 1) σ2 H3) (hd : ∀ σ H, Pv n σ H → R σ H) : LoopR (Itr lo n) g tt tb R σ H := by
 refine ⟨fun i m σ H => m = n - i ∧ i ≤ n ∧ Pv i σ H, ⟨n, by simp, Nat.zero_le _, h0⟩, ?_⟩
 rintro i m σ H ⟨rfl, hi, p⟩
 by_cases hlt : i < n
 ·refine .inr ⟨hlt, Pv (i + 1), fun σ' H' p' => ⟨n - (i + 1), by omega, rfl, hlt, p'⟩, fun x H' y => ?_⟩
  obtain ⟨e, y⟩ := y
  subst e y
  exact hs i σ _ hlt p
 ·have e : i = n := by omega
  subst e
  exact .inl ⟨Nat.le_refl _, hd σ H p⟩
theorem loop_list {K : PySem.W.Frag} {a : Addr} {xs : List V} {g : TG} {tt : TT} {tb : TB} {R : St → Hp → Prop} {σ : St} {H : Hp} (Pv : Nat → St → Hp → Prop) (h0 : Pv 0 σ H) (hl : ∀ i σ H, i ≤ xs.length → Pv i σ H → SqL K H a xs)
  (hs : ∀ (i : Nat) x σ H, xs[i]? = some x → Pv i σ H → g x σ H fun σ2 H2 => tt σ2 H2 fun b H3 => if b = true then tb σ2 H3 (Pv (i + 1)) else Pv (i + 1) σ2 H3) (hd : ∀ σ H, Pv xs.length σ H → R σ H) : LoopR (Itl K a) g tt tb R σ H := by
 refine ⟨fun i m σ H => m = xs.length - i ∧ i ≤ xs.length ∧ Pv i σ H, ⟨xs.length, by simp, Nat.zero_le _, h0⟩, ?_⟩
 rintro i m σ H ⟨rfl, hi, p⟩
 have q := hl i σ H hi p
 by_cases hlt : i < xs.length
 ·refine .inr ⟨⟨xs, xs[i], q, by simp [hlt]⟩, Pv (i + 1), fun σ' H' p' => ⟨xs.length - (i + 1), by omega, rfl, hlt, p'⟩, fun x H' y => ?_⟩
  obtain ⟨e, y⟩ := y
  subst e
  exact hs i x σ _ (y xs q) p
 ·have e : i = xs.length := by omega
  subst e
  exact .inl ⟨⟨xs, q, Nat.le_refl _⟩, hd σ H p⟩
theorem loop_tup {K : PySem.W.Frag} {a : Addr} {xs : List V} {g : TG} {tt : TT} {tb : TB} {R : St → Hp → Prop} {σ : St} {H : Hp} (Pv : Nat → St → Hp → Prop) (h0 : Pv 0 σ H) (hl : ∀ i σ H, i ≤ xs.length → Pv i σ H → SqT K H a xs)
  (hs : ∀ (i : Nat) x σ H, xs[i]? = some x → Pv i σ H → g x σ H fun σ2 H2 => tt σ2 H2 fun b H3 => if b = true then tb σ2 H3 (Pv (i + 1)) else Pv (i + 1) σ2 H3) (hd : ∀ σ H, Pv xs.length σ H → R σ H) : LoopR (Itt K a) g tt tb R σ H := by
 refine ⟨fun i m σ H => m = xs.length - i ∧ i ≤ xs.length ∧ Pv i σ H, ⟨xs.length, by simp, Nat.zero_le _, h0⟩, ?_⟩
 rintro i m σ H ⟨rfl, hi, p⟩
 have q := hl i σ H hi p
 by_cases hlt : i < xs.length
 ·refine .inr ⟨⟨xs, xs[i], q, by simp [hlt]⟩, Pv (i + 1), fun σ' H' p' => ⟨xs.length - (i + 1), by omega, rfl, hlt, p'⟩, fun x H' y => ?_⟩
  obtain ⟨e, y⟩ := y
  subst e
  exact hs i x σ _ (y xs q) p
 ·have e : i = xs.length := by omega
  subst e
  exact .inl ⟨⟨xs, q, Nat.le_refl _⟩, hd σ H p⟩
noncomputable def row3 (ns : List Int) (k : Nat) : List V := [.int (ns.getD (3 * k) 0), .int (ns.getD (3 * k + 1) 0), .int (ns.getD (3 * k + 2) 0)]
noncomputable def RowsAt (H : Hp) (r : Addr) (ns : List Int) : Prop := ∃ ts : List Addr, H r = some (.lst (ts.map V.ref)) ∧ ns.length = 3 * ts.length ∧ ∀ (k : Nat) (t : Addr), ts[k]? = some t → H t = some (.tup (row3 ns k))
theorem RowsAt.same {H H' : Hp} {r : Addr} {ns : List Int} (h : RowsAt H r ns) (s : Same H H') : RowsAt H' r ns := by
 obtain ⟨ts, h1, h2, h3⟩ := h
 exact ⟨ts, s _ _ h1, h2, fun k t e => s _ _ (h3 k t e)⟩
noncomputable def sp_rows : Sp := fun vs H Q _ => ∃ (a : Addr) (M : List (Option Nat)) (n : Nat) (st sp : Int), vs = [.ref a, .int st, .int sp] ∧ H a = some (.lst (M.map mV)) ∧ M.length = 3 * n ∧ 1 ≤ n ∧ n ≤ 16 ∧ (∀ (i j : Nat), M[i]? = some (some j) → M[j]? = some (some i) ∧ i ≠ j) ∧ sp ∈ steps ∧
 ∀ (p : Addr) (H' : Hp), Same H H' → H p = none → RowsAt H' p (flat M st sp) → Q (.ref p) H'
theorem steps_small {t : Int} (h : t ∈ steps) : -(2 ^ 64) < t ∧ t < 2 ^ 64 := by
 simp only [steps, List.mem_cons, List.not_mem_nil, or_false] at h
 rcases h with rfl | rfl | rfl | rfl | rfl | rfl | rfl | rfl <;> decide
theorem mV_get {M : List (Option Nat)} {i : Nat} (h : i < M.length) : atI (M.map mV) (0 + (i : Int)) = some (mV M[i]) := by
 rw [Int.zero_add]
 exact atI_nat (by rw [List.getElem?_map, List.getElem?_eq_getElem h]; rfl)
section
variable {P : Program} {w : World} {K : PySem.W.Frag} {mg : Str → Option Value} {base : Heap} {t : Adr}
theorem sc_l_rows : FnScope ["_law_mates", "_law_start", "_law_step", "_law_flat", "_law_at", "_law_mate"] ["_law_mates", "_law_start", "_law_step"] (defScope s_l_rows) := ⟨rfl, rfl, rfl, by decide +kernel, rfl, by decide +kernel, by decide +kernel⟩
theorem ok_l_rows (T : Txt w K mg t) : FnOk P w K mg base (CXr P w) 1 t.f_l_rows t.d_l_rows ["_law_mates", "_law_start", "_law_step"] sp_rows := by
 refine T.p_l_rows.F.okR sc_l_rows (fun vs H Q E h => ?_) (fun cdv A outer s H vs Q E hr h => ?_)
 ·obtain ⟨a, M, n, st, sp, rfl, _⟩ := h
  rfl
 ·obtain ⟨a, M, n, st, sp, rfl, ha, hM, h1, h2, hi, hsp, k⟩ := h
  refine ⟨_, (pss_cons (ps_set (i := 3) sc_l_rows.nd rfl (Or.inr rfl) (pe_lst pa_nil))
   (pss_cons (ps_for PassesOwn.never rfl (pi_range1 rfl T.n_range (pa_cons (pe_callB call_len_seq (by rfl) T.n_len PySem.boot_len (pa_cons (pv 0) pa_nil)) pa_nil)) (pg_name (i := 4) sc_l_rows.nd rfl (Or.inl rfl)) (pss_cons (ps_set (i := 5) sc_l_rows.nd rfl (Or.inl rfl) (pe_ix ix_list (pv 0) (pv 4) (fun _ _ => rfl)))
   (pss_one (ps_if (PW.pt (pw_and (pt_cmpR op_notN (pv 5) pe_non (nomark _)) (pw_and1 (pt_cmpR op_lt (pv 5) (pv 4) (nomark _))))) (pss_one (ps_expr (pe_bm PySem.F.plainAttrs_list PySem.F.slot_list_append PySem.F.type_list_append mt_append (pv 3) (pa_cons (pe_ix ix_list (pv 3) (pv 5) (fun _ _ => rfl)) pa_nil)))) (pss_one (ps_expr (pe_bm PySem.F.plainAttrs_list PySem.F.slot_list_append PySem.F.type_list_append mt_append (pv 3) (pa_cons (pe_op op_mod (pe_op op_add (pv 1) (pe_op op_mul (pv 2) (pv 4))) pe_int) pa_nil))))))))
   (pss_one (ps_ret (pe_compG (ts := ["_law_k"]) (fv := [("_law_flat", 3)]) ⟨rfl, by decide +kernel, by decide +kernel, blkFree (by rfl), ⟨⟨rfl, rfl, Or.inl rfl⟩, trivial⟩⟩ rfl (pi_range1 rfl T.n_range (pa_cons (pe_op op_fdiv (pe_callB call_len_seq (by rfl) T.n_len PySem.boot_len (pa_cons (pv 0) pa_nil)) pe_int) pa_nil)) (fun _ _ _ _ => (pg_name (i := 0) (show List.Nodup (["_law_k", "_law_flat"] : List Str) from by decide +kernel) rfl (Or.inl rfl) (Or.inr rfl))) (fun _ _ _ _ => pts_nil) (fun _ _ _ => rfl) (fun _ _ _ _ _ _ => pb_emit (pe_tup (pa_cons (pe_ix (ix_listK K) (pv 1) (pe_op op_mul pe_int (pv 0)) (fun _ _ => rfl)) (pa_cons (pe_ix (ix_listK K) (pv 1) (pe_op op_add (pe_op op_mul pe_int (pv 0)) pe_int) (fun _ _ => rfl)) (pa_cons (pe_ix (ix_listK K) (pv 1) (pe_op op_add (pe_op op_mul pe_int (pv 0)) pe_int) (fun _ _ => rfl)) pa_nil)))))))))), ?_⟩
  refine ⟨Nat.zero_le _, fun f hf => ?_⟩
  have eL : (((M.map mV).length : Nat) : Int).toNat = M.length := by simp
  have ha1 : (upd H f (.lst [])) a = some (.lst (M.map mV)) := by rw [upd_ne (ne_of_none ha hf)]; exact ha
  dsimp only [gName]
  show tSeq (tFor _ _ _) _ _ _ _
  refine seq_post (fun σ H1 => ∃ (v4 v5 : Option V), σ = [some (.ref a), some (.int st), some (.int sp), some (.ref f), v4, v5] ∧ Same H H1 ∧ H1 f = some (.lst ((flat M st sp).map V.int))) (fun nx hnx => ?_) ?_
  ·refine ⟨_, rfl, a, _, rfl, .inl (SqL.of ha1), _, rfl, by omega, by rw [List.length_map]; omega, ?_⟩
   rw [eL]
   refine for_range (n := M.length) (fun i σ H1 => ∃ (v4 v5 : Option V), σ = [some (.ref a), some (.int st), some (.int sp), some (.ref f), v4, v5] ∧ Same H H1 ∧ H1 f = some (.lst (((List.range i).map fun i => nm st sp (rep M i)).map V.int))) ⟨none, none, rfl, Same.new hf, upd_same⟩ ?_ ?_
   ·rintro i σ H1 hlt ⟨v4, v5, rfl, sm, hfl⟩
    refine ⟨_, rfl, _, rfl, a, _, _, _, rfl, rfl, SqL.of (sm _ _ ha), mV_get hlt, ?_⟩
    have fin : ∀ x : Int, x = nm st sp (rep M i) → (upd H1 f (.lst (((List.range i).map fun i => nm st sp (rep M i)).map V.int ++ [V.int x]))) f = some (.lst (((List.range (i + 1)).map fun i => nm st sp (rep M i)).map V.int)) := fun x hx => by
     rw [upd_same, hx, List.range_succ]
     simp
    have hlen : (((List.range i).map fun i => nm st sp (rep M i)).map V.int).length < sizeLine := by
     rw [List.length_map, List.length_map, List.length_range]; exact small1000 (by omega)
    refine ⟨_, rfl, rfl, _, rfl, ?_⟩
    cases e : M[i] with
    | none =>
     have er : rep M i = i := by unfold rep; rw [List.getElem?_eq_getElem hlt, e]
     refine iteF ?_
     refine iteF ?_
     refine ⟨_, rfl, .inl ⟨rfl, _, SqL.of hfl⟩, _, rfl, _, rfl, _, rfl, _, _, rfl, rfl, .inl (steps_small hsp), _, _, rfl, rfl, _, _, rfl, rfl, (by show (0 : Int) < 10000; decide), f, _, _, rfl, rfl, hfl, hlen, ?_⟩
     exact ⟨_, _, rfl, Same.add sm hf, fin _ (by rw [er]; unfold nm; rw [Int.zero_add])⟩
    | some j =>
     have hMi : M[i]? = some (some j) := by rw [List.getElem?_eq_getElem hlt, e]
     refine iteT ?_
     refine ⟨_, rfl, _, rfl, _, _, rfl, rfl, _, rfl, ?_⟩
     refine ite2 (fun g => ?_) (fun g => ?_)
     ·have g : j < i := by have := of_decide_eq_true g; omega
      have er : rep M i = j := by unfold rep; rw [hMi]; exact if_pos g
      have erj : rep M j = j := by unfold rep; rw [(hi i j hMi).1]; exact if_neg (by omega)
      have ej : atI (((List.range i).map fun i => nm st sp (rep M i)).map V.int) (j : Int) = some (V.int (nm st sp (rep M i))) := by
       refine atI_nat ?_
       rw [List.getElem?_map, List.getElem?_map, List.getElem?_range g, er]
       show some (V.int (nm st sp (rep M j))) = _
       rw [erj]
      refine ⟨_, rfl, .inl ⟨rfl, _, SqL.of hfl⟩, _, rfl, _, rfl, f, _, _, _, rfl, rfl, SqL.of hfl, ej, f, _, _, rfl, rfl, hfl, hlen, ?_⟩
      exact ⟨_, _, rfl, Same.add sm hf, fin _ rfl⟩
     ·have g : ¬ j < i := by
       have : ¬ ((j : Int) < 0 + (i : Int)) := fun z => g (decide_eq_true z)
       omega
      have er : rep M i = i := by unfold rep; rw [hMi]; exact if_neg g
      refine ⟨_, rfl, .inl ⟨rfl, _, SqL.of hfl⟩, _, rfl, _, rfl, _, rfl, _, _, rfl, rfl, .inl (steps_small hsp), _, _, rfl, rfl, _, _, rfl, rfl, (by show (0 : Int) < 10000; decide), f, _, _, rfl, rfl, hfl, hlen, ?_⟩
      exact ⟨_, _, rfl, Same.add sm hf, fin _ (by rw [er]; unfold nm; rw [Int.zero_add])⟩
   ·rintro σ H1 ⟨v4, v5, rfl, sm, hfl⟩
    exact hnx _ _ ⟨v4, v5, rfl, sm, hfl⟩
  rintro σ H1 ⟨v4, v5, rfl, sm, hfl⟩
  refine ⟨_, rfl, a, _, rfl, .inl (SqL.of (sm _ _ ha)), _, _, rfl, rfl, ⟨by decide, by decide⟩, _, rfl, by rw [List.length_map]; omega, by rw [List.length_map]; omega, fun D hD => ?_⟩
  have eD : ((((M.map mV).length : Nat) : Int) / 3).toNat = n := by rw [List.length_map, hM]; omega
  have hD0 : H D = none := sm.free hD
  have hfD : f ≠ D := fun z => by rw [z] at hfl; rw [hD] at hfl; cases hfl
  have hlf : (flat M st sp).length = 3 * n := by unfold flat; simp [hM]
  show LoopR (Itr 0 ((((M.map mV).length : Nat) : Int) / 3).toNat) _ _ _ _ _ _
  rw [eD]
  refine loop_range (fun i σ H2 => ∃ (ts : List Addr) (v : Option V), σ = [v, some (.ref f)] ∧ Same H H2 ∧ H2 D = some (.lst (ts.map V.ref)) ∧ ts.length = i ∧ H2 f = some (.lst ((flat M st sp).map V.int)) ∧ ∀ (k : Nat) (t : Addr), ts[k]? = some t → H2 t = some (.tup (row3 (flat M st sp) k)))
   ⟨[], none, rfl, Same.add sm hD0, upd_same, rfl, by rw [upd_ne hfD]; exact hfl, fun k t z => by simp at z⟩ ?_ ?_
  ·rintro i σ H2 hlt ⟨ts, v, rfl, sm2, g1, hl2, g2, g3⟩
   have at' : ∀ (c : Nat) (z : Int), c < 3 → z = 3 * (0 + (i : Int)) + c → atI ((flat M st sp).map V.int) z = some (V.int ((flat M st sp).getD (3 * i + c) 0)) := fun c z hc hz => by
    have e : z = ((3 * i + c : Nat) : Int) := by omega
    rw [e]
    exact atI_nat (getI (by omega))
   dsimp only [gName, tYes]
   rw [if_pos rfl]
   refine ⟨_, rfl, _, rfl, _, _, rfl, rfl, .inl ⟨by decide, by decide⟩, f, _, _, _, rfl, rfl, SqL.of g2, at' 0 _ (by decide) (by simp), ?_⟩
   refine ⟨_, rfl, _, rfl, _, _, rfl, rfl, .inl ⟨by decide, by decide⟩, _, _, rfl, rfl, f, _, _, _, rfl, rfl, SqL.of g2, at' 1 _ (by decide) rfl, ?_⟩
   refine ⟨_, rfl, _, rfl, _, _, rfl, rfl, .inl ⟨by decide, by decide⟩, _, _, rfl, rfl, f, _, _, _, rfl, rfl, SqL.of g2, at' 2 _ (by decide) rfl, ?_⟩
   refine ⟨(by show 3 ≤ sizeLine; decide), fun q hq => ?_⟩
   have hqD : q ≠ D := fun z => by rw [z, g1] at hq; cases hq
   have hqf : q ≠ f := fun z => by rw [z, g2] at hq; cases hq
   have hq0 : H q = none := sm2.free hq
   refine ⟨_, by rw [upd_ne (Ne.symm hqD)]; exact g1, (by rw [List.length_map]; exact small1000 (by omega)), ts ++ [q], _, rfl, Same.add (Same.add sm2 hq0) hD0, ?_, ?_, ?_, ?_⟩
   ·rw [upd_same]; simp
   ·rw [List.length_append, List.length_singleton, hl2]
   ·rw [upd_ne hfD, upd_ne (Ne.symm hqf)]; exact g2
   ·intro k t z
    by_cases hk : k < ts.length
    ·rw [List.getElem?_append_left hk] at z
     have g := g3 k t z
     rw [upd_ne (fun e => by rw [e, g1] at g; cases g), upd_ne (ne_of_none g hq)]
     exact g
    ·have hk2 : k = ts.length := by
      have := (List.getElem?_eq_some_iff.mp z).1
      rw [List.length_append, List.length_singleton] at this
      omega
     subst hk2
     have : t = q := by simpa using z.symm
     subst this
     rw [upd_ne hqD, upd_same, hl2]
     rfl
  ·rintro σ H2 ⟨ts, v, rfl, sm2, g1, hl2, g2, g3⟩
   exact k D H2 sm2 hD0 ⟨ts, g1, by rw [hlf, hl2], g3⟩
end
end KT
set_option maxHeartbeats 4000000
namespace KT
open PySem L2
theorem at4 {i : Int} (h0 : 0 ≤ i) (h1 : i < 4) : ∃ sh : Int, atI [V.int 0, V.int 0, V.int 1, V.int 3] i = some (V.int sh) := by
 obtain rfl | rfl | rfl | rfl : i = 0 ∨ i = 1 ∨ i = 2 ∨ i = 3 := by omega
 all_goals exact ⟨_, rfl⟩
theorem at8 {i : Int} (h0 : 0 ≤ i) (h1 : i < 8) : ∃ sp : Int, sp ∈ steps ∧ atI [V.int 1, V.int 3, V.int 7, V.int 9, V.int 37, V.int 1009, V.int 3333, V.int 9999] i = some (V.int sp) := by
 obtain rfl | rfl | rfl | rfl | rfl | rfl | rfl | rfl : i = 0 ∨ i = 1 ∨ i = 2 ∨ i = 3 ∨ i = 4 ∨ i = 5 ∨ i = 6 ∨ i = 7 := by omega
 all_goals exact ⟨_, by decide, rfl⟩
noncomputable def sp_tent (K : PySem.W.Frag) : Sp := fun vs H Q _ => ∃ (a : Addr) (ns : List Int), vs = [.ref a] ∧ SqL K H a (ns.map V.int) ∧ ns.length ≤ 63 ∧
 ∀ (p m r : Addr) (M : List (Option Nat)) (nms : List Int) (H' : Hp), Same H H' → H' p = some (.tup [.ref m, .ref r]) → H' m = some (.lst (M.map mV)) → RowsAt H' r nms → TD M nms → M.length ≤ 42 → H m = none → H r = none → Q (.ref p) H'
section
variable {P : Program} {w : World} {K : PySem.W.Frag} {mg : Str → Option Value} {base : Heap} {t : Adr}
theorem sc_l_tent : FnScope ["_law_script", "_law_head", "_law_many", "_law_names", "_law_share", "_law_mates", "_law_step"] ["_law_script"] (defScope s_l_tent) := ⟨rfl, rfl, rfl, by decide +kernel, rfl, by decide +kernel, by decide +kernel⟩
theorem ok_l_tent (T : Txt w K mg t) : FnOk P w K mg base (CXr P w) 2 t.f_l_tent t.d_l_tent ["_law_script"] (sp_tent K) := by
 refine T.p_l_tent.F.okR sc_l_tent (fun vs H Q E h => ?_) (fun cdv A outer s H vs Q E hr h => ?_)
 ·obtain ⟨a, ns, rfl, _⟩ := h
  rfl
 ·obtain ⟨a, ns, rfl, hS, hl, k⟩ := h
  refine ⟨_, (pss_cons (ps_set (i := 1) sc_l_tent.nd rfl (Or.inl rfl) (pe_call (ok_l_cell T) (hr.mono (by decide)) rfl T.p_l_cell.g T.p_l_cell.F.kp T.p_l_cell.b .nil passR (pa_cons (pv 0) (pa_cons pe_int pa_nil))))
   (pss_cons (ps_set (i := 2) sc_l_tent.nd rfl (Or.inl rfl) (pe_op op_add pe_int (pe_op op_mod (pv 1) pe_int)))
   (pss_cons (ps_if (pt_cmpR op_eq (pe_op op_mod (pe_op op_fdiv (pv 1) pe_int) pe_int) pe_int (nomark _)) (pss_one (ps_set (i := 2) sc_l_tent.nd rfl (Or.inl rfl) (pe_op op_add pe_int (pe_op op_mod (pe_op op_fdiv (pv 1) pe_int) pe_int)))) pss_nil)
   (pss_cons (ps_set (i := 3) sc_l_tent.nd rfl (Or.inl rfl) (pe_call (ok_l_cell T) (hr.mono (by decide)) rfl T.p_l_cell.g T.p_l_cell.F.kp T.p_l_cell.b .nil passR (pa_cons (pv 0) (pa_cons pe_int pa_nil))))
   (pss_cons (ps_set (i := 4) sc_l_tent.nd rfl (Or.inl rfl) (pe_ix ix_tup (pe_tup (pa_cons pe_int (pa_cons pe_int (pa_cons pe_int (pa_cons pe_int pa_nil))))) (pe_op op_mod (pv 3) pe_int) (fun _ _ => rfl)))
   (pss_cons (ps_set (i := 5) sc_l_tent.nd rfl (Or.inl rfl) (pe_call (ok_l_sewn T) (hr.mono (by decide)) rfl T.p_l_sewn.g T.p_l_sewn.F.kp T.p_l_sewn.b .nil passR (pa_cons (pe_call (ok_l_numbers T) (hr.mono (by decide)) rfl T.p_l_numbers.g T.p_l_numbers.F.kp T.p_l_numbers.b .nil passR (pa_cons (pe_call (ok_l_cell T) (hr.mono (by decide)) rfl T.p_l_cell.g T.p_l_cell.F.kp T.p_l_cell.b .nil passR (pa_cons (pv 0) (pa_cons pe_int pa_nil))) (pa_cons pe_int pa_nil))) (pa_cons (pv 2) (pa_cons (pv 4) pa_nil)))))
   (pss_cons (ps_set (i := 6) sc_l_tent.nd rfl (Or.inl rfl) (pe_ix ix_tup (pe_tup (pa_cons pe_int (pa_cons pe_int (pa_cons pe_int (pa_cons pe_int (pa_cons pe_int (pa_cons pe_int (pa_cons pe_int (pa_cons pe_int pa_nil))))))))) (pe_op op_mod (pe_op op_fdiv (pv 3) pe_int) pe_int) (fun _ _ => rfl)))
   (pss_one (ps_ret (pe_tup (pa_cons (pv 5) (pa_cons (pe_call (ok_l_rows T) (hr.mono (by decide)) rfl T.p_l_rows.g T.p_l_rows.F.kp T.p_l_rows.b .nil passR (pa_cons (pv 5) (pa_cons (pe_op op_mod (pe_op op_fdiv (pv 3) pe_int) pe_int) (pa_cons (pv 6) pa_nil)))) pa_nil)))))))))))), ?_⟩
  refine ⟨_, rfl, a, ns, 0, rfl, hS, hl, by decide, by decide, ?_⟩
  generalize cell ns 0 = hd
  refine ⟨_, rfl, _, _, rfl, rfl, (by show (0 : Int) < 6; decide), _, _, rfl, rfl, ?_⟩
  dsimp only [gName]
  show tSeq (tIfS _ _ _) _ _ _ _
  refine seq_post (fun σ H1 => ∃ n : Nat, 1 ≤ n ∧ n ≤ 14 ∧ σ = [some (.ref a), some (.int hd), some (.int n), none, none, none, none] ∧ H1 = H) (fun nx hnx => ?_) ?_
  ·refine ⟨_, rfl, _, _, rfl, rfl, ⟨by decide, by decide⟩, _, _, rfl, rfl, (by show (0 : Int) < 9; decide), rfl, _, rfl, ?_⟩
   refine ite2 (fun _ => ?_) (fun _ => ?_)
   ·refine ⟨_, rfl, _, _, rfl, rfl, ⟨by decide, by decide⟩, _, _, rfl, rfl, (by show (0 : Int) < 8; decide), _, _, rfl, rfl, ?_⟩
    have e : (7 + hd / 54 % 8 : Int) = ((7 + (hd / 54 % 8).toNat : Nat) : Int) := by omega
    exact hnx _ _ ⟨7 + (hd / 54 % 8).toNat, by omega, by omega, by rw [← e]; rfl, rfl⟩
   ·have e : (1 + hd % 6 : Int) = ((1 + (hd % 6).toNat : Nat) : Int) := by omega
    exact hnx _ _ ⟨1 + (hd % 6).toNat, by omega, by omega, by rw [← e]; rfl, rfl⟩
  rintro σ H1 ⟨n, n1, n2, rfl, rfl⟩
  refine ⟨_, rfl, a, ns, 2, rfl, hS, hl, by decide, by decide, ?_⟩
  generalize cell ns 2 = nam
  refine ⟨(by show 4 ≤ sizeLine; decide), fun q hq => ?_⟩
  have m4 : 0 ≤ nam % 4 ∧ nam % 4 < 4 := by omega
  obtain ⟨sh, esh⟩ := at4 m4.1 m4.2
  refine ⟨_, rfl, _, _, rfl, rfl, (by show (0 : Int) < 4; decide), q, _, _, _, rfl, rfl, SqT.of upd_same, esh, ?_⟩
  have s1 : Same H1 (upd H1 q (.tup [V.int 0, V.int 0, V.int 1, V.int 3])) := Same.new hq
  refine ⟨_, rfl, a, ns, 1, rfl, s1.seq hS, hl, by decide, by decide, ?_⟩
  refine ⟨_, 60, rfl, by decide, fun p xs H2 s2 hp h2 h60 hx => ?_⟩
  refine ⟨_, rfl, _, rfl, p, xs, n, sh, rfl, h2, h60, hx, n1, by omega, fun m M H3 s3 hm hM hlen hinv => ?_⟩
  have s13 : Same H1 H3 := (s1.trans s2).trans s3
  have hm0 : H1 m = none := (s1.trans s2).free hm
  refine ⟨(by show 8 ≤ sizeLine; decide), fun q2 hq2 => ?_⟩
  have m8 : 0 ≤ nam / 4 % 8 ∧ nam / 4 % 8 < 8 := by omega
  obtain ⟨sp, hsp, esp⟩ := at8 m8.1 m8.2
  refine ⟨_, rfl, _, _, rfl, rfl, ⟨by decide, by decide⟩, _, _, rfl, rfl, (by show (0 : Int) < 8; decide), q2, _, _, _, rfl, rfl, SqT.of upd_same, esp, ?_⟩
  have s14 : Same H1 (upd H3 q2 (.tup [V.int 1, V.int 3, V.int 7, V.int 9, V.int 37, V.int 1009, V.int 3333, V.int 9999])) := Same.add s13 (s13.free hq2)
  have hM4 : (upd H3 q2 (.tup [V.int 1, V.int 3, V.int 7, V.int 9, V.int 37, V.int 1009, V.int 3333, V.int 9999])) m = some (.lst (M.map mV)) := by rw [upd_ne (ne_of_none hM hq2)]; exact hM
  refine ⟨_, rfl, _, rfl, _, rfl, _, _, rfl, rfl, ⟨by decide, by decide⟩, _, _, rfl, rfl, (by show (0 : Int) < 10000; decide), _, rfl, m, M, n, _, sp, rfl, hM4, hlen, n1, by omega, hinv, hsp, fun r H5 s5 hr5 hrow => ?_⟩
  refine ⟨(by show 2 ≤ sizeLine; decide), fun p5 hp5 => ?_⟩
  have s15 := s14.trans s5
  have hr0 : H1 r = none := s14.free hr5
  refine k p5 m r M _ _ (Same.add s15 (s15.free hp5)) upd_same ?_ (hrow.same (Same.new hp5)) (td_flat n1 n2 hlen hinv hsp) (by omega) hm0 hr0
  rw [upd_ne (ne_of_none (s5 _ _ hM4) hp5)]
  exact s5 _ _ hM4
end
end KT
set_option maxHeartbeats 4000000
namespace KT
open PySem L2
noncomputable def spk (ns : List Int) (n : Nat) (f : Int → Addr) : List (Key × V) := (keys ns n).map fun x => ((Sum.inl x : Key), V.ref (f x))
structure SpotsF (H : Hp) (ns : List Int) (n : Nat) (f : Int → Addr) : Prop where
 inj : ∀ x ∈ keys ns n, ∀ y ∈ keys ns n, f x = f y → x = y
 at' : ∀ x ∈ keys ns n, H (f x) = some (.lst ((pl ns n x).map nV))
noncomputable def sp_spots_of : Sp := fun vs H Q _ => ∃ (a : Addr) (M : List (Option Nat)) (ns : List Int), vs = [.ref a] ∧ H a = some (.lst (ns.map V.int)) ∧ TD M ns ∧ ns.length ≤ 120 ∧
 ∀ (d : Addr) (f : Int → Addr) (H' : Hp), Same H H' → H d = none → H' d = some (.dK (spk ns ns.length f)) → SpotsF H' ns ns.length f → (∀ x ∈ keys ns ns.length, H (f x) = none) → Q (.ref d) H'
section
variable {P : Program} {w : World} {K : PySem.W.Frag} {mg : Str → Option Value} {base : Heap} {t : Adr}
theorem sc_spots_of : FnScope ["names_at", "spots", "place", "name"] ["names_at"] (defScope s_spots_of) := ⟨rfl, rfl, rfl, by decide +kernel, rfl, by decide +kernel, by decide +kernel⟩
theorem ok_spots_of (T : Txt w K mg t) : FnOk P w K mg base (CXr P w) 1 t.f_spots_of t.d_spots_of ["names_at"] sp_spots_of := by
 refine T.p_spots_of.F.okR sc_spots_of (fun vs H Q E h => ?_) (fun cdv A outer s H vs Q E hr h => ?_)
 ·obtain ⟨a, M, ns, rfl, _⟩ := h
  rfl
 ·obtain ⟨a, M, ns, rfl, ha, td, hl, k⟩ := h
  have hu := hu_of hr
  refine ⟨_, (pss_cons (ps_set (i := 1) sc_spots_of.nd rfl (Or.inl rfl) pe_dnewK)
   (pss_cons (ps_for PassesOwn.never rfl (pi_enum rfl T.n_enumerate (pa_cons (pv 0) pa_nil)) (pg_tup rfl (pgs_cons (pg_name (i := 2) sc_spots_of.nd rfl (Or.inl rfl)) (pgs_cons (pg_name (i := 3) sc_spots_of.nd rfl (Or.inl rfl)) pgs_nil))) (pss_cons (ps_if (PW.pt (pw_or (pt_cmpR op_lt (pv 3) pe_int (nomark _)) (pw_or1 (pt_cmpR op_gt (pv 3) (pe_glob (v := .int 9999) rfl T.c_GREATEST_NAME ⟨_, rfl⟩) (nomark _))))) pss_never pss_nil)
   (pss_cons (ps_expr (pe_bm PySem.F.plainAttrs_list PySem.F.slot_list_append PySem.F.type_list_append mt_append (pe_dsetd (pv 1) (pv 3) (pe_lst pa_nil) ⟨rfl, rfl, rfl, rfl⟩) (pa_cons (pv 2) pa_nil)))
   (pss_one (ps_if (pt_cmpR op_gt (pe_callB call_len_seq (by rfl) T.n_len PySem.boot_len (pa_cons (pe_dget hu (pv 1) (pv 3) (fun _ _ => rfl)) pa_nil)) pe_int (nomark _)) pss_never pss_nil)))))
   (pss_one (ps_ret (pv 1))))), ?_⟩
  intro d hd
  have hda : a ≠ d := ne_of_none ha hd
  dsimp only [gName]
  show tSeq (tFor _ _ _) _ _ _ _
  refine seq_post (fun σ H1 => ∃ (f : Int → Addr) (v2 v3 : Option V), σ = [some (.ref a), some (.ref d), v2, v3] ∧ Same H H1 ∧ H1 d = some (.dK (spk ns ns.length f)) ∧ SpotsF H1 ns ns.length f ∧ ∀ x ∈ keys ns ns.length, H (f x) = none) (fun nx hnx => ?_) ?_
  ·refine ⟨_, rfl, a, rfl, ⟨_, SqL.of (by rw [upd_ne hda]; exact ha)⟩, ?_⟩
   have el : (ns.map V.int).length = ns.length := by simp
   refine for_enum (xs := ns.map V.int) (fun i σ H1 => ∃ (f : Int → Addr) (v2 v3 : Option V), σ = [some (.ref a), some (.ref d), v2, v3] ∧ Same H H1 ∧ H1 d = some (.dK (spk ns i f)) ∧ SpotsF H1 ns i f ∧ ∀ x ∈ keys ns i, H (f x) = none)
    ⟨fun _ => 0, none, none, rfl, Same.new hd, upd_same, ⟨fun x hx => by simp [keys] at hx, fun x hx => by simp [keys] at hx⟩, fun x hx => by simp [keys] at hx⟩ ?_ ?_ ?_
   ·rintro i σ H1 _ ⟨f, v2, v3, rfl, sm, _⟩
    exact SqL.of (sm _ _ ha)
   ·rintro i x0 σ H1 q hx hq ⟨f, v2, v3, rfl, sm, hd1, sf, hf0⟩
    have hi : i < ns.length := by rw [← el]; exact (List.getElem?_eq_some_iff.mp hx).1
    obtain ⟨x, hx'⟩ : ∃ x, ns[i]? = some x := ⟨_, List.getElem?_eq_getElem hi⟩
    obtain rfl : x0 = V.int x := by rw [List.getElem?_map, hx'] at hx; exact (Option.some.inj hx).symm
    refine ⟨q, _, rfl, SqT.of upd_same, rfl, _, _, rfl, _, _, rfl, rfl, ?_⟩
    obtain ⟨x0, x1⟩ := td.rng i x hx'
    refine ⟨_, rfl, _, _, rfl, rfl, _, rfl, ?_⟩
    rw [decide_eq_false (by omega : ¬ x < 0)]
    refine iteF ?_
    refine ⟨_, rfl, _, _, rfl, rfl, _, rfl, ?_⟩
    rw [decide_eq_false (by omega : ¬ x > 9999)]
    refine iteF ?_
    have hdq : d ≠ q := ne_of_none hd1 hq
    have hd2 : (upd H1 q (.tup [.int i, .int x])) d = some (.dK (spk ns i f)) := by rw [upd_ne hdq]; exact hd1
    dsimp only [tNext]
    show tSeq (tDrop _) _ _ _ _
    refine seq_post (fun σ H2 => ∃ (f : Int → Addr), σ = [some (.ref a), some (.ref d), some (.int i), some (.int x)] ∧ Same H H2 ∧ H2 d = some (.dK (spk ns (i + 1) f)) ∧ SpotsF H2 ns (i + 1) f ∧ ∀ x ∈ keys ns (i + 1), H (f x) = none) (fun nx2 hnx2 => ?_) ?_
    ·refine ⟨_, rfl, d, rfl, .inl ⟨_, .inl hd2⟩, _, rfl, Nat.zero_le _, fun l hl' => ?_⟩
     obtain ⟨hlq, hl1⟩ := upd_none hl'
     have hdl : d ≠ l := ne_of_none hd1 hl1
     have hd3 : (upd (upd H1 q (.tup [.int i, .int x])) l (.lst [])) d = some (.dK (spk ns i f)) := by rw [upd_ne hdl]; exact hd2
     have hlk : (spk ns i f).length < sizeLine := by unfold spk; rw [List.length_map]; exact small1000 (by have := keys_len ns i; omega)
     have hq0 : H q = none := sm.free hq
     have hl0 : H l = none := sm.free hl1
     have smq : Same H (upd (upd H1 q (.tup [.int i, .int x])) l (.lst [])) := Same.add (Same.add sm hq0) hl0
     have hp2 : (pl ns i x).length < sizeLine := small1000 (by have := pl_le2 td i x; omega)
     have old : ∀ b u, H1 b = some u → (upd (upd H1 q (.tup [.int i, .int x])) l (.lst [])) b = some u := fun b u e => by rw [upd_ne (ne_of_none e hl1), upd_ne (ne_of_none e hq)]; exact e
     refine ⟨spk ns i f, Sum.inl x, hd3, hlk, rfl, fun v hv => ?_, fun hv => ?_⟩
     ·-- the name stands already
      have hx2 : x ∈ keys ns i := by
       unfold spk at hv
       rw [val_map] at hv
       by_cases c : x ∈ keys ns i
       ·exact c
       ·rw [if_neg c] at hv; cases hv
      obtain rfl : v = V.ref (f x) := by
       unfold spk at hv
       rw [val_map, if_pos hx2] at hv
       exact (Option.some.inj hv).symm
      have ek : keys ns (i + 1) = keys ns i := by rw [keys_step hx', if_pos hx2]
      have hfx := old _ _ (sf.at' x hx2)
      refine ⟨.inl ⟨rfl, _, SqL.of hfx⟩, _, rfl, f x, _, _, rfl, rfl, hfx, by rw [List.length_map]; exact hp2, hnx2 _ _ ⟨f, rfl, Same.add smq (hf0 x hx2), ?_, ⟨?_, ?_⟩, ?_⟩⟩
      ·have : d ≠ f x := fun z => by rw [← z, hd3] at hfx; cases hfx
       rw [upd_ne this, hd3]
       unfold spk
       rw [ek]
      ·rw [ek]; exact sf.inj
      ·intro y hy
       rw [ek] at hy
       by_cases c : y = x
       ·subst c
        rw [upd_same, pl_same hx', List.map_append]
        rfl
       ·have : f y ≠ f x := fun z => c (sf.inj y hy x hx2 z)
        rw [upd_ne this, old _ _ (sf.at' y hy), pl_other (by rw [hx']; intro z; cases z; exact c rfl)]
      ·rw [ek]; exact hf0
     ·-- a new name
      have hx2 : x ∉ keys ns i := by
       intro c
       unfold spk at hv
       rw [val_map, if_pos c] at hv
       cases hv
      have ek : keys ns (i + 1) = keys ns i ++ [x] := by rw [keys_step hx', if_neg hx2]
      have ep : putK (spk ns i f) (Sum.inl x) (V.ref l) = spk ns (i + 1) (fun y => if y = x then l else f y) := by
       unfold spk
       rw [put_new hx2, ek, List.map_append]
       congr 1
       ·apply List.map_congr_left
        intro y hy
        dsimp only
        rw [if_neg (fun (z : y = x) => hx2 (z ▸ hy))]
       ·simp
      rw [ep]
      have hl4 : (upd (upd (upd H1 q (.tup [.int i, .int x])) l (.lst [])) d (.dK (spk ns (i + 1) (fun y => if y = x then l else f y)))) l = some (.lst []) := by rw [upd_ne (Ne.symm hdl), upd_same]
      refine ⟨.inl ⟨rfl, _, SqL.of hl4⟩, _, rfl, l, _, _, rfl, rfl, hl4, by decide, hnx2 _ _ ⟨fun y => if y = x then l else f y, rfl, Same.add (Same.add smq hd) hl0, ?_, ⟨?_, ?_⟩, ?_⟩⟩
      ·rw [upd_ne hdl, upd_same]
      ·intro y hy z hz e
       rw [ek, List.mem_append, List.mem_singleton] at hy hz
       by_cases c1 : y = x
       ·by_cases c2 : z = x
        ·rw [c1, c2]
        ·have hz' := hz.resolve_right c2
         simp only [c1, c2, if_true, if_false] at e
         exact absurd (sf.at' z hz') (by rw [← e, hl1]; intro w; cases w)
       ·have hy' := hy.resolve_right c1
        by_cases c2 : z = x
        ·simp only [c1, c2, if_true, if_false] at e
         exact absurd (sf.at' y hy') (by rw [e, hl1]; intro w; cases w)
        ·have hz' := hz.resolve_right c2
         simp only [c1, c2, if_false] at e
         exact sf.inj y hy' z hz' e
      ·intro y hy
       rw [ek, List.mem_append, List.mem_singleton] at hy
       by_cases c : y = x
       ·subst c
        simp only [if_true]
        rw [upd_same, pl_same hx', pl_nil hx2]
        rfl
       ·have hy' := hy.resolve_right c
        have e1 := sf.at' y hy'
        have n1 : f y ≠ l := ne_of_none e1 hl1
        have n2 : f y ≠ d := fun z => by rw [z, hd1] at e1; cases e1
        simp only [c, if_false]
        rw [upd_ne n1, upd_ne n2, old _ _ e1, pl_other (by rw [hx']; intro z; cases z; exact c rfl)]
      ·intro y hy
       rw [ek, List.mem_append, List.mem_singleton] at hy
       by_cases c : y = x
       ·simp only [c, if_true]; exact hl0
       ·simp only [c, if_false]; exact hf0 y (hy.resolve_right c)
    rintro σ H2 ⟨f', rfl, sm2, hd4, sf2, hf2⟩
    have hx3 : x ∈ keys ns (i + 1) := keys_mem.mpr ⟨i, by omega, hx'⟩
    have hg : valV (spk ns (i + 1) f') (Sum.inl x) = some (V.ref (f' x)) := by unfold spk; rw [val_map, if_pos hx3]
    refine ⟨_, rfl, _, rfl, d, _, rfl, ?_, f' x, _, rfl, .inl (SqL.of (sf2.at' x hx3)), _, _, rfl, rfl, _, rfl, ?_⟩
    ·exact .inl ⟨_, Sum.inl x, .inl hd4, rfl, hg.symm⟩
    have h2 := pl_le2 td (i + 1) x
    rw [decide_eq_false (by rw [List.length_map]; omega : ¬ ((((pl ns (i + 1) x).map nV).length : Nat) : Int) > 2)]
    refine iteF ?_
    exact ⟨f', _, _, rfl, sm2, hd4, sf2, hf2⟩
   ·rintro σ H1 ⟨f, v2, v3, rfl, sm, hd1, sf, hf0⟩
    rw [el] at hd1 sf hf0
    exact hnx _ _ ⟨f, v2, v3, rfl, sm, hd1, sf, hf0⟩
  rintro σ H1 ⟨f, v2, v3, rfl, sm, hd1, sf, hf0⟩
  exact ⟨_, rfl, k d f H1 sm hd hd1 sf hf0⟩
noncomputable def sp_mates_of : Sp := fun vs H Q _ => ∃ (d : Addr) (M : List (Option Nat)) (ns : List Int) (f : Int → Addr), vs = [.ref d, .int ns.length] ∧ H d = some (.dK (spk ns ns.length f)) ∧ SpotsF H ns ns.length f ∧ TD M ns ∧ ns.length ≤ 120 ∧
 ∀ (m : Addr) (o : Obj) (H' : Hp), (∀ b u, b ≠ d → H b = some u → H' b = some u) → H m = none → H' m = some (.lst (M.map mV)) → H' d = some (.frz o (.dK (spk ns ns.length f))) → Q (.ref m) H'
theorem sc_mates_of : FnScope ["spots", "count", "mates", "pair"] ["spots", "count"] (defScope s_mates_of) := ⟨rfl, rfl, rfl, by decide +kernel, rfl, by decide +kernel, by decide +kernel⟩
theorem ok_mates_of (T : Txt w K mg t) : FnOk P w K mg base (CXr P w) 1 t.f_mates_of t.d_mates_of ["spots", "count"] sp_mates_of := by
 refine T.p_mates_of.F.okR sc_mates_of (fun vs H Q E h => ?_) (fun cdv A outer s H vs Q E hr h => ?_)
 ·obtain ⟨d, M, ns, f, rfl, _⟩ := h
  rfl
 ·obtain ⟨d, M, ns, f, rfl, hd, sf, td, hl, k⟩ := h
  refine ⟨_, (pss_cons (ps_set (i := 2) sc_mates_of.nd rfl (Or.inl rfl) (pe_op op_rep (pe_lst (pa_cons pe_non pa_nil)) (pv 1)))
   (pss_cons (ps_for PassesOwn.never rfl (pi_vals (pv 0) ⟨rfl, rfl, rfl⟩) (pg_name (i := 3) sc_mates_of.nd rfl (Or.inl rfl)) (pss_one (ps_if (pt_cmpR op_eq (pe_callB call_len_seq (by rfl) T.n_len PySem.boot_len (pa_cons (pv 3) pa_nil)) pe_int (nomark _)) (pss_cons (ps_asg (pe_ix ix_list (pv 3) pe_int (fun _ _ => rfl)) (pg_sub (pv 2) (pe_ix ix_list (pv 3) pe_int (fun _ _ => rfl)) set_list))
   (pss_one (ps_asg (pe_ix ix_list (pv 3) pe_int (fun _ _ => rfl)) (pg_sub (pv 2) (pe_ix ix_list (pv 3) pe_int (fun _ _ => rfl)) set_list)))) pss_nil)))
   (pss_one (ps_ret (pv 2))))), ?_⟩
  refine ⟨(by show 1 ≤ sizeLine; decide), fun q hq => ?_⟩
  refine ⟨_, rfl, q, _, _, rfl, rfl, upd_same, by omega, by omega, ?_, fun m hm => ?_⟩
  ·have : ((ns.length : Nat) : Int).toNat = ns.length := by omega
   show 1 * ((ns.length : Nat) : Int).toNat ≤ sizeLine
   rw [this, sizeLine_eq]; omega
  obtain ⟨hmq, hm0⟩ := upd_none hm
  have eM : (List.replicate ((ns.length : Nat) : Int).toNat [V.non]).flatten = (part M ns []).map mV := by
   have : ((ns.length : Nat) : Int).toNat = M.length := by rw [← td.len]; omega
   rw [this, List.flatten_replicate_singleton, part_nil td, List.map_replicate]
   rfl
  rw [eM]
  have hdm : d ≠ m := ne_of_none hd hm0
  have hdq : d ≠ q := ne_of_none hd hq
  dsimp only [gName]
  show tSeq (tFor _ _ _) _ _ _ _
  refine seq_post (fun σ H1 => ∃ (o : Obj) (v : Option V), σ = [some (.ref d), some (.int ns.length), some (.ref m), v] ∧ (∀ b u, b ≠ d → H b = some u → H1 b = some u) ∧ H1 m = some (.lst (M.map mV)) ∧ H1 d = some (.frz o (.dK (spk ns ns.length f)))) (fun nx hnx => ?_) ?_
  ·refine ⟨_, rfl, d, _, rfl, .inl ⟨by rw [upd_ne hdm, upd_ne hdq]; exact hd, fun o => ?_⟩⟩
   refine for_vals (fun j σ H1 => ∃ (v : Option V), σ = [some (.ref d), some (.int ns.length), some (.ref m), v] ∧ (∀ b u, b ≠ d → H b = some u → H1 b = some u) ∧ H1 m = some (.lst ((part M ns ((keys ns ns.length).take j)).map mV)) ∧ H1 d = some (.frz o (.dK (spk ns ns.length f))))
    ⟨none, rfl, fun b u hb e => ?_, ?_, upd_same⟩ ?_ ?_ ?_
   ·rw [upd_ne hb, upd_ne (ne_of_none e hm0), upd_ne (ne_of_none e hq)]; exact e
   ·rw [upd_ne (Ne.symm hdm), upd_same]
    rfl
   ·rintro j σ H1 _ ⟨v, rfl, old, h1, h2⟩
    exact h2
   ·rintro j k0 x0 σ H1 hk ⟨v, rfl, old, h1, h2⟩
    obtain ⟨x, hx, rfl⟩ : ∃ x, (keys ns ns.length)[j]? = some x ∧ x0 = V.ref (f x) := by
     unfold spk at hk
     rw [List.getElem?_map] at hk
     cases e : (keys ns ns.length)[j]? with
     | none => rw [e] at hk; cases hk
     | some x => rw [e] at hk; cases hk; exact ⟨x, rfl, rfl⟩
    have hm1 : x ∈ keys ns ns.length := List.mem_of_getElem? hx
    have et : (keys ns ns.length).take (j + 1) = (keys ns ns.length).take j ++ [x] := by
     rw [List.take_add_one, hx]; rfl
    have hfx := sf.at' x hm1
    have hfd : f x ≠ d := fun z => by rw [z, hd] at hfx; cases hfx
    have hf1 := old _ _ hfd hfx
    dsimp only [gName]
    refine ⟨_, rfl, f x, _, rfl, .inl (SqL.of hf1), rfl, _, rfl, ?_⟩
    rcases pl_cases td hm1 with ⟨a, e, ea, ma⟩ | ⟨a, b, hab, e, ea, eb, ma, mb⟩
    ·rw [e] at hf1 ⊢
     refine iteF ?_
     refine ⟨_, rfl, old, ?_, h2⟩
     rw [et, part_rim td e ma]
     exact h1
    ·rw [e] at hf1 ⊢
     refine iteT ?_
     have la : a < (part M ns ((keys ns ns.length).take j)).length := by rw [part_len]; exact (List.getElem?_eq_some_iff.mp ma).1
     have lb : b < (part M ns ((keys ns ns.length).take j)).length := by rw [part_len]; exact (List.getElem?_eq_some_iff.mp mb).1
     have hfm : f x ≠ m := ne_of_none hfx hm0
     refine ⟨_, rfl, f x, _, _, _, rfl, rfl, SqL.of hf1, rfl, ?_⟩
     refine ⟨_, rfl, _, rfl, f x, _, _, _, rfl, rfl, SqL.of hf1, rfl, m, _, _, a, rfl, rfl, h1, (by rw [List.length_map]; exact ixN_nat la), ?_⟩
     have hf2 : (upd H1 m (.lst (((part M ns ((keys ns ns.length).take j)).map mV).set a (nV b)))) (f x) = some (.lst ([a, b].map nV)) := by rw [upd_ne hfm]; exact hf1
     refine ⟨_, rfl, f x, _, _, _, rfl, rfl, SqL.of hf2, rfl, ?_⟩
     refine ⟨_, rfl, _, rfl, f x, _, _, _, rfl, rfl, SqL.of hf2, rfl, m, _, _, b, rfl, rfl, upd_same, (by rw [List.length_set, List.length_map]; exact ixN_nat lb), ?_⟩
     refine ⟨_, rfl, fun c u hc ec => ?_, ?_, ?_⟩
     ·have : c ≠ m := ne_of_none ec hm0
      rw [upd_ne this, upd_ne this]
      exact old c u hc ec
     ·rw [upd_same, et, part_sewn td e hab ma mb]
      show some (HO.lst ((((part M ns ((keys ns ns.length).take j)).map mV).set a (mV (some b))).set b (mV (some a)))) = _
      rw [map_set, map_set]
     ·rw [upd_ne hdm, upd_ne hdm]; exact h2
   ·rintro σ H1 ⟨v, rfl, old, h1, h2⟩
    refine hnx _ _ ⟨o, v, rfl, old, ?_, h2⟩
    have : (keys ns ns.length).take (spk ns ns.length f).length = keys ns ns.length := by
     unfold spk; rw [List.length_map, List.take_length]
    rw [this, part_all td] at h1
    exact h1
  rintro σ H1 ⟨o, v, rfl, old, h1, h2⟩
  exact ⟨_, rfl, k m o H1 old hm0 h1 h2⟩
end
end KT
set_option maxHeartbeats 4000000
namespace KT
open PySem L2
noncomputable def tflds (cl na sp mt : Addr) : List (Str × V) := putF "mates" (.ref mt) (putF "spots" (.ref sp) (putF "names_at" (.ref na) (putF "cloths" (.ref cl) [])))
theorem len_putF (f : Str) (v : V) : ∀ fs : List (Str × V), (putF f v fs).length ≤ fs.length + 1
 | [] => by simp [putF]
 | (g, x) :: r => by
  have := len_putF f v r
  unfold putF
  split
  ·simp
  ·simp only [List.length_cons]; omega
theorem s_cn : ¬ ("cloths" : Str) = "names_at" := by decide
theorem s_cs : ¬ ("cloths" : Str) = "spots" := by decide
theorem s_cm : ¬ ("cloths" : Str) = "mates" := by decide
theorem s_ns : ¬ ("names_at" : Str) = "spots" := by decide
theorem s_nm : ¬ ("names_at" : Str) = "mates" := by decide
theorem s_sm : ¬ ("spots" : Str) = "mates" := by decide
theorem fl_cloths (cl na sp mt : Addr) : (tflds cl na sp mt).lookup ("cloths" : Str) = some (.ref cl) := by
 unfold tflds; rw [lookup_putF, if_neg s_cm, lookup_putF, if_neg s_cs, lookup_putF, if_neg s_cn, lookup_putF, if_pos rfl]
theorem fl_names (cl na sp mt : Addr) : (tflds cl na sp mt).lookup ("names_at" : Str) = some (.ref na) := by
 unfold tflds; rw [lookup_putF, if_neg s_nm, lookup_putF, if_neg s_ns, lookup_putF, if_pos rfl]
theorem fl_spots (cl na sp mt : Addr) : (tflds cl na sp mt).lookup ("spots" : Str) = some (.ref sp) := by
 unfold tflds; rw [lookup_putF, if_neg s_sm, lookup_putF, if_pos rfl]
theorem fl_mates (cl na sp mt : Addr) : (tflds cl na sp mt).lookup ("mates" : Str) = some (.ref mt) := by
 unfold tflds; rw [lookup_putF, if_pos rfl]
theorem fl_none (cl na sp mt : Addr) {m : Str} (h : m ≠ "cloths" ∧ m ≠ "names_at" ∧ m ≠ "spots" ∧ m ≠ "mates" := by decide) : (tflds cl na sp mt).lookup m = none := by
 obtain ⟨h1, h2, h3, h4⟩ := h
 unfold tflds; rw [lookup_putF, if_neg h4, lookup_putF, if_neg h3, lookup_putF, if_neg h2, lookup_putF, if_neg h1]; rfl
structure TentB (C : Addr) (H : Hp) (p : Addr) (M : List (Option Nat)) (ns : List Int) (dx cl na sp mt : Addr) (o : Obj) (f : Int → Addr) : Prop where
 ins : H p = some (.ins C dx (tflds cl na sp mt))
 rows : RowsAt H cl ns
 names : H na = some (.lst (ns.map V.int))
 spots : H sp = some (.frz o (.dK (spk ns ns.length f)))
 mates : H mt = some (.lst (M.map mV))
 at' : ∀ x ∈ keys ns ns.length, H (f x) = some (.lst ((pl ns ns.length x).map nV))
noncomputable def TentAt (C : Addr) (H : Hp) (p : Addr) (M : List (Option Nat)) (ns : List Int) : Prop := ∃ dx cl na sp mt o f, TentB C H p M ns dx cl na sp mt o f
theorem TentAt.same {C : Addr} {H H' : Hp} {p : Addr} {M : List (Option Nat)} {ns : List Int} (h : TentAt C H p M ns) (s : Same H H') : TentAt C H' p M ns := by
 obtain ⟨dx, cl, na, sp, mt, o, f, b⟩ := h
 exact ⟨dx, cl, na, sp, mt, o, f, s _ _ b.ins, b.rows.same s, s _ _ b.names, s _ _ b.spots, s _ _ b.mates, fun x hx => s _ _ (b.at' x hx)⟩
theorem take_row {ns : List Int} {k n : Nat} (h : ns.length = 3 * n) (hk : k < n) : (ns.take (3 * k)).map V.int ++ row3 ns k = (ns.take (3 * (k + 1))).map V.int := by
 have e : ns.take (3 * (k + 1)) = ns.take (3 * k) ++ [ns.getD (3 * k) 0, ns.getD (3 * k + 1) 0, ns.getD (3 * k + 2) 0] := by
  have l0 : 3 * k < ns.length := by omega
  have l1 : 3 * k + 1 < ns.length := by omega
  have l2 : 3 * k + 2 < ns.length := by omega
  have g : ∀ i, i < ns.length → ns[i]? = some (ns.getD i 0) := fun i hi => by rw [List.getD_eq_getElem?_getD, List.getElem?_eq_getElem hi]; rfl
  rw [show 3 * (k + 1) = 3 * k + 1 + 1 + 1 by omega, List.take_add_one, List.take_add_one, List.take_add_one, g _ l0, g _ l1, g _ l2, List.append_assoc, List.append_assoc]
  rfl
 rw [e, List.map_append]
 rfl
noncomputable def sp_Tent_init (C : Addr) : Sp := fun vs H Q _ => ∃ (p r dx : Addr) (M : List (Option Nat)) (ns : List Int), vs = [.ref p, .ref r] ∧ H p = some (.ins C dx []) ∧ RowsAt H r ns ∧ TD M ns ∧ ns.length ≤ 120 ∧
 ∀ (H' : Hp), (∀ b u, b ≠ p → H b = some u → H' b = some u) → TentAt C H' p M ns → Q .non H'
section
variable {P : Program} {w : World} {K : PySem.W.Frag} {mg : Str → Option Value} {base : Heap} {t : Adr}
theorem sc_Tent_init : FnScope ["self", "rows"] ["self", "rows"] (defScope s_Tent_init) := ⟨rfl, rfl, rfl, by decide +kernel, rfl, by decide +kernel, by decide +kernel⟩
theorem ok_Tent_init (T : Txt w K mg t) : FnOk P w K mg base (CXr P w) 2 t.f_Tent_init t.d_Tent_init ["self", "rows"] (sp_Tent_init t.C_Tent) := by
  refine T.p_Tent_init.F.okR sc_Tent_init (fun vs H Q E h => ?_) (fun cdv A outer s H vs Q E hr h => ?_)
  · obtain ⟨p, r, dx, M, ns, rfl, _⟩ := h
    rfl
  · obtain ⟨p, r, dx, M, ns, rfl, hp, ⟨ts, hr1, hr2, hr3⟩, td, hl, k⟩ := h
    refine ⟨_, (pss_cons (ps_if (pt_not (pt_truth (pv 1) (fun _ => rfl))) pss_never pss_nil)
      (pss_cons (ps_fld (pv 0) (pe_compG (ts := ["row"]) (fv := []) ⟨rfl, by decide +kernel, by decide +kernel, blkFree (by rfl), trivial⟩ rfl (pi_list (pv 1)) (fun _ _ _ _ => (pg_name (i := 0) (show List.Nodup (["row"] : List Str) from by decide +kernel) rfl (Or.inl rfl) (Or.inr rfl))) (fun _ _ _ _ => pts_nil) (fun _ _ _ => rfl) (fun _ _ _ _ _ _ => pb_emit (pe_callTy (call_tuple_ofK K) (by rfl) T.n_tuple PySem.Pv.boot_tuple (pa_cons (pv 0) pa_nil)))) rfl)
      (pss_cons (ps_fld (pv 0) (pe_compG (ts := ["row", "name"]) (fv := []) ⟨rfl, by decide +kernel, by decide +kernel, blkFree (by rfl), trivial⟩ rfl (pi_list (pe_fld (pv 0) rfl)) (fun _ _ _ _ => (pg_name (i := 0) (show List.Nodup (["row", "name"] : List Str) from by decide +kernel) rfl (Or.inl rfl) (Or.inr rfl))) (fun _ _ _ _ => pts_nil) (fun _ _ _ => rfl) (fun _ _ _ _ _ _ => pb_gen rfl rfl (pi_tupK K (pv 0)) (pg_name (i := 1) (show List.Nodup (["row", "name"] : List Str) from by decide +kernel) rfl (Or.inl rfl) (Or.inr rfl)) pts_nil (pv 1))) rfl)
      (pss_cons (ps_fld (pv 0) (pe_call (ok_spots_of T) (hr.mono (by decide)) rfl T.p_spots_of.g T.p_spots_of.F.kp T.p_spots_of.b .nil passR (pa_cons (pe_fld (pv 0) rfl) pa_nil)) rfl)
      (pss_one (ps_fld (pv 0) (pe_call (ok_mates_of T) (hr.mono (by decide)) rfl T.p_mates_of.g T.p_mates_of.F.kp T.p_mates_of.b .nil passR (pa_cons (pe_fld (pv 0) rfl) (pa_cons (pe_callB call_len_seq (by rfl) T.n_len PySem.boot_len (pa_cons (pe_fld (pv 0) rfl) pa_nil)) pa_nil))) rfl)))))), ?_⟩
    obtain ⟨n, n1, n2, hn⟩ := td.n
    have hnn : ns.length = 3 * n := by rw [td.len, hn]
    have htn : ts.length = n := by omega
    have hrp : r ≠ p := fun z => by rw [z, hp] at hr1; cases hr1
    refine ⟨_, rfl, true, .inl ⟨_, SqL.of hr1, ?_⟩, ?_⟩
    · cases ts with
      | nil => simp at htn; omega
      | cons _ _ => rfl
    refine iteF ?_
    dsimp only [tNext]
    refine ⟨_, rfl, r, rfl, ⟨_, SqL.of hr1⟩, fun D hD => ?_⟩
    have hDp : D ≠ p := fun z => by rw [z, hp] at hD; cases hD
    refine loop_list (xs := ts.map V.ref) (fun i σ H1 => ∃ (v : Option V), σ = [v] ∧ Same H H1 ∧ H1 D = some (.lst ((ts.take i).map V.ref))) ⟨none, rfl, Same.new hD, upd_same⟩ ?_ ?_ ?_
    · rintro i σ H1 _ ⟨v, rfl, sm, h1⟩
      exact SqL.of (sm _ _ hr1)
    · rintro i x σ H1 hx ⟨v, rfl, sm, h1⟩
      dsimp only [gName, tYes]
      rw [if_pos rfl]
      obtain ⟨tt, ht, rfl⟩ := map_some hx
      refine ⟨_, rfl, tt, _, rfl, .inr ⟨SqT.of (sm _ _ (hr3 i tt ht)), _, h1, (by rw [List.length_map, List.length_take]; exact small1000 (by omega)), _, rfl, Same.add sm hD, ?_⟩⟩
      rw [upd_same, List.take_add_one, ht, List.map_append]
      rfl
    rintro σ H1 ⟨v, rfl, sm1, h1⟩
    rw [List.length_map, List.take_length] at h1
    have hp1 := sm1 _ _ hp
    refine ⟨_, rfl, p, _, dx, _, rfl, hp1, T.cl_Tent, T.a_Tent_cloths, by decide, ?_⟩
    have old2 : ∀ b u, b ≠ p → H b = some u → (upd H1 p (.ins t.C_Tent dx (putF "cloths" (.ref D) []))) b = some u := fun b u hb e => by rw [upd_ne hb]; exact sm1 b u e
    have hD2 : (upd H1 p (.ins t.C_Tent dx (putF "cloths" (.ref D) []))) D = some (.lst (ts.map V.ref)) := by rw [upd_ne hDp]; exact h1
    have hp2 : (upd H1 p (.ins t.C_Tent dx (putF "cloths" (.ref D) []))) p = some (.ins t.C_Tent dx (putF "cloths" (.ref D) [])) := upd_same
    have ht2 : ∀ (k : Nat) (q : Addr), ts[k]? = some q → (upd H1 p (.ins t.C_Tent dx (putF "cloths" (.ref D) []))) q = some (.tup (row3 ns k)) := fun k q e => by
      have e1 := hr3 k q e
      have : q ≠ p := fun z => by rw [z, hp] at e1; cases e1
      exact old2 q _ this e1
    generalize upd H1 p (.ins t.C_Tent dx (putF "cloths" (.ref D) [])) = H2 at old2 hD2 hp2 ht2 ⊢
    refine ⟨_, rfl, p, _, dx, _, _, rfl, hp2, T.cl_Tent, T.a_Tent_cloths, rfl, D, rfl, ⟨_, SqL.of hD2⟩, fun N hN => ?_⟩
    have hND : N ≠ D := fun z => by rw [z, hD2] at hN; cases hN
    have hNp : N ≠ p := fun z => by rw [z, hp2] at hN; cases hN
    refine loop_list (xs := ts.map V.ref) (fun i σ H3 => ∃ (v v' : Option V), σ = [v, v'] ∧ Same H2 H3 ∧ H3 N = some (.lst ((ns.take (3 * i)).map V.int))) ⟨none, none, rfl, Same.new hN, upd_same⟩ ?_ ?_ ?_
    · rintro i σ H3 _ ⟨v, v', rfl, sm, h3⟩
      exact SqL.of (sm _ _ hD2)
    · rintro i x σ H3 hx ⟨v, v', rfl, sm, h3⟩
      dsimp only [gName, tYes]
      rw [if_pos rfl]
      obtain ⟨tt, ht, rfl⟩ := map_some hx
      have hi : i < n := by rw [← htn]; exact (List.getElem?_eq_some_iff.mp ht).1
      refine ⟨_, rfl, tt, rfl, ⟨_, SqT.of (sm _ _ (ht2 i tt ht))⟩, ?_⟩
      refine loop_tup (xs := row3 ns i) (fun j σ H4 => ∃ (v' : Option V), σ = [some (.ref tt), v'] ∧ Same H2 H4 ∧ H4 N = some (.lst ((ns.take (3 * i)).map V.int ++ (row3 ns i).take j))) ⟨v', rfl, sm, by rw [h3, List.take_zero, List.append_nil]⟩ ?_ ?_ ?_
      · rintro j σ H4 _ ⟨v', rfl, sm, h4⟩
        exact SqT.of (sm _ _ (ht2 i tt ht))
      · rintro j x σ H4 hx ⟨v', rfl, sm, h4⟩
        dsimp only [gName, tYes]
        rw [if_pos rfl]
        refine ⟨_, rfl, _, h4, ?_, _, rfl, Same.add sm hN, ?_⟩
        · rw [List.length_append, List.length_map, List.length_take, List.length_take]
          exact small1000 (by have : (row3 ns i).length = 3 := rfl; omega)
        · rw [upd_same, List.take_add_one, hx, ← List.append_assoc]
          rfl
      · rintro σ H4 ⟨v', rfl, sm, h4⟩
        refine ⟨_, _, rfl, sm, ?_⟩
        rw [h4, List.take_length, take_row hnn hi]
    rintro σ H3 ⟨v, v', rfl, sm3, h3⟩
    have eall : ns.take (3 * (ts.map V.ref).length) = ns := by rw [List.length_map, htn, ← hnn, List.take_length]
    rw [eall] at h3
    have hp3 := sm3 _ _ hp2
    refine ⟨_, rfl, p, _, dx, _, rfl, hp3, T.cl_Tent, T.a_Tent_names_at, (by have h1 := len_putF "cloths" (.ref D) []; simp only [List.length_nil] at h1; omega), ?_⟩
    have old4 : ∀ b u, b ≠ p → H2 b = some u → (upd H3 p (.ins t.C_Tent dx (putF "names_at" (.ref N) (putF "cloths" (.ref D) [])))) b = some u := fun b u hb e => by rw [upd_ne hb]; exact sm3 b u e
    have hN4 : (upd H3 p (.ins t.C_Tent dx (putF "names_at" (.ref N) (putF "cloths" (.ref D) [])))) N = some (.lst (ns.map V.int)) := by rw [upd_ne hNp]; exact h3
    have hp4 : (upd H3 p (.ins t.C_Tent dx (putF "names_at" (.ref N) (putF "cloths" (.ref D) [])))) p = some (.ins t.C_Tent dx (putF "names_at" (.ref N) (putF "cloths" (.ref D) []))) := upd_same
    generalize upd H3 p (.ins t.C_Tent dx (putF "names_at" (.ref N) (putF "cloths" (.ref D) []))) = H4 at old4 hN4 hp4 ⊢
    have lk1 : (putF "names_at" (.ref N) (putF "cloths" (.ref D) [])).lookup ("names_at" : Str) = some (.ref N) := by rw [lookup_putF, if_pos rfl]
    refine ⟨_, rfl, p, _, dx, _, _, rfl, hp4, T.cl_Tent, T.a_Tent_names_at, lk1, N, M, ns, rfl, hN4, td, hl, fun d f H5 sm5 hd5 hd5' sf hf0 => ?_⟩
    have hp5 := sm5 _ _ hp4
    refine ⟨_, rfl, p, _, dx, _, rfl, hp5, T.cl_Tent, T.a_Tent_spots, (by have h1 := len_putF "cloths" (.ref D) []; have h2 := len_putF "names_at" (.ref N) (putF "cloths" (.ref D) []); simp only [List.length_nil] at h1; omega), ?_⟩
    have hdp : d ≠ p := fun z => by rw [z, hp4] at hd5; cases hd5
    have hfp : ∀ x ∈ keys ns ns.length, f x ≠ p := fun x hx z => by have := hf0 x hx; rw [z, hp4] at this; cases this
    have old6 : ∀ b u, b ≠ p → H4 b = some u → (upd H5 p (.ins t.C_Tent dx (putF "spots" (.ref d) (putF "names_at" (.ref N) (putF "cloths" (.ref D) []))))) b = some u := fun b u hb e => by rw [upd_ne hb]; exact sm5 b u e
    have hp6 : (upd H5 p (.ins t.C_Tent dx (putF "spots" (.ref d) (putF "names_at" (.ref N) (putF "cloths" (.ref D) []))))) p = some (.ins t.C_Tent dx (putF "spots" (.ref d) (putF "names_at" (.ref N) (putF "cloths" (.ref D) [])))) := upd_same
    have hd6 : (upd H5 p (.ins t.C_Tent dx (putF "spots" (.ref d) (putF "names_at" (.ref N) (putF "cloths" (.ref D) []))))) d = some (.dK (spk ns ns.length f)) := by rw [upd_ne hdp]; exact hd5'
    have sf6 : SpotsF (upd H5 p (.ins t.C_Tent dx (putF "spots" (.ref d) (putF "names_at" (.ref N) (putF "cloths" (.ref D) []))))) ns ns.length f := ⟨sf.inj, fun x hx => by rw [upd_ne (hfp x hx)]; exact sf.at' x hx⟩
    generalize upd H5 p (.ins t.C_Tent dx (putF "spots" (.ref d) (putF "names_at" (.ref N) (putF "cloths" (.ref D) [])))) = H6 at old6 hp6 hd6 sf6 ⊢
    have lk2 : (putF "spots" (.ref d) (putF "names_at" (.ref N) (putF "cloths" (.ref D) []))).lookup ("spots" : Str) = some (.ref d) := by rw [lookup_putF, if_pos rfl]
    have lk3 : (putF "spots" (.ref d) (putF "names_at" (.ref N) (putF "cloths" (.ref D) []))).lookup ("names_at" : Str) = some (.ref N) := by rw [lookup_putF, if_neg s_ns, lookup_putF, if_pos rfl]
    have hN6 := old6 _ _ hNp hN4
    have eln : (((ns.map V.int).length : Nat) : Int) = (ns.length : Nat) := by rw [List.length_map]
    refine ⟨_, rfl, p, _, dx, _, _, rfl, hp6, T.cl_Tent, T.a_Tent_spots, lk2, _, rfl, p, _, dx, _, _, rfl, hp6, T.cl_Tent, T.a_Tent_names_at, lk3, N, _, rfl, .inl (SqL.of hN6), d, M, ns, f, (by rw [eln]; rfl), hd6, sf6, td, hl, fun m o H7 old7 hm7 hmm hdd => ?_⟩
    have hpd : p ≠ d := Ne.symm hdp
    have hp7 := old7 _ _ hpd hp6
    refine ⟨_, rfl, p, _, dx, _, rfl, hp7, T.cl_Tent, T.a_Tent_mates, (by have h1 := len_putF "cloths" (.ref D) []; have h2 := len_putF "names_at" (.ref N) (putF "cloths" (.ref D) []); have h3 := len_putF "spots" (.ref d) (putF "names_at" (.ref N) (putF "cloths" (.ref D) [])); simp only [List.length_nil] at h1; omega), ?_⟩
    have hmp : m ≠ p := fun z => by rw [z, hp6] at hm7; cases hm7
    have dN : N ≠ d := fun z => by rw [z, hd6] at hN6; cases hN6
    have old8 : ∀ b u, b ≠ p → b ≠ d → H6 b = some u → (upd H7 p (.ins t.C_Tent dx (tflds D N d m))) b = some u := fun b u hb hbd e => by rw [upd_ne hb]; exact old7 b u hbd e
    have old46 : ∀ b u, b ≠ p → H4 b = some u → H6 b = some u ∧ b ≠ d := fun b u hb e => ⟨old6 b u hb e, fun z => by rw [z, hd5] at e; cases e⟩
    have old28 : ∀ b u, b ≠ p → H2 b = some u → (upd H7 p (.ins t.C_Tent dx (tflds D N d m))) b = some u := fun b u hb e => by
      obtain ⟨e6, hbd⟩ := old46 b u hb (old4 b u hb e)
      exact old8 b u hb hbd e6
    refine k _ (fun b u hb e => old28 b u hb (old2 b u hb e)) ⟨dx, D, N, d, m, o, f, upd_same, ⟨ts, old28 _ _ hDp hD2, by omega, fun k q e => ?_⟩, ?_, ?_, ?_, ?_⟩
    · have e1 := ht2 k q e
      exact old28 q _ (fun z => by rw [z, hp2] at e1; cases e1) e1
    · exact old8 _ _ hNp dN hN6
    · rw [upd_ne hdp]; exact hdd
    · rw [upd_ne hmp]; exact hmm
    · intro x hx
      have e1 := sf6.at' x hx
      exact old8 _ _ (hfp x hx) (fun z => by rw [z, hd6] at e1; cases e1) e1
end
end KT
set_option maxHeartbeats 4000000
namespace KT
open PySem L2
noncomputable def sortOf (ns : List Int) (x : Int) : Str := match pl ns ns.length x with
 | [a, b] => if a / 3 = b / 3 then "locked" else "free"
 | _ => "rim"
noncomputable def sp_after : Sp := fun vs H Q _ => ∃ p : Int, vs = [.int p] ∧ Q (.int (after p)) H
noncomputable def sp_before : Sp := fun vs H Q _ => ∃ p : Int, vs = [.int p] ∧ Q (.int (before p)) H
noncomputable def sp_cloth_of : Sp := fun vs H Q _ => ∃ p : Int, vs = [.int p] ∧ Q (.int (p / 3)) H
noncomputable def sp_Tent_rows (C : Addr) : Sp := fun vs H Q _ => ∃ (p : Addr) (M : List (Option Nat)) (ns : List Int), vs = [.ref p] ∧ TentAt C H p M ns ∧
 ∀ (l : Addr) (ts : List Addr), H l = none → ns.length = 3 * ts.length → (∀ (k : Nat) (t : Addr), ts[k]? = some t → H t = some (.tup (row3 ns k))) → Q (.ref l) (upd H l (.lst (ts.map V.ref)))
noncomputable def sp_Tent_size (C : Addr) : Sp := fun vs H Q _ => ∃ (p : Addr) (M : List (Option Nat)) (ns : List Int) (n : Nat), vs = [.ref p] ∧ TentAt C H p M ns ∧ ns.length = 3 * n ∧ Q (.int n) H
noncomputable def sp_Tent_has_place (C : Addr) : Sp := fun vs H Q _ => ∃ (p : Addr) (M : List (Option Nat)) (ns : List Int) (x : Int), vs = [.ref p, .int x] ∧ TentAt C H p M ns ∧ Q (.bl (decide (0 ≤ x ∧ x < ns.length))) H
noncomputable def sp_Tent_look_place (C EP : Addr) : Sp := fun vs H Q E => ∃ (p : Addr) (M : List (Option Nat)) (ns : List Int) (x : Int), vs = [.ref p, .int x] ∧ TentAt C H p M ns ∧ (0 ≤ x ∧ x < ns.length → Q .non H) ∧ (¬ (0 ≤ x ∧ x < ns.length) → E (.ref EP) none H)
noncomputable def sp_Tent_seam_at (C EP : Addr) : Sp := fun vs H Q E => ∃ (p : Addr) (M : List (Option Nat)) (ns : List Int) (x : Int), vs = [.ref p, .int x] ∧ TentAt C H p M ns ∧ (∀ (i : Nat) (y : Int), x = i → ns[i]? = some y → Q (.int y) H) ∧ (¬ (0 ≤ x ∧ x < ns.length) → E (.ref EP) none H)
noncomputable def sp_Tent_mate (C EP : Addr) : Sp := fun vs H Q E => ∃ (p : Addr) (M : List (Option Nat)) (ns : List Int) (x : Int), vs = [.ref p, .int x] ∧ TentAt C H p M ns ∧ M.length = ns.length ∧ (∀ (i : Nat) (y : Option Nat), x = i → M[i]? = some y → Q (mV y) H) ∧ (¬ (0 ≤ x ∧ x < ns.length) → E (.ref EP) none H)
noncomputable def sp_Tent_places (C ES : Addr) : Sp := fun vs H Q E => ∃ (p : Addr) (M : List (Option Nat)) (ns : List Int) (x : Int), vs = [.ref p, .int x] ∧ TentAt C H p M ns ∧ (x ∈ keys ns ns.length → ∀ l, H l = none → Q (.ref l) (upd H l (.lst ((pl ns ns.length x).map nV)))) ∧ (x ∉ keys ns ns.length → E (.ref ES) none H)
noncomputable def sp_Tent_sort_of (C ES : Addr) : Sp := fun vs H Q E => ∃ (p : Addr) (M : List (Option Nat)) (ns : List Int) (x : Int), vs = [.ref p, .int x] ∧ TentAt C H p M ns ∧ TD M ns ∧ (x ∈ keys ns ns.length → ∀ H', Same H H' → Q (.str (sortOf ns x)) H') ∧ (x ∉ keys ns ns.length → E (.ref ES) none H)
section
variable {P : Program} {w : World} {K : PySem.W.Frag} {mg : Str → Option Value} {base : Heap} {t : Adr}
theorem sc_after : FnScope ["place"] ["place"] (defScope s_after) := ⟨rfl, rfl, rfl, by decide +kernel, rfl, by decide +kernel, by decide +kernel⟩
theorem ok_after (T : Txt w K mg t) : FnOk P w K mg base (CXr P w) 1 t.f_after t.d_after ["place"] sp_after := by
 refine T.p_after.F.okR sc_after (fun vs H Q E h => ?_) (fun cdv A outer s H vs Q E hr h => ?_)
 ·obtain ⟨p, rfl, _⟩ := h
  rfl
 ·obtain ⟨p, rfl, k⟩ := h
  refine ⟨_, (pss_one (ps_ret (pe_ifExp (pt_cmpR op_eq (pe_op op_mod (pv 0) pe_int) pe_int (nomark _)) (pe_op op_sub (pv 0) pe_int) (pe_op op_add (pv 0) pe_int)))), ?_⟩
  refine ⟨_, rfl, _, _, rfl, rfl, (by show (0 : Int) < 3; decide), rfl, _, rfl, ?_⟩
  refine ite2 (fun h => ?_) (fun h => ?_)
  ·have h : p % 3 = 2 := by simpa using h
   refine ⟨_, rfl, _, _, rfl, rfl, ?_⟩
   have e : after p = p - 2 := if_pos h
   rw [e] at k; exact k
  ·have h : ¬ p % 3 = 2 := by simpa using h
   refine ⟨_, rfl, _, _, rfl, rfl, ?_⟩
   have e : after p = p + 1 := if_neg h
   rw [e] at k; exact k
theorem sc_before : FnScope ["place"] ["place"] (defScope s_before) := ⟨rfl, rfl, rfl, by decide +kernel, rfl, by decide +kernel, by decide +kernel⟩
theorem ok_before (T : Txt w K mg t) : FnOk P w K mg base (CXr P w) 1 t.f_before t.d_before ["place"] sp_before := by
 refine T.p_before.F.okR sc_before (fun vs H Q E h => ?_) (fun cdv A outer s H vs Q E hr h => ?_)
 ·obtain ⟨p, rfl, _⟩ := h
  rfl
 ·obtain ⟨p, rfl, k⟩ := h
  refine ⟨_, (pss_one (ps_ret (pe_ifExp (pt_cmpR op_eq (pe_op op_mod (pv 0) pe_int) pe_int (nomark _)) (pe_op op_add (pv 0) pe_int) (pe_op op_sub (pv 0) pe_int)))), ?_⟩
  refine ⟨_, rfl, _, _, rfl, rfl, (by show (0 : Int) < 3; decide), rfl, _, rfl, ?_⟩
  refine ite2 (fun h => ?_) (fun h => ?_)
  ·have h : p % 3 = 0 := by simpa using h
   refine ⟨_, rfl, _, _, rfl, rfl, ?_⟩
   have e : before p = p + 2 := if_pos h
   rw [e] at k; exact k
  ·have h : ¬ p % 3 = 0 := by simpa using h
   refine ⟨_, rfl, _, _, rfl, rfl, ?_⟩
   have e : before p = p - 1 := if_neg h
   rw [e] at k; exact k
theorem sc_cloth_of : FnScope ["place"] ["place"] (defScope s_cloth_of) := ⟨rfl, rfl, rfl, by decide +kernel, rfl, by decide +kernel, by decide +kernel⟩
theorem ok_cloth_of (T : Txt w K mg t) : FnOk P w K mg base (CXr P w) 1 t.f_cloth_of t.d_cloth_of ["place"] sp_cloth_of := by
 refine T.p_cloth_of.F.okR sc_cloth_of (fun vs H Q E h => ?_) (fun cdv A outer s H vs Q E hr h => ?_)
 ·obtain ⟨p, rfl, _⟩ := h
  rfl
 ·obtain ⟨p, rfl, k⟩ := h
  refine ⟨_, (pss_one (ps_ret (pe_op op_fdiv (pv 0) pe_int))), ?_⟩
  exact ⟨_, rfl, _, _, rfl, rfl, ⟨by decide, by decide⟩, k⟩
theorem sc_Tent_rows : FnScope ["self"] ["self"] (defScope s_Tent_rows) := ⟨rfl, rfl, rfl, by decide +kernel, rfl, by decide +kernel, by decide +kernel⟩
theorem ok_Tent_rows (T : Txt w K mg t) : FnOk P w K mg base (CXr P w) 1 t.f_Tent_rows t.d_Tent_rows ["self"] (sp_Tent_rows t.C_Tent) := by
 refine T.p_Tent_rows.F.okR sc_Tent_rows (fun vs H Q E h => ?_) (fun cdv A outer s H vs Q E hr h => ?_)
 ·obtain ⟨p, M, ns, rfl, _⟩ := h
  rfl
 ·obtain ⟨p, M, ns, rfl, ⟨dx, cl, na, sp, mt, o, f, b⟩, k⟩ := h
  refine ⟨_, (pss_one (ps_ret (pe_callTy call_list_of (by rfl) T.n_list PySem.Pv.boot_list (pa_cons (pe_fld (pv 0) rfl) pa_nil)))), ?_⟩
  obtain ⟨ts, h1, h2, h3⟩ := b.rows
  exact ⟨_, rfl, p, _, dx, _, _, rfl, b.ins, T.cl_Tent, T.a_Tent_cloths, fl_cloths .., cl, _, rfl, .inl (SqL.of h1), fun l hl => k l ts hl h2 h3⟩
theorem sc_Tent_size : FnScope ["self"] ["self"] (defScope s_Tent_size) := ⟨rfl, rfl, rfl, by decide +kernel, rfl, by decide +kernel, by decide +kernel⟩
theorem ok_Tent_size (T : Txt w K mg t) : FnOk P w K mg base (CXr P w) 1 t.f_Tent_size t.d_Tent_size ["self"] (sp_Tent_size t.C_Tent) := by
 refine T.p_Tent_size.F.okR sc_Tent_size (fun vs H Q E h => ?_) (fun cdv A outer s H vs Q E hr h => ?_)
 ·obtain ⟨p, M, ns, n, rfl, _⟩ := h
  rfl
 ·obtain ⟨p, M, ns, n, rfl, ⟨dx, cl, na, sp, mt, o, f, b⟩, hn, k⟩ := h
  refine ⟨_, (pss_one (ps_ret (pe_callB call_len_seq (by rfl) T.n_len PySem.boot_len (pa_cons (pe_fld (pv 0) rfl) pa_nil)))), ?_⟩
  obtain ⟨ts, h1, h2, h3⟩ := b.rows
  refine ⟨_, rfl, p, _, dx, _, _, rfl, b.ins, T.cl_Tent, T.a_Tent_cloths, fl_cloths .., cl, _, rfl, .inl (SqL.of h1), ?_⟩
  have : (ts.map V.ref).length = n := by rw [List.length_map]; omega
  rw [this]; exact k
theorem sc_Tent_has_place : FnScope ["self", "place"] ["self", "place"] (defScope s_Tent_has_place) := ⟨rfl, rfl, rfl, by decide +kernel, rfl, by decide +kernel, by decide +kernel⟩
theorem ok_Tent_has_place (T : Txt w K mg t) : FnOk P w K mg base (CXr P w) 1 t.f_Tent_has_place t.d_Tent_has_place ["self", "place"] (sp_Tent_has_place t.C_Tent) := by
 refine T.p_Tent_has_place.F.okR sc_Tent_has_place (fun vs H Q E h => ?_) (fun cdv A outer s H vs Q E hr h => ?_)
 ·obtain ⟨p, M, ns, x, rfl, _⟩ := h
  rfl
 ·obtain ⟨p, M, ns, x, rfl, ⟨dx, cl, na, sp, mt, o, f, b⟩, k⟩ := h
  refine ⟨_, (pss_one (ps_ret (pe_chain op_le op_lt pe_int (pv 1) (pe_callB call_len_seq (by rfl) T.n_len PySem.boot_len (pa_cons (pe_fld (pv 0) rfl) pa_nil))))), ?_⟩
  refine ⟨_, rfl, _, _, rfl, rfl, _, rfl, ?_⟩
  refine ite2 (fun h => ?_) (fun h => ?_)
  ·have h : 0 ≤ x := of_decide_eq_true h
   refine ⟨_, rfl, p, _, dx, _, _, rfl, b.ins, T.cl_Tent, T.a_Tent_names_at, fl_names .., na, _, rfl, .inl (SqL.of b.names), _, _, rfl, rfl, ?_⟩
   have : decide (x < (((ns.map V.int).length : Nat) : Int)) = decide (0 ≤ x ∧ x < (ns.length : Int)) := by rw [List.length_map]; simp [h]
   show Q (V.bl (decide (x < (((ns.map V.int).length : Nat) : Int)))) H
   rw [this]; exact k
  ·have h : ¬ 0 ≤ x := fun z => h (decide_eq_true z)
   have : decide (0 ≤ x ∧ x < (ns.length : Int)) = false := decide_eq_false fun z => h z.1
   rw [this] at k; exact k
theorem sc_Tent_look_place : FnScope ["self", "place"] ["self", "place"] (defScope s_Tent_look_place) := ⟨rfl, rfl, rfl, by decide +kernel, rfl, by decide +kernel, by decide +kernel⟩
theorem ok_Tent_look_place (T : Txt w K mg t) : FnOk P w K mg base (CXr P w) 2 t.f_Tent_look_place t.d_Tent_look_place ["self", "place"] (sp_Tent_look_place t.C_Tent t.E_NoPlace) := by
 refine T.p_Tent_look_place.F.okX sc_Tent_look_place (fun vs H Q E h => ?_) (fun cdv A outer s H vs Q E hr h => ?_)
 ·obtain ⟨p, M, ns, x, rfl, _⟩ := h
  rfl
 ·obtain ⟨p, M, ns, x, rfl, ta, k1, k2⟩ := h
  obtain ⟨dx, cl, na, sp, mt, o, f, b⟩ := id ta
  refine ⟨_, (pssx_one (psx_if (pt_not (pt_val (pe_meth (pv 0) T.cl_Tent T.p_Tent_has_place.m (ok_Tent_has_place T) (hr.mono (by decide)) T.p_Tent_has_place.b .nil passR (pa_cons (pv 1) pa_nil)))) (pssx_one (psx_raise T.x_NoPlace FBV rfl T.gx_NoPlace rfl (pa_cons pe_str pa_nil))) pssx_nil)), ?_⟩
  refine ⟨_, rfl, p, dx, _, rfl, b.ins, fl_none _ _ _ _, _, rfl, p, M, ns, x, rfl, ta, _, rfl, ?_⟩
  by_cases c : 0 ≤ x ∧ x < (ns.length : Int)
  ·rw [decide_eq_true c]
   exact iteF (k1 c)
  ·rw [decide_eq_false c]
   exact iteT ⟨by decide, k2 c⟩
theorem sc_Tent_seam_at : FnScope ["self", "place"] ["self", "place"] (defScope s_Tent_seam_at) := ⟨rfl, rfl, rfl, by decide +kernel, rfl, by decide +kernel, by decide +kernel⟩
theorem ok_Tent_seam_at (T : Txt w K mg t) : FnOk P w K mg base (CXr P w) 3 t.f_Tent_seam_at t.d_Tent_seam_at ["self", "place"] (sp_Tent_seam_at t.C_Tent t.E_NoPlace) := by
 refine T.p_Tent_seam_at.F.okX sc_Tent_seam_at (fun vs H Q E h => ?_) (fun cdv A outer s H vs Q E hr h => ?_)
 ·obtain ⟨p, M, ns, x, rfl, _⟩ := h
  rfl
 ·obtain ⟨p, M, ns, x, rfl, ta, k1, k2⟩ := h
  obtain ⟨dx, cl, na, sp, mt, o, f, b⟩ := id ta
  refine ⟨_, (pssx_cons (psx_expr (pex_meth (pv 0) T.cl_Tent T.p_Tent_look_place.m (ok_Tent_look_place T) (hr.mono (by decide)) T.p_Tent_look_place.b .nil (pa_cons (pv 1) pa_nil)))
   (pssx_one (psx_of (ps_ret (pe_ix ix_list (pe_fld (pv 0) rfl) (pv 1) (fun _ _ => rfl)))))), ?_⟩
  refine ⟨_, rfl, p, dx, _, rfl, b.ins, fl_none _ _ _ _, _, rfl, p, M, ns, x, rfl, ta, fun c => ?_, k2⟩
  have hi : x.toNat < ns.length := by omega
  obtain ⟨y, hy⟩ : ∃ y, ns[x.toNat]? = some y := ⟨_, List.getElem?_eq_getElem hi⟩
  have ex : x = (x.toNat : Int) := by omega
  refine ⟨_, rfl, p, _, dx, _, _, rfl, b.ins, T.cl_Tent, T.a_Tent_names_at, fl_names .., _, rfl, na, _, _, _, rfl, rfl, SqL.of b.names, (by rw [ex]; exact map_at hy), k1 _ _ ex hy⟩
theorem sc_Tent_mate : FnScope ["self", "place"] ["self", "place"] (defScope s_Tent_mate) := ⟨rfl, rfl, rfl, by decide +kernel, rfl, by decide +kernel, by decide +kernel⟩
theorem ok_Tent_mate (T : Txt w K mg t) : FnOk P w K mg base (CXr P w) 3 t.f_Tent_mate t.d_Tent_mate ["self", "place"] (sp_Tent_mate t.C_Tent t.E_NoPlace) := by
 refine T.p_Tent_mate.F.okX sc_Tent_mate (fun vs H Q E h => ?_) (fun cdv A outer s H vs Q E hr h => ?_)
 ·obtain ⟨p, M, ns, x, rfl, _⟩ := h
  rfl
 ·obtain ⟨p, M, ns, x, rfl, ta, hlen, k1, k2⟩ := h
  obtain ⟨dx, cl, na, sp, mt, o, f, b⟩ := id ta
  refine ⟨_, (pssx_cons (psx_expr (pex_meth (pv 0) T.cl_Tent T.p_Tent_look_place.m (ok_Tent_look_place T) (hr.mono (by decide)) T.p_Tent_look_place.b .nil (pa_cons (pv 1) pa_nil)))
   (pssx_one (psx_of (ps_ret (pe_ix ix_list (pe_fld (pv 0) rfl) (pv 1) (fun _ _ => rfl)))))), ?_⟩
  refine ⟨_, rfl, p, dx, _, rfl, b.ins, fl_none _ _ _ _, _, rfl, p, M, ns, x, rfl, ta, fun c => ?_, k2⟩
  have hi : x.toNat < M.length := by omega
  obtain ⟨y, hy⟩ : ∃ y, M[x.toNat]? = some y := ⟨_, List.getElem?_eq_getElem hi⟩
  have ex : x = (x.toNat : Int) := by omega
  refine ⟨_, rfl, p, _, dx, _, _, rfl, b.ins, T.cl_Tent, T.a_Tent_mates, fl_mates .., _, rfl, mt, _, _, _, rfl, rfl, SqL.of b.mates, (by rw [ex]; exact map_at hy), k1 _ _ ex hy⟩
theorem sc_Tent_places : FnScope ["self", "seam"] ["self", "seam"] (defScope s_Tent_places) := ⟨rfl, rfl, rfl, by decide +kernel, rfl, by decide +kernel, by decide +kernel⟩
theorem ok_Tent_places (T : Txt w K mg t) : FnOk P w K mg base (CXr P w) 1 t.f_Tent_places t.d_Tent_places ["self", "seam"] (sp_Tent_places t.C_Tent t.E_NoSeam) := by
 refine T.p_Tent_places.F.okX sc_Tent_places (fun vs H Q E h => ?_) (fun cdv A outer s H vs Q E hr h => ?_)
 ·obtain ⟨p, M, ns, x, rfl, _⟩ := h
  rfl
 ·obtain ⟨p, M, ns, x, rfl, ta, k1, k2⟩ := h
  obtain ⟨dx, cl, na, sp, mt, o, f, b⟩ := id ta
  have hu := hu_of hr
  refine ⟨_, (pssx_cons (psx_if (pt_cmp (pc_dnotin hu (pv 1) (pe_fld (pv 0) rfl)) (by with_unfolding_all rfl)) (pssx_one (psx_raise T.x_NoSeam FBV rfl T.gx_NoSeam rfl (pa_cons pe_str pa_nil))) pssx_nil)
   (pssx_one (psx_of (ps_ret (pe_callTy call_list_of (by rfl) T.n_list PySem.Pv.boot_list (pa_cons (pe_dget hu (pe_fld (pv 0) rfl) (pv 1) (fun _ _ => rfl)) pa_nil)))))), ?_⟩
  have hg : DGet H sp (.int x) (if x ∈ keys ns ns.length then some (V.ref (f x)) else none) := .inl ⟨_, Sum.inl x, .inr ⟨o, b.spots⟩, rfl, by unfold spk; rw [val_map]⟩
  refine ⟨_, rfl, _, rfl, p, _, dx, _, _, rfl, b.ins, T.cl_Tent, T.a_Tent_spots, fl_spots .., sp, _, rfl, hg, _, rfl, ?_⟩
  by_cases c : x ∈ keys ns ns.length
  ·rw [if_pos c] at hg ⊢
   refine iteF ?_
   exact ⟨_, rfl, p, _, dx, _, _, rfl, b.ins, T.cl_Tent, T.a_Tent_spots, fl_spots .., _, rfl, sp, _, rfl, hg, f x, _, rfl, .inl (SqL.of (b.at' x c)), k1 c⟩
  ·rw [if_neg c] at hg ⊢
   exact iteT ⟨by decide, k2 c⟩
theorem sc_Tent_sort_of : FnScope ["self", "seam", "spots"] ["self", "seam"] (defScope s_Tent_sort_of) := ⟨rfl, rfl, rfl, by decide +kernel, rfl, by decide +kernel, by decide +kernel⟩
theorem ok_Tent_sort_of (T : Txt w K mg t) : FnOk P w K mg base (CXr P w) 2 t.f_Tent_sort_of t.d_Tent_sort_of ["self", "seam"] (sp_Tent_sort_of t.C_Tent t.E_NoSeam) := by
 refine T.p_Tent_sort_of.F.okX sc_Tent_sort_of (fun vs H Q E h => ?_) (fun cdv A outer s H vs Q E hr h => ?_)
 ·obtain ⟨p, M, ns, x, rfl, _⟩ := h
  rfl
 ·obtain ⟨p, M, ns, x, rfl, ta, td, k1, k2⟩ := h
  obtain ⟨dx, cl, na, sp, mt, o, f, b⟩ := id ta
  refine ⟨_, (pssx_cons (psx_set (i := 2) sc_Tent_sort_of.nd rfl (Or.inl rfl) (pex_meth (pv 0) T.cl_Tent T.p_Tent_places.m (ok_Tent_places T) (hr.mono (by decide)) T.p_Tent_places.b .nil (pa_cons (pv 1) pa_nil)))
   (pssx_cons (psx_of (ps_if (pt_cmpR op_eq (pe_callB call_len_seq (by rfl) T.n_len PySem.boot_len (pa_cons (pv 2) pa_nil)) pe_int (nomark _)) (pss_one (ps_ret pe_str)) pss_nil))
   (pssx_cons (psx_of (ps_if (pt_cmpR op_eq (pe_call (ok_cloth_of T) (hr.mono (by decide)) rfl T.p_cloth_of.g T.p_cloth_of.F.kp T.p_cloth_of.b .nil passR (pa_cons (pe_ix ix_list (pv 2) pe_int (fun _ _ => rfl)) pa_nil)) (pe_call (ok_cloth_of T) (hr.mono (by decide)) rfl T.p_cloth_of.g T.p_cloth_of.F.kp T.p_cloth_of.b .nil passR (pa_cons (pe_ix ix_list (pv 2) pe_int (fun _ _ => rfl)) pa_nil)) (nomark _)) (pss_one (ps_ret pe_str)) pss_nil))
   (pssx_one (psx_of (ps_ret pe_str)))))), ?_⟩
  refine ⟨_, rfl, p, dx, _, rfl, b.ins, fl_none _ _ _ _, _, rfl, p, M, ns, x, rfl, ta, fun c l hl => ?_, k2⟩
  have k1' := k1 c _ (Same.new (o := .lst ((pl ns ns.length x).map nV)) hl)
  refine ⟨_, rfl, l, _, rfl, .inl (SqL.of upd_same), rfl, _, rfl, ?_⟩
  rcases pl_cases td c with ⟨a, e, _⟩ | ⟨a, b', hab, e, _⟩
  ·rw [e] at k1' ⊢
   refine iteT ?_
   have : sortOf ns x = "rim" := by unfold sortOf; rw [e]
   rw [this] at k1'
   exact k1'
  ·rw [e] at k1' ⊢
   refine iteF ?_
   refine ⟨_, rfl, l, _, _, _, rfl, rfl, SqL.of upd_same, rfl, _, rfl, _, rfl, l, _, _, _, rfl, rfl, SqL.of upd_same, rfl, _, rfl, rfl, _, rfl, ?_⟩
   by_cases q : a / 3 = b' / 3
   ·have : sortOf ns x = "locked" := by unfold sortOf; rw [e]; exact if_pos q
    rw [this] at k1'
    rw [decide_eq_true (by congr 1; omega)]
    exact iteT k1'
   ·have : sortOf ns x = "free" := by unfold sortOf; rw [e]; exact if_neg q
    rw [this] at k1'
    rw [decide_eq_false (fun z => q (by injection z; omega))]
    exact iteF k1'
end
end KT
set_option maxHeartbeats 4000000
namespace KT
open PySem L2
noncomputable def sp_look_free (C ES ER EL : Addr) : Sp := fun vs H Q E => ∃ (p : Addr) (M : List (Option Nat)) (ns : List Int) (x : Int), vs = [.ref p, .int x] ∧ TentAt C H p M ns ∧ TD M ns ∧
 (x ∈ keys ns ns.length → ∀ H', Same H H' → (sortOf ns x = "rim" → E (.ref ER) none H') ∧ (sortOf ns x = "locked" → E (.ref EL) none H') ∧ (sortOf ns x = "free" → Q .non H')) ∧ (x ∉ keys ns ns.length → E (.ref ES) none H)
noncomputable def sqr (a b : Nat) : List V := [.int (after a), .int (before a), .int (after b), .int (before b)]
noncomputable def sp_square (C ES ER EL : Addr) : Sp := fun vs H Q E => ∃ (p : Addr) (M : List (Option Nat)) (ns : List Int) (x : Int), vs = [.ref p, .int x] ∧ TentAt C H p M ns ∧ TD M ns ∧
 (x ∈ keys ns ns.length → ∀ H', Same H H' → (sortOf ns x = "rim" → E (.ref ER) none H') ∧ (sortOf ns x = "locked" → E (.ref EL) none H') ∧ (∀ a b l, pl ns ns.length x = [a, b] → a < b → M[a]? = some (some b) → a / 3 ≠ b / 3 → H l = none → H' l = some (.tup (sqr a b)) → Q (.ref l) H')) ∧ (x ∉ keys ns ns.length → E (.ref ES) none H)
theorem sort_cases {M : List (Option Nat)} {ns : List Int} (td : TD M ns) {x : Int} (hx : x ∈ keys ns ns.length) :
  (sortOf ns x = "rim" ∧ ∃ a, pl ns ns.length x = [a] ∧ M[a]? = some none) ∨ (sortOf ns x = "locked" ∧ ∃ a b, a < b ∧ pl ns ns.length x = [a, b] ∧ M[a]? = some (some b) ∧ a / 3 = b / 3) ∨ (sortOf ns x = "free" ∧ ∃ a b, a < b ∧ pl ns ns.length x = [a, b] ∧ M[a]? = some (some b) ∧ a / 3 ≠ b / 3) := by
 rcases pl_cases td hx with ⟨a, e, _, ma⟩ | ⟨a, b, hab, e, _, _, ma, _⟩
 ·exact .inl ⟨by unfold sortOf; rw [e], a, e, ma⟩
 ·by_cases c : a / 3 = b / 3
  ·exact .inr (.inl ⟨by unfold sortOf; rw [e]; exact if_pos c, a, b, hab, e, ma, c⟩)
  ·exact .inr (.inr ⟨by unfold sortOf; rw [e]; exact if_neg c, a, b, hab, e, ma, c⟩)
theorem t_rf : ¬ (("rim" : Str)) = "free" := by decide
theorem t_lf : ¬ (("locked" : Str)) = "free" := by decide
theorem t_lr : ¬ (("locked" : Str)) = "rim" := by decide
theorem t_fr : ¬ (("free" : Str)) = "rim" := by decide
theorem t_fl : ¬ (("free" : Str)) = "locked" := by decide
theorem str_ne {x y : Str} (h : ¬ x = y) : decide (V.str x = V.str y) = false := decide_eq_false fun z => h (by injection z)
theorem str_eq {x : Str} : decide (V.str x = V.str x) = true := decide_eq_true rfl
section
variable {P : Program} {w : World} {K : PySem.W.Frag} {mg : Str → Option Value} {base : Heap} {t : Adr}
theorem sc_look_free : FnScope ["tent", "seam", "sort"] ["tent", "seam"] (defScope s_look_free) := ⟨rfl, rfl, rfl, by decide +kernel, rfl, by decide +kernel, by decide +kernel⟩
theorem ok_look_free (T : Txt w K mg t) : FnOk P w K mg base (CXr P w) 3 t.f_look_free t.d_look_free ["tent", "seam"] (sp_look_free t.C_Tent t.E_NoSeam t.E_Rim t.E_Locked) := by
 refine T.p_look_free.F.okX sc_look_free (fun vs H Q E h => ?_) (fun cdv A outer s H vs Q E hr h => ?_)
 ·obtain ⟨p, M, ns, x, rfl, _⟩ := h
  rfl
 ·obtain ⟨p, M, ns, x, rfl, ta, td, k1, k2⟩ := h
  obtain ⟨dx, cl, na, sp, mt, o, f, b⟩ := id ta
  refine ⟨_, (pssx_cons (psx_set (i := 2) sc_look_free.nd rfl (Or.inl rfl) (pex_meth (pv 0) T.cl_Tent T.p_Tent_sort_of.m (ok_Tent_sort_of T) (hr.mono (by decide)) T.p_Tent_sort_of.b .nil (pa_cons (pv 1) pa_nil)))
   (pssx_cons (psx_if (pt_cmpR op_eq (pv 2) pe_str (nomark _)) (pssx_one (psx_raise T.x_Rim FBV rfl T.gx_Rim rfl (pa_cons pe_str pa_nil))) pssx_nil)
   (pssx_one (psx_if (pt_cmpR op_eq (pv 2) pe_str (nomark _)) (pssx_one (psx_raise T.x_Locked FBV rfl T.gx_Locked rfl (pa_cons pe_str pa_nil))) pssx_nil)))), ?_⟩
  refine ⟨_, rfl, p, dx, _, rfl, b.ins, fl_none _ _ _ _, _, rfl, p, M, ns, x, rfl, ta, td, fun c H' sm => ?_, k2⟩
  obtain ⟨j1, j2, j3⟩ := k1 c H' sm
  refine ⟨_, rfl, rfl, _, rfl, ?_⟩
  rcases sort_cases td c with ⟨e, _⟩ | ⟨e, _⟩ | ⟨e, _⟩
  ·rw [e, str_eq]
   exact iteT ⟨by decide, j1 e⟩
  ·rw [e, str_ne t_lr]
   refine iteF ⟨_, rfl, rfl, _, rfl, ?_⟩
   rw [str_eq]
   exact iteT ⟨by decide, j2 e⟩
  ·rw [e, str_ne t_fr]
   refine iteF ⟨_, rfl, rfl, _, rfl, ?_⟩
   rw [str_ne t_fl]
   exact iteF (j3 e)
theorem sc_square : FnScope ["tent", "seam", "lesser", "greater"] ["tent", "seam"] (defScope s_square) := ⟨rfl, rfl, rfl, by decide +kernel, rfl, by decide +kernel, by decide +kernel⟩
theorem ok_square (T : Txt w K mg t) : FnOk P w K mg base (CXr P w) 4 t.f_square t.d_square ["tent", "seam"] (sp_square t.C_Tent t.E_NoSeam t.E_Rim t.E_Locked) := by
 refine T.p_square.F.okX sc_square (fun vs H Q E h => ?_) (fun cdv A outer s H vs Q E hr h => ?_)
 ·obtain ⟨p, M, ns, x, rfl, _⟩ := h
  rfl
 ·obtain ⟨p, M, ns, x, rfl, ta, td, k1, k2⟩ := h
  refine ⟨_, (pssx_cons (psx_expr (pex_call (ok_look_free T) (hr.mono (by decide)) rfl T.p_look_free.g T.p_look_free.F.kp T.p_look_free.b .nil (pa_cons (pv 0) (pa_cons (pv 1) pa_nil))))
   (pssx_cons (psx_of (ps_asg (pe_meth (pv 0) T.cl_Tent T.p_Tent_places.m (ok_Tent_places T) (hr.mono (by decide)) T.p_Tent_places.b .nil passR (pa_cons (pv 1) pa_nil)) (pg_lst rfl (pgs_cons (pg_name (i := 2) sc_square.nd rfl (Or.inl rfl)) (pgs_cons (pg_name (i := 3) sc_square.nd rfl (Or.inl rfl)) pgs_nil)))))
   (pssx_one (psx_of (ps_ret (pe_tup (pa_cons (pe_call (ok_after T) (hr.mono (by decide)) rfl T.p_after.g T.p_after.F.kp T.p_after.b .nil passR (pa_cons (pv 2) pa_nil)) (pa_cons (pe_call (ok_before T) (hr.mono (by decide)) rfl T.p_before.g T.p_before.F.kp T.p_before.b .nil passR (pa_cons (pv 2) pa_nil)) (pa_cons (pe_call (ok_after T) (hr.mono (by decide)) rfl T.p_after.g T.p_after.F.kp T.p_after.b .nil passR (pa_cons (pv 3) pa_nil)) (pa_cons (pe_call (ok_before T) (hr.mono (by decide)) rfl T.p_before.g T.p_before.F.kp T.p_before.b .nil passR (pa_cons (pv 3) pa_nil)) pa_nil)))))))))), ?_⟩
  refine ⟨_, rfl, _, rfl, p, M, ns, x, rfl, ta, td, fun c H' sm => ⟨(k1 c H' sm).1, (k1 c H' sm).2.1, fun e => ?_⟩, k2⟩
  obtain ⟨a, b, hab, ep, em, ne⟩ : ∃ a b, a < b ∧ pl ns ns.length x = [a, b] ∧ M[a]? = some (some b) ∧ a / 3 ≠ b / 3 := by
   rcases sort_cases td c with ⟨e', _⟩ | ⟨e', _⟩ | ⟨e', q⟩
   ·exact absurd (e'.symm.trans e) t_rf
   ·exact absurd (e'.symm.trans e) t_lf
   ·exact q
  have ta' := ta.same sm
  obtain ⟨dx, cl, na, sp, mt, o, f, B⟩ := id ta'
  refine ⟨_, rfl, p, dx, _, rfl, B.ins, fl_none _ _ _ _, _, rfl, p, M, ns, x, rfl, ta', fun _ l hl => ?_, fun z => absurd c z⟩
  rw [ep]
  refine ⟨l, _, rfl, SqL.of upd_same, rfl, _, _, rfl, _, _, rfl, rfl, ?_⟩
  refine ⟨_, rfl, _, rfl, ?_⟩
  refine ⟨_, rfl, _, rfl, ?_⟩
  refine ⟨_, rfl, _, rfl, ?_⟩
  refine ⟨_, rfl, _, rfl, ?_⟩
  refine ⟨(by show 4 ≤ sizeLine; decide), fun q hq => ?_⟩
  obtain ⟨hql, hq'⟩ := upd_none hq
  exact (k1 c _ (Same.add (Same.add sm (sm.free hl)) (sm.free hq'))).2.2 a b q ep hab em ne (sm.free hq') upd_same
end
end KT
set_option maxHeartbeats 4000000
namespace KT
open PySem L2
noncomputable def sp_list : Sp := fun vs H Q _ => ∃ (a b : Addr) (xs : List Int), vs = [.ref a, .ref b] ∧ H a = some (.lst (xs.map V.int)) ∧ H b = some (.lst (xs.map V.int)) ∧ xs.length ≤ 100000 ∧ Q (.bl true) H
noncomputable def sp_seam : Sp := fun vs H Q _ => ∃ (r : Addr) (ns : List Int) (i : Nat) (x : Int), vs = [.ref r, .int i] ∧ RowsAt H r ns ∧ ns[i]? = some x ∧ Q (.int x) H
noncomputable def isFree (M : List (Option Nat)) (i : Nat) : Bool := match M[i]? with
 | some (some j) => decide (i < j) && decide (i / 3 ≠ j / 3)
 | _ => false
noncomputable def isLow (M : List (Option Nat)) (i : Nat) : Bool := match M[i]? with
 | some (some j) => decide (i < j)
 | _ => false
noncomputable def lowL (M : List (Option Nat)) (n : Nat) : List Nat := (List.range n).filter (isLow M)
noncomputable def freeL (M : List (Option Nat)) : List Nat := (List.range M.length).filter (isFree M)
noncomputable def sp_free : Sp := fun vs H Q _ => ∃ (m : Addr) (M : List (Option Nat)), vs = [.ref m] ∧ H m = some (.lst (M.map mV)) ∧ M.length ≤ 1000 ∧ (∀ (i j : Nat), M[i]? = some (some j) → M[j]? = some (some i) ∧ i ≠ j) ∧
 ∀ (l : Addr) (H' : Hp), Same H H' → H l = none → H' l = some (.lst ((freeL M).map nV)) → Q (.ref l) H'
noncomputable def sp_around : Sp := fun vs H Q _ => ∃ (m : Addr) (M : List (Option Nat)) (i j : Nat), vs = [.ref m, .int i] ∧ H m = some (.lst (M.map mV)) ∧ M[i]? = some (some j) ∧
 ∀ (l : Addr) (H' : Hp), Same H H' → H l = none → H' l = some (.lst (sqr i j)) → Q (.ref l) H'
theorem row_at {H : Hp} {r : Addr} {ns : List Int} {i : Nat} {x : Int} (h : RowsAt H r ns) (hx : ns[i]? = some x) : ∃ ts : List Addr, ∃ q, H r = some (.lst (ts.map V.ref)) ∧ ts[i / 3]? = some q ∧ H q = some (.tup (row3 ns (i / 3))) ∧ (row3 ns (i / 3))[i % 3]? = some (V.int x) := by
 obtain ⟨ts, h1, h2, h3⟩ := h
 have hi : i < ns.length := (List.getElem?_eq_some_iff.mp hx).1
 have hk : i / 3 < ts.length := by omega
 refine ⟨ts, ts[i / 3], h1, List.getElem?_eq_getElem hk, h3 _ _ (List.getElem?_eq_getElem hk), ?_⟩
 have g : ∀ j, ns[j]? = some x → ns.getD j 0 = x := fun j hj => by rw [List.getD_eq_getElem?_getD, hj]; rfl
 have hm : i % 3 = 0 ∨ i % 3 = 1 ∨ i % 3 = 2 := by omega
 rcases hm with m | m | m
 ·have : 3 * (i / 3) = i := by omega
  rw [m]; show some (V.int (ns.getD (3 * (i / 3)) 0)) = _; rw [this, g i hx]
 ·have : 3 * (i / 3) + 1 = i := by omega
  rw [m]; show some (V.int (ns.getD (3 * (i / 3) + 1) 0)) = _; rw [this, g i hx]
 ·have : 3 * (i / 3) + 2 = i := by omega
  rw [m]; show some (V.int (ns.getD (3 * (i / 3) + 2) 0)) = _; rw [this, g i hx]
theorem div3 (i : Nat) : (i : Int) / 3 = ((i / 3 : Nat) : Int) := by omega
theorem mod3 (i : Nat) : (i : Int) % 3 = ((i % 3 : Nat) : Int) := by omega
theorem after_side (i : Nat) : (i : Int) - (i : Int) % 3 + ((i : Int) + 1) % 3 = after i := by unfold after; split <;> omega
theorem before_side (i : Nat) : (i : Int) - (i : Int) % 3 + ((i : Int) + 2) % 3 = before i := by unfold before; split <;> omega
noncomputable def sp_law (K : PySem.W.Frag) : Sp := fun vs H Q _ => ∃ (a : Addr) (ns : List Int), vs = [.ref a] ∧ SqL K H a (ns.map V.int) ∧ ns.length ≤ 63 ∧ ∀ H', Q (.bl true) H'
theorem sp_law_start {K : PySem.W.Frag} {H : Hp} {a : Addr} {ns : List Int} (hl : ns.length ≤ 63) (hS : SqL K H a (ns.map V.int)) : sp_law K [.ref a] H (fun v _ => v = .bl true) fun _ _ _ => False := ⟨a, ns, rfl, hS, hl, fun _ => rfl⟩
theorem RowsAt.copy {H : Hp} {r l : Addr} {ns : List Int} {ts : List Addr} (h1 : H r = some (.lst (ts.map V.ref))) (h2 : ns.length = 3 * ts.length) (h3 : ∀ (k : Nat) (t : Addr), ts[k]? = some t → H t = some (.tup (row3 ns k))) (hl : H l = none) : RowsAt (upd H l (.lst (ts.map V.ref))) l ns :=
 ⟨ts, upd_same, h2, fun k q e => by rw [upd_ne (ne_of_none (h3 k q e) hl)]; exact h3 k q e⟩
theorem free_mem {M : List (Option Nat)} {i : Nat} (h : i ∈ freeL M) : ∃ j, M[i]? = some (some j) ∧ i < j ∧ i / 3 ≠ j / 3 := by
 have := (List.mem_filter.mp h).2
 unfold isFree at this
 split at this
 ·rename_i j hj
  simp at this
  exact ⟨j, hj, this.1, this.2⟩
 ·cases this
theorem pl_two {M : List (Option Nat)} {ns : List Int} (td : TD M ns) {i j : Nat} {x : Int} (hm : M[i]? = some (some j)) (hij : i < j) (hx : ns[i]? = some x) : x ∈ keys ns ns.length ∧ pl ns ns.length x = [i, j] := by
 have hi : i < ns.length := (List.getElem?_eq_some_iff.mp hx).1
 have hk : x ∈ keys ns ns.length := keys_mem.mpr ⟨i, hi, hx⟩
 have mi : i ∈ pl ns ns.length x := pl_mem.mpr ⟨hi, hx⟩
 refine ⟨hk, ?_⟩
 rcases pl_cases td hk with ⟨a, e, _, ma⟩ | ⟨a, b, hab, e, _, _, ma, mb⟩
 ·rw [e, List.mem_singleton] at mi
  subst mi
  rw [hm] at ma; cases ma
 ·rw [e] at mi
  rcases List.mem_cons.mp mi with z | z
  ·subst z
   rw [hm] at ma
   cases ma
   exact e
  ·have z : i = b := by simpa using z
   subst z
   rw [hm] at mb
   cases mb
   omega
theorem tent_new {H1 : Hp} {r l x dx C : Addr} {ns : List Int} {ts : List Addr} (g1 : H1 r = some (.lst (ts.map V.ref))) (g2 : ns.length = 3 * ts.length) (g3 : ∀ (k : Nat) (t : Addr), ts[k]? = some t → H1 t = some (.tup (row3 ns k)))
  (hl1 : H1 l = none) (hx : upd H1 l (.lst (ts.map V.ref)) x = none) (hdx : upd H1 l (.lst (ts.map V.ref)) dx = none) :
  RowsAt (upd (upd (upd H1 l (.lst (ts.map V.ref))) dx (.own x)) x (.ins C dx [])) l ns ∧ Same (upd H1 l (.lst (ts.map V.ref))) (upd (upd (upd H1 l (.lst (ts.map V.ref))) dx (.own x)) x (.ins C dx [])) := by
 have s : Same (upd H1 l (.lst (ts.map V.ref))) (upd (upd (upd H1 l (.lst (ts.map V.ref))) dx (.own x)) x (.ins C dx [])) := Same.add (Same.new hdx) hx
 exact ⟨(RowsAt.copy g1 g2 g3 hl1).same s, s⟩
theorem sorted_eq {a b c : List Int} (h1 : a.Perm c) (h2 : b.Perm c) (s1 : a.Pairwise (· ≤ ·)) (s2 : b.Pairwise (· ≤ ·)) : a = b :=
 (h1.trans h2.symm).eq_of_pairwise (fun x y _ _ h1 h2 => Int.le_antisymm h1 h2) s1 s2
section
variable {P : Program} {w : World} {K : PySem.W.Frag} {mg : Str → Option Value} {base : Heap} {t : Adr}
theorem sc_l_list : FnScope ["_law_found_here", "_law_due", "_law_k"] ["_law_found_here", "_law_due"] (defScope s_l_list) := ⟨rfl, rfl, rfl, by decide +kernel, rfl, by decide +kernel, by decide +kernel⟩
theorem ok_l_list (T : Txt w K mg t) : FnOk P w K mg base (CXr P w) 2 t.f_l_list t.d_l_list ["_law_found_here", "_law_due"] sp_list := by
 refine T.p_l_list.F.okR sc_l_list (fun vs H Q E h => ?_) (fun cdv A outer s H vs Q E hr h => ?_)
 ·obtain ⟨a, b, xs, rfl, _⟩ := h
  rfl
 ·obtain ⟨a, b, xs, rfl, ha, hb, hl, k⟩ := h
  refine ⟨_, (pss_cons (ps_if (PW.pt (pw_or (pt_not (pt_val (pe_callB call_isinst (by rfl) T.n_isinstance PyProof.Rows.boot_isinstance (pa_cons (pv 0) (pa_cons (pe_bltn (v := .ty "list") (by rfl) T.n_list PySem.Pv.boot_list rfl) pa_nil))))) (pw_or1 (pt_cmpR op_ne (pe_callB call_len_seq (by rfl) T.n_len PySem.boot_len (pa_cons (pv 0) pa_nil)) (pe_callB call_len_seq (by rfl) T.n_len PySem.boot_len (pa_cons (pv 1) pa_nil)) (nomark _))))) (pss_one (ps_ret pe_bl)) pss_nil)
   (pss_cons (ps_for PassesOwn.never rfl (pi_range1 rfl T.n_range (pa_cons (pe_callB call_len_seq (by rfl) T.n_len PySem.boot_len (pa_cons (pv 1) pa_nil)) pa_nil)) (pg_name (i := 2) sc_l_list.nd rfl (Or.inl rfl)) (pss_one (ps_if (PW.pt (pw_or (pt_not (pt_val (pe_call (ok_l_whole T) (hr.mono (by decide)) rfl T.p_l_whole.g T.p_l_whole.F.kp T.p_l_whole.b .nil passR (pa_cons (pe_ix ix_list (pv 0) (pv 2) (fun _ _ => rfl)) pa_nil)))) (pw_or1 (pt_cmpR op_ne (pe_ix ix_list (pv 0) (pv 2) (fun _ _ => rfl)) (pe_ix ix_list (pv 1) (pv 2) (fun _ _ => rfl)) (nomark _))))) (pss_one (ps_ret pe_bl)) pss_nil)))
   (pss_one (ps_ret pe_bl)))), ?_⟩
  refine ⟨_, rfl, _, "list", _, true, rfl, TyOf.lst ha, kit_same, _, rfl, iteF ?_⟩
  refine ⟨_, rfl, a, _, rfl, .inl (SqL.of ha), _, rfl, b, _, rfl, .inl (SqL.of hb), rfl, _, rfl, ?_⟩
  rw [show (!decide (V.int ((xs.map V.int).length : Nat) = V.int ((xs.map V.int).length : Nat))) = false by simp]
  refine iteF ?_
  dsimp only [tNext]
  show tSeq (tFor _ _ _) _ _ _ _
  refine seq_post (fun σ H1 => H1 = H) (fun nx hnx => ?_) ?_
  ·refine ⟨_, rfl, b, _, rfl, .inl (SqL.of hb), _, rfl, by omega, by rw [List.length_map]; omega, ?_⟩
   have eL : (((xs.map V.int).length : Nat) : Int).toNat = xs.length := by simp
   rw [eL]
   refine for_range (n := xs.length) (fun i σ H1 => ∃ v, σ = [some (.ref a), some (.ref b), v] ∧ H1 = H) ⟨none, rfl, rfl⟩ ?_ ?_
   ·rintro i σ H1 hlt ⟨v, rfl, rfl⟩
    have ei : atI (xs.map V.int) (0 + (i : Int)) = some (V.int xs[i]) := by rw [Int.zero_add]; exact map_at (List.getElem?_eq_getElem hlt)
    dsimp only [gName]
    refine ⟨_, rfl, _, rfl, a, _, _, _, rfl, rfl, SqL.of ha, ei, _, rfl, _, rfl, iteF ?_⟩
    refine ⟨_, rfl, _, rfl, a, _, _, _, rfl, rfl, SqL.of ha, ei, _, rfl, _, rfl, b, _, _, _, rfl, rfl, SqL.of hb, ei, rfl, _, rfl, ?_⟩
    rw [show (!decide (V.int xs[i] = V.int xs[i])) = false by simp]
    exact iteF ⟨_, rfl, rfl⟩
   ·rintro σ H1 ⟨v, rfl, rfl⟩
    exact hnx _ _ rfl
  ·rintro σ H1 rfl
   exact k
theorem sc_l_seam : FnScope ["_law_rows_here", "_law_place"] ["_law_rows_here", "_law_place"] (defScope s_l_seam) := ⟨rfl, rfl, rfl, by decide +kernel, rfl, by decide +kernel, by decide +kernel⟩
theorem ok_l_seam (T : Txt w K mg t) : FnOk P w K mg base (CXr P w) 1 t.f_l_seam t.d_l_seam ["_law_rows_here", "_law_place"] sp_seam := by
 refine T.p_l_seam.F.okR sc_l_seam (fun vs H Q E h => ?_) (fun cdv A outer s H vs Q E hr h => ?_)
 ·obtain ⟨r, ns, i, x, rfl, _⟩ := h
  rfl
 ·obtain ⟨r, ns, i, x, rfl, hr1, hx, k⟩ := h
  refine ⟨_, (pss_one (ps_ret (pe_ix ix_tup (pe_ix ix_list (pv 0) (pe_op op_fdiv (pv 1) pe_int) (fun _ _ => rfl)) (pe_op op_mod (pv 1) pe_int) (fun _ _ => rfl)))), ?_⟩
  obtain ⟨ts, q, e1, e2, e3, e4⟩ := row_at hr1 hx
  refine ⟨_, rfl, _, rfl, _, _, rfl, rfl, ⟨by decide, by decide⟩, r, _, _, _, rfl, rfl, SqL.of e1, (by rw [div3]; exact map_at e2), _, rfl, _, _, rfl, rfl, (by show (0 : Int) < 3; decide), q, _, _, _, rfl, rfl, SqT.of e3, (by rw [mod3]; exact atI_nat e4), k⟩
theorem sc_l_around : FnScope ["_law_mates", "_law_place", "_law_row", "_law_side"] ["_law_mates", "_law_place"] (defScope s_l_around) := ⟨rfl, rfl, rfl, by decide +kernel, rfl, by decide +kernel, by decide +kernel⟩
theorem ok_l_around (T : Txt w K mg t) : FnOk P w K mg base (CXr P w) 1 t.f_l_around t.d_l_around ["_law_mates", "_law_place"] sp_around := by
 refine T.p_l_around.F.okR sc_l_around (fun vs H Q E h => ?_) (fun cdv A outer s H vs Q E hr h => ?_)
 ·obtain ⟨m, M, i, j, rfl, _⟩ := h
  rfl
 ·obtain ⟨m, M, i, j, rfl, hm, hij, k⟩ := h
  refine ⟨_, (pss_cons (ps_set (i := 2) sc_l_around.nd rfl (Or.inl rfl) (pe_lst pa_nil))
   (pss_cons (ps_for PassesOwn.never rfl (pi_list (pe_lst (pa_cons (pv 1) (pa_cons (pe_ix ix_list (pv 0) (pv 1) (fun _ _ => rfl)) pa_nil)))) (pg_name (i := 3) sc_l_around.nd rfl (Or.inl rfl)) (pss_cons (ps_expr (pe_bm PySem.F.plainAttrs_list PySem.F.slot_list_append PySem.F.type_list_append mt_append (pv 2) (pa_cons (pe_op op_add (pe_op op_sub (pv 3) (pe_op op_mod (pv 3) pe_int)) (pe_op op_mod (pe_op op_add (pv 3) pe_int) pe_int)) pa_nil)))
   (pss_one (ps_expr (pe_bm PySem.F.plainAttrs_list PySem.F.slot_list_append PySem.F.type_list_append mt_append (pv 2) (pa_cons (pe_op op_add (pe_op op_sub (pv 3) (pe_op op_mod (pv 3) pe_int)) (pe_op op_mod (pe_op op_add (pv 3) pe_int) pe_int)) pa_nil))))))
   (pss_one (ps_ret (pv 2))))), ?_⟩
  refine ⟨Nat.zero_le _, fun r hr0 => ?_⟩
  have hmr : m ≠ r := ne_of_none hm hr0
  dsimp only [gName]
  show tSeq (tFor _ _ _) _ _ _ _
  refine seq_post (fun σ H1 => ∃ v, σ = [some (.ref m), some (.int i), some (.ref r), v] ∧ Same H H1 ∧ H1 r = some (.lst (sqr i j))) (fun nx hnx => ?_) ?_
  ·refine ⟨_, rfl, _, rfl, _, rfl, m, _, _, _, rfl, rfl, SqL.of (by rw [upd_ne hmr]; exact hm), map_at hij, (by show 2 ≤ sizeLine; decide), fun q hq => ?_⟩
   obtain ⟨hqr, hq0⟩ := upd_none hq
   refine ⟨q, rfl, ⟨_, SqL.of upd_same⟩, ?_⟩
   refine for_list (xs := [V.int i, V.int j]) (fun n σ H1 => ∃ v, σ = [some (.ref m), some (.int i), some (.ref r), v] ∧ Same H H1 ∧ H1 q = some (.lst [V.int i, V.int j]) ∧ H1 r = some (.lst ((sqr i j).take (2 * n)))) ⟨none, rfl, Same.add (Same.new hr0) hq0, upd_same, by rw [upd_ne (Ne.symm hqr), upd_same]; rfl⟩ ?_ ?_ ?_
   ·rintro n σ H1 _ ⟨v, rfl, sm, h1, h2⟩
    exact SqL.of h1
   ·rintro n x σ H1 hx ⟨v, rfl, sm, h1, h2⟩
    have lt : ∀ z : Nat, z ≤ 4 → ((sqr i j).take z).length < sizeLine := fun z hz => by rw [List.length_take]; exact small1000 (by omega)
    dsimp only [gName]
    obtain ⟨c, rfl⟩ : ∃ c : Nat, x = V.int c := by
     match n, hx with
     | 0, hx => exact ⟨i, (Option.some.inj hx).symm⟩
     | 1, hx => exact ⟨j, (Option.some.inj hx).symm⟩
    refine ⟨_, rfl, .inl ⟨rfl, _, SqL.of h2⟩, _, rfl, _, rfl, _, _, rfl, rfl, (by show (0 : Int) < 3; decide), _, _, rfl, rfl, _, rfl, _, _, rfl, rfl, _, _, rfl, rfl, (by show (0 : Int) < 3; decide), _, _, rfl, rfl, r, _, _, rfl, rfl, h2, lt _ (by have := (List.getElem?_eq_some_iff.mp hx).1; simp at this; omega), ?_⟩
    refine ⟨_, rfl, .inl ⟨rfl, _, SqL.of upd_same⟩, _, rfl, _, rfl, _, _, rfl, rfl, (by show (0 : Int) < 3; decide), _, _, rfl, rfl, _, rfl, _, _, rfl, rfl, _, _, rfl, rfl, (by show (0 : Int) < 3; decide), _, _, rfl, rfl, r, _, _, rfl, rfl, upd_same, ?_, ?_⟩
    ·rw [List.length_append, List.length_take]; exact small1000 (by simp [sqr]; omega)
    ·refine ⟨_, rfl, Same.add (Same.add sm hr0) hr0, ?_, ?_⟩
     ·rw [upd_ne hqr, upd_ne hqr]; exact h1
     ·rw [upd_same]
      dsimp only
      rw [after_side, before_side]
      match n, hx with
      | 0, hx =>
       have e : i = c := by have e := Option.some.inj hx; injection e with e; omega
       subst e; rfl
      | 1, hx =>
       have e : j = c := by have e := Option.some.inj hx; injection e with e; omega
       subst e; rfl
   ·rintro σ H1 ⟨v, rfl, sm, h1, h2⟩
    exact hnx _ _ ⟨v, rfl, sm, h2⟩
  rintro σ H1 ⟨v, rfl, sm, h2⟩
  exact ⟨_, rfl, k r H1 sm hr0 h2⟩
theorem low_step (M : List (Option Nat)) (n : Nat) : lowL M (n + 1) = if isLow M n = true then lowL M n ++ [n] else lowL M n := by
 unfold lowL
 rw [List.range_succ, List.filter_append]
 by_cases c : isLow M n = true
 ·simp [c]
 ·simp [c]
theorem low_le (M : List (Option Nat)) (n : Nat) : (lowL M n).length ≤ n := by
 unfold lowL
 exact Nat.le_trans (List.length_filter_le _ _) (by simp)
theorem free_low (M : List (Option Nat)) : (lowL M M.length).filter (isFree M) = freeL M := by
 unfold lowL freeL
 rw [List.filter_filter]
 congr 1
 funext i
 unfold isFree isLow
 cases M[i]? with
 | none => rfl
 | some o => cases o with
  | none => rfl
  | some j => by_cases c : i < j <;> simp [c]
theorem fil_step {α : Type} {p : α → Bool} {l : List α} {i : Nat} {x : α} (h : l[i]? = some x) : (l.take (i + 1)).filter p = if p x = true then (l.take i).filter p ++ [x] else (l.take i).filter p := by
 rw [List.take_add_one, h, List.filter_append]
 by_cases c : p x = true
 ·simp [c]
 ·simp [c]
theorem sc_l_free : FnScope ["_law_mates", "_law_row"] ["_law_mates"] (defScope s_l_free) := ⟨rfl, rfl, rfl, by decide +kernel, rfl, by decide +kernel, by decide +kernel⟩
theorem ok_l_free (T : Txt w K mg t) : FnOk P w K mg base (CXr P w) 1 t.f_l_free t.d_l_free ["_law_mates"] sp_free := by
  refine T.p_l_free.F.okR sc_l_free (fun vs H Q E h => ?_) (fun cdv A outer s H vs Q E hr h => ?_)
  · obtain ⟨m, M, rfl, _⟩ := h
    rfl
  · obtain ⟨m, M, rfl, hm, hl, inv, k⟩ := h
    refine ⟨_, (pss_cons (ps_setCompG (ts := ["_law_p"]) (fv := [("_law_mates", 0)]) (i := 1) ⟨rfl, by decide +kernel, by decide +kernel, blkFree (by rfl), ⟨⟨rfl, rfl, Or.inl rfl⟩, trivial⟩⟩ rfl sc_l_free.nd rfl rfl (by rfl) (pi_range1 rfl T.n_range (pa_cons (pe_callB call_len_seq (by rfl) T.n_len PySem.boot_len (pa_cons (pv 0) pa_nil)) pa_nil)) (fun _ _ _ _ => (pg_name (i := 0) (show List.Nodup (["_law_p", "_law_mates"] : List Str) from by decide +kernel) rfl (Or.inl rfl) (Or.inr rfl))) (fun _ _ _ _ => (pts_one (PW.pt (pw_and (pt_cmpR op_notN (pe_ix (ix_listK K) (pv 1) (pv 0) (fun _ _ => rfl)) pe_non (nomark _)) (pw_and1 (pt_cmpR op_lt (pv 0) (pe_ix (ix_listK K) (pv 1) (pv 0) (fun _ _ => rfl)) (nomark _))))))) (fun _ _ _ => rfl) (fun _ _ _ _ _ _ => pb_emit (pv 0)))
      (pss_one (ps_ret (pe_compG (ts := ["_law_p"]) (fv := [("_law_mates", 0)]) ⟨rfl, by decide +kernel, by decide +kernel, blkFree (by rfl), ⟨⟨rfl, rfl, Or.inl rfl⟩, trivial⟩⟩ rfl (pi_list (pv 1)) (fun _ _ _ _ => (pg_name (i := 0) (show List.Nodup (["_law_p", "_law_mates"] : List Str) from by decide +kernel) rfl (Or.inl rfl) (Or.inr rfl))) (fun _ _ _ _ => (pts_one (pt_cmpR op_ne (pe_op op_fdiv (pv 0) pe_int) (pe_op op_fdiv (pe_ix (ix_listK K) (pv 1) (pv 0) (fun _ _ => rfl)) pe_int) (nomark _)))) (fun _ _ _ => rfl) (fun _ _ _ _ _ _ => pb_emit (pv 0)))))), ?_⟩
    refine ⟨_, rfl, m, _, rfl, .inl (SqL.of hm), _, rfl, by omega, by rw [List.length_map]; omega, fun D hD => ?_⟩
    have eL : (((M.map mV).length : Nat) : Int).toNat = M.length := by simp
    rw [eL]
    refine loop_range (fun i σ H1 => ∃ v, σ = [v, some (.ref m)] ∧ Same H H1 ∧ H1 D = some (.lst ((lowL M i).map nV))) ⟨none, rfl, Same.new hD, upd_same⟩ ?_ ?_
    · rintro i σ H1 hlt ⟨v, rfl, sm, h1⟩
      have e0 : (0 + (i : Int)) = (i : Int) := Int.zero_add _
      dsimp only [gName]
      rw [e0]
      obtain ⟨y, hy⟩ : ∃ y, M[i]? = some y := ⟨_, List.getElem?_eq_getElem hlt⟩
      have at' := map_at (f := mV) hy
      have lt : ((lowL M i).map nV).length < sizeLine := by rw [List.length_map]; exact small1000 (by have := low_le M i; omega)
      refine ⟨_, rfl, _, rfl, m, _, _, _, rfl, rfl, SqL.of (sm _ _ hm), at', rfl, _, rfl, ?_⟩
      cases y with
      | none =>
        refine iteF (iteF ⟨_, rfl, sm, ?_⟩)
        rw [h1, low_step, if_neg (by unfold isLow; rw [hy]; simp)]
      | some j =>
        refine iteT ⟨_, rfl, _, rfl, _, rfl, m, _, _, _, rfl, rfl, SqL.of (sm _ _ hm), at', _, _, rfl, rfl, _, rfl, ?_⟩
        by_cases c : i < j
        · rw [decide_eq_true (by omega : (i : Int) < (j : Int))]
          refine iteT ⟨_, rfl, _, h1, lt, _, rfl, Same.add sm hD, ?_⟩
          rw [upd_same, low_step, if_pos (by unfold isLow; rw [hy]; simp [c]), List.map_append]
          rfl
        · rw [decide_eq_false (by omega : ¬ (i : Int) < (j : Int))]
          refine iteF ⟨_, rfl, sm, ?_⟩
          rw [h1, low_step, if_neg (by unfold isLow; rw [hy]; simp [c])]
    rintro σ H1 ⟨v, rfl, sm, h1⟩
    refine ⟨_, rfl, D, rfl, ⟨_, SqL.of h1⟩, fun D2 hD2 => ?_⟩
    have hD20 : H D2 = none := sm.free hD2
    refine loop_list (xs := (lowL M M.length).map nV) (fun i σ H2 => ∃ v, σ = [v, some (.ref m)] ∧ Same H1 H2 ∧ H2 D2 = some (.lst ((((lowL M M.length).take i).filter (isFree M)).map nV))) ⟨none, rfl, Same.new hD2, upd_same⟩ ?_ ?_ ?_
    · rintro i σ H2 _ ⟨v, rfl, sm2, h2⟩
      exact SqL.of (sm2 _ _ h1)
    · rintro i x σ H2 hx ⟨v, rfl, sm2, h2⟩
      obtain ⟨p, hp, rfl⟩ := map_some hx
      have hpm : p ∈ lowL M M.length := List.mem_of_getElem? hp
      obtain ⟨j, hj, hpj⟩ : ∃ j, M[p]? = some (some j) ∧ p < j := by
        have := (List.mem_filter.mp hpm).2
        unfold isLow at this
        split at this
        · rename_i j hj; exact ⟨j, hj, of_decide_eq_true this⟩
        · cases this
      have lt : ((((lowL M M.length).take i).filter (isFree M)).map nV).length < sizeLine := by
        rw [List.length_map]
        exact small1000 (by
          have h1 := List.length_filter_le (isFree M) ((lowL M M.length).take i)
          have h2 := List.length_take_le i (lowL M M.length)
          have h3 := List.length_take_le' i (lowL M M.length)
          have h4 := low_le M M.length
          omega)
      dsimp only [gName]
      refine ⟨_, rfl, _, _, rfl, rfl, ⟨by decide, by decide⟩, _, rfl, _, rfl, m, _, _, _, rfl, rfl, SqL.of (sm2 _ _ (sm _ _ hm)), map_at hj, _, _, rfl, rfl, ⟨by decide, by decide⟩, rfl, _, rfl, ?_⟩
      by_cases c : p / 3 = j / 3
      · rw [show (!decide (V.int ((p : Int) / 3) = V.int ((j : Int) / 3))) = false by
          rw [show (p : Int) / 3 = (j : Int) / 3 by omega]; simp]
        refine iteF ⟨_, rfl, sm2, ?_⟩
        rw [h2, fil_step hp, if_neg (by unfold isFree; rw [hj]; simp [c])]
      · rw [show (!decide (V.int ((p : Int) / 3) = V.int ((j : Int) / 3))) = true by
          rw [decide_eq_false (fun z => c (by injection z; omega))]; rfl]
        refine iteT ⟨_, rfl, _, h2, lt, _, rfl, Same.add sm2 hD2, ?_⟩
        rw [upd_same, fil_step hp, if_pos (by unfold isFree; rw [hj]; simp [c, hpj]), List.map_append]
        rfl
    rintro σ H2 ⟨v, rfl, sm2, h2⟩
    rw [List.length_map, List.take_length, free_low] at h2
    exact k D2 H2 (sm.trans sm2) hD20 h2
end
end KT
set_option maxHeartbeats 4000000
namespace KT
open PySem L2
noncomputable def isL (way : Str) : Bool := decide (way = "left")
noncomputable def sp_look_way (EW : Addr) : Sp := fun vs H Q E => ∃ way : Str, vs = [.str way] ∧ (way = "left" ∨ way = "right" → Q .non H) ∧ (¬ (way = "left" ∨ way = "right") → E (.ref EW) none H)
structure Wrong (EW ES ER EL : Addr) (M : List (Option Nat)) (ns : List Int) (x : Int) (way : Str) (H : Hp) (E : XK) (G : Nat → Nat → Hp → Prop) : Prop where
 noway : ¬ (way = "left" ∨ way = "right") → E (.ref EW) none H
 seam : way = "left" ∨ way = "right" → x ∉ keys ns ns.length → E (.ref ES) none H
 rim : way = "left" ∨ way = "right" → ∀ H', Same H H' → x ∈ keys ns ns.length → sortOf ns x = "rim" → E (.ref ER) none H'
 lock : way = "left" ∨ way = "right" → ∀ H', Same H H' → x ∈ keys ns ns.length → sortOf ns x = "locked" → E (.ref EL) none H'
 go : way = "left" ∨ way = "right" → ∀ a b H', Same H H' → pl ns ns.length x = [a, b] → a < b → M[a]? = some (some b) → a / 3 ≠ b / 3 → G a b H'
noncomputable def sp_shifts (C EW ES ER EL : Addr) : Sp := fun vs H Q E => ∃ (p : Addr) (M : List (Option Nat)) (ns : List Int) (x : Int) (way : Str), vs = [.ref p, .int x, .str way] ∧ TentAt C H p M ns ∧ TD M ns ∧
 Wrong EW ES ER EL M ns x way H E fun a b H' => ∀ l, H l = none → H' l = some (.dK (glV (isL way) a b)) → Q (.ref l) H'
theorem ways_val (way : Str) : (valV [((Sum.inr "left" : Key), V.str "right"), (Sum.inr "right", V.str "left")] (Sum.inr way)).isSome = true ↔ way = "left" ∨ way = "right" := by
 unfold valV
 by_cases c1 : way = "left"
 ·subst c1; simp
 ·by_cases c2 : way = "right"
  ·subst c2
   simp [List.find?_cons]
   split <;> simp
  ·have n1 : ¬ (Sum.inr "left" : Key) = Sum.inr way := fun z => c1 (by injection z with z; exact z.symm)
   have n2 : ¬ (Sum.inr "right" : Key) = Sum.inr way := fun z => c2 (by injection z with z; exact z.symm)
   simp [List.find?_cons, n1, n2, c1, c2]
section
variable {P : Program} {w : World} {K : PySem.W.Frag} {mg : Str → Option Value} {base : Heap} {t : Adr}
theorem sc_look_way : FnScope ["way"] ["way"] (defScope s_look_way) := ⟨rfl, rfl, rfl, by decide +kernel, rfl, by decide +kernel, by decide +kernel⟩
theorem ok_look_way (T : Txt w K mg t) : FnOk P w K mg base (CXr P w) 1 t.f_look_way t.d_look_way ["way"] (sp_look_way t.E_NoWay) := by
 refine T.p_look_way.F.okX sc_look_way (fun vs H Q E h => ?_) (fun cdv A outer s H vs Q E hr h => ?_)
 ·obtain ⟨way, rfl, _⟩ := h
  rfl
 ·obtain ⟨way, rfl, k1, k2⟩ := h
  refine ⟨_, (pssx_one (psx_if (pt_cmp (pc_knotin (pv 0) (pe_glob (v := .ref t.g_CONTRARY_WAYS) rfl T.gd_CONTRARY_WAYS rfl)) (by with_unfolding_all rfl)) (pssx_one (psx_raise T.x_NoWay FBV rfl T.gx_NoWay rfl (pa_cons pe_str pa_nil))) pssx_nil)), ?_⟩
  refine ⟨_, rfl, t.g_CONTRARY_WAYS, _, Sum.inr way, rfl, T.kd_CONTRARY_WAYS, rfl, _, rfl, ?_⟩
  by_cases c : way = "left" ∨ way = "right"
  ·rw [(ways_val way).mpr c]
   exact iteF (k1 c)
  ·have : (valV [((Sum.inr "left" : Key), V.str "right"), (Sum.inr "right", V.str "left")] (Sum.inr way)).isSome = false := by
    rw [Bool.eq_false_iff]; exact fun z => c ((ways_val way).mp z)
   rw [this]
   exact iteT ⟨by decide, k2 c⟩
theorem sc_shifts : FnScope ["tent", "seam", "way", "a", "b", "c", "d"] ["tent", "seam", "way"] (defScope s_shifts) := ⟨rfl, rfl, rfl, by decide +kernel, rfl, by decide +kernel, by decide +kernel⟩
theorem ok_shifts (T : Txt w K mg t) : FnOk P w K mg base (CXr P w) 5 t.f_shifts t.d_shifts ["tent", "seam", "way"] (sp_shifts t.C_Tent t.E_NoWay t.E_NoSeam t.E_Rim t.E_Locked) := by
 refine T.p_shifts.F.okX sc_shifts (fun vs H Q E h => ?_) (fun cdv A outer s H vs Q E hr h => ?_)
 ·obtain ⟨p, M, ns, x, way, rfl, _⟩ := h
  rfl
 ·obtain ⟨p, M, ns, x, way, rfl, ta, td, W⟩ := h
  refine ⟨_, (pssx_cons (psx_expr (pex_call (ok_look_way T) (hr.mono (by decide)) rfl T.p_look_way.g T.p_look_way.F.kp T.p_look_way.b .nil (pa_cons (pv 2) pa_nil)))
   (pssx_cons (psx_asg (pex_call (ok_square T) (hr.mono (by decide)) rfl T.p_square.g T.p_square.F.kp T.p_square.b .nil (pa_cons (pv 0) (pa_cons (pv 1) pa_nil))) (pg_tup rfl (pgs_cons (pg_name (i := 3) sc_shifts.nd rfl (Or.inl rfl)) (pgs_cons (pg_name (i := 4) sc_shifts.nd rfl (Or.inl rfl)) (pgs_cons (pg_name (i := 5) sc_shifts.nd rfl (Or.inl rfl)) (pgs_cons (pg_name (i := 6) sc_shifts.nd rfl (Or.inl rfl)) pgs_nil))))))
   (pssx_cons (psx_of (ps_if (pt_cmpR op_eq (pv 2) pe_str (nomark _)) (pss_one (ps_ret (pe_disp (pps_cons (pv 3) (pv 6) (pps_cons (pv 6) (pv 5) (pps_cons (pv 5) (pv 4) (pps_cons (pv 4) (pv 3) pps_nil)))) rfl rfl (List.cons_ne_nil _ _) (by decide)))) pss_nil))
   (pssx_one (psx_of (ps_ret (pe_disp (pps_cons (pv 3) (pv 4) (pps_cons (pv 4) (pv 5) (pps_cons (pv 5) (pv 6) (pps_cons (pv 6) (pv 3) pps_nil)))) rfl rfl (List.cons_ne_nil _ _) (by decide)))))))), ?_⟩
  refine ⟨_, rfl, way, rfl, fun hw => ?_, W.noway⟩
  refine ⟨_, rfl, _, rfl, p, M, ns, x, rfl, ta, td, fun c H' sm => ⟨fun e => W.rim hw H' sm c e, fun e => W.lock hw H' sm c e, fun a b l e1 e2 e3 e4 e5 e6 => ?_⟩, fun c => W.seam hw c⟩
  refine ⟨l, _, rfl, SqT.of e6, rfl, _, _, rfl, _, _, rfl, _, _, rfl, _, _, rfl, rfl, ?_⟩
  refine ⟨_, rfl, rfl, _, rfl, ?_⟩
  by_cases c : way = "left"
  ·have cl : isL way = true := decide_eq_true c
   have := fun H'' s'' => W.go hw a b H'' s'' e1 e2 e3 e4
   rw [cl] at this
   rw [decide_eq_true (show V.str way = V.str "left" by rw [c])]
   refine iteT ?_
   intro d hd
   refine ⟨_, rfl, _, rfl, _, rfl, _, rfl, _, rfl, _, rfl, _, rfl, _, rfl, upd_same, glV true a b, ?_, ?_, ?_⟩
   ·rw [glV_left e4]; rfl
   ·rw [glV_left e4]; show 4 ≤ 15; decide
   ·rw [merge_gl e4]
    exact this _ (Same.add (Same.add sm (sm.free hd)) (sm.free hd)) d (sm.free hd) upd_same
  ·have cl : isL way = false := decide_eq_false c
   have := fun H'' s'' => W.go hw a b H'' s'' e1 e2 e3 e4
   rw [cl] at this
   rw [str_ne c]
   refine iteF ?_
   intro d hd
   refine ⟨_, rfl, _, rfl, _, rfl, _, rfl, _, rfl, _, rfl, _, rfl, _, rfl, upd_same, glV false a b, ?_, ?_, ?_⟩
   ·rw [glV_right e4]; rfl
   ·rw [glV_right e4]; show 4 ≤ 15; decide
   ·rw [merge_gl e4]
    exact this _ (Same.add (Same.add sm (sm.free hd)) (sm.free hd)) d (sm.free hd) upd_same
end
end KT
set_option maxHeartbeats 4000000
namespace KT
open PySem L2
noncomputable def wayS (left : Bool) : Str := if left then "left" else "right"
theorem way_ok (left : Bool) : wayS left = "left" ∨ wayS left = "right" := by cases left <;> simp [wayS]
theorem way_isL (left : Bool) : isL (wayS left) = left := by cases left <;> decide
noncomputable def sp_goals : Sp := fun vs H Q _ => ∃ (m : Addr) (M : List (Option Nat)) (n i j : Nat) (left : Bool), vs = [.ref m, .int i, .bl left] ∧ H m = some (.lst (M.map mV)) ∧ M.length = 3 * n ∧ n ≤ 40 ∧ M[i]? = some (some j) ∧ M[j]? = some (some i) ∧ i / 3 ≠ j / 3 ∧
 ∀ (l : Addr) (H' : Hp), Same H H' → H l = none → H' l = some (.lst (((List.range M.length).map fun (z : Nat) => mvI left i j (z : Int)).map V.int)) → Q (.ref l) H'
noncomputable def sqI (i j : Nat) : List Int := [after i, before i, after j, before j]
noncomputable def gst (left : Bool) (i j n k : Nat) : List Int := (List.range n).map fun (z : Nat) => if (z : Int) ∈ (sqI i j).take k then mvI left i j (z : Int) else (z : Int)
theorem gst_zero (left : Bool) (i j n : Nat) : gst left i j n 0 = (List.range n).map fun (z : Nat) => (z : Int) := by unfold gst; simp
theorem gst_all (left : Bool) (i j n : Nat) : gst left i j n 4 = (List.range n).map fun (z : Nat) => mvI left i j (z : Int) := by
 unfold gst
 apply List.map_congr_left
 intro z _
 by_cases c : (z : Int) ∈ (sqI i j).take 4
 ·rw [if_pos c]
 ·rw [if_neg c]
  have n1 : ¬ (z : Int) = after i := fun e => c (by unfold sqI; simp [e])
  have n2 : ¬ (z : Int) = before j := fun e => c (by unfold sqI; simp [e])
  have n3 : ¬ (z : Int) = after j := fun e => c (by unfold sqI; simp [e])
  have n4 : ¬ (z : Int) = before i := fun e => c (by unfold sqI; simp [e])
  unfold mvI
  rw [if_neg n1, if_neg n2, if_neg n3, if_neg n4]
theorem gst_step {left : Bool} {i j n k q : Nat} (h : (sqI i j)[k]? = some (q : Int)) (hq : q < n) : (gst left i j n k).set q (mvI left i j (q : Int)) = gst left i j n (k + 1) := by
 apply List.ext_getElem?
 intro z
 unfold gst
 by_cases c : z = q
 ·subst c
  rw [List.getElem?_set_self (by simpa using hq), List.getElem?_map, List.getElem?_range hq]
  have : (z : Int) ∈ (sqI i j).take (k + 1) := by rw [List.take_add_one, h]; simp
  simp only [Option.map_some, this, if_true]
 ·rw [List.getElem?_set_ne (Ne.symm c), List.getElem?_map, List.getElem?_map]
  by_cases d : z < n
  ·rw [List.getElem?_range d]
   have : (z : Int) ∈ (sqI i j).take (k + 1) ↔ (z : Int) ∈ (sqI i j).take k := by
    have c' : ¬ (z : Int) = (q : Int) := by omega
    rw [List.take_add_one, h]
    simp [c']
   simp only [Option.map_some, this]
  ·rw [List.getElem?_eq_none (by simpa using d)]
   rfl
theorem sq_mv {i j : Nat} (h : i / 3 ≠ j / 3) (left : Bool) {k : Nat} (hk : k < 4) : atI (sqr i j) ((if left then ((k : Int) + 3) % 4 else ((k : Int) + 1) % 4)) = some (V.int (mvI left i j ((sqI i j).getD k 0))) := by
 obtain ⟨h1, h2, h3, h4, h5, h6⟩ := four_apart h
 have hk : k = 0 ∨ k = 1 ∨ k = 2 ∨ k = 3 := by omega
 rcases hk with rfl | rfl | rfl | rfl <;> cases left <;> (unfold mvI sqI; simp [h1, h2, h3, h4, h5, h6, Ne.symm h1, Ne.symm h2, Ne.symm h3, Ne.symm h4, Ne.symm h5, Ne.symm h6]; rfl)
theorem sq_in {i j n k : Nat} (hi : i < 3 * n) (hj : j < 3 * n) (hk : k < 4) : ∃ q : Nat, (sqI i j)[k]? = some (q : Int) ∧ q < 3 * n := by
 obtain ⟨a1, _, a3⟩ := after_div i
 obtain ⟨b1, _, b3⟩ := before_div i
 obtain ⟨c1, _, c3⟩ := after_div j
 obtain ⟨d1, _, d3⟩ := before_div j
 have hk : k = 0 ∨ k = 1 ∨ k = 2 ∨ k = 3 := by omega
 rcases hk with rfl | rfl | rfl | rfl
 ·exact ⟨(after i).toNat, by show some (after i) = _; rw [Int.toNat_of_nonneg a3], by omega⟩
 ·exact ⟨(before i).toNat, by show some (before i) = _; rw [Int.toNat_of_nonneg b3], by omega⟩
 ·exact ⟨(after j).toNat, by show some (after j) = _; rw [Int.toNat_of_nonneg c3], by omega⟩
 ·exact ⟨(before j).toNat, by show some (before j) = _; rw [Int.toNat_of_nonneg d3], by omega⟩
theorem Wrong.free {EW ES ER EL : Addr} {M : List (Option Nat)} {ns : List Int} {x : Int} {left : Bool} {H : Hp} {E : XK} {G : Nat → Nat → Hp → Prop} {i j : Nat} (td : TD M ns) (hk : x ∈ keys ns ns.length) (hp : pl ns ns.length x = [i, j]) (ne : i / 3 ≠ j / 3) (g : ∀ H', Same H H' → G i j H') : Wrong EW ES ER EL M ns x (wayS left) H E G := by
 have es : sortOf ns x = "free" := by unfold sortOf; rw [hp]; exact if_neg ne
 refine ⟨fun c => absurd (way_ok left) c, fun _ c => absurd hk c, fun _ H' _ _ e => absurd (es.symm.trans e) t_fr, fun _ H' _ _ e => absurd (es.symm.trans e) t_fl, fun _ a b H' s e1 _ _ _ => ?_⟩
 rw [hp] at e1
 cases e1
 exact g H' s
section
variable {P : Program} {w : World} {K : PySem.W.Frag} {mg : Str → Option Value} {base : Heap} {t : Adr}
theorem sc_l_goals : FnScope ["_law_mates", "_law_place", "_law_left", "_law_around_here", "_law_goals_here", "_law_k"] ["_law_mates", "_law_place", "_law_left"] (defScope s_l_goals) := ⟨rfl, rfl, rfl, by decide +kernel, rfl, by decide +kernel, by decide +kernel⟩
theorem ok_l_goals (T : Txt w K mg t) : FnOk P w K mg base (CXr P w) 2 t.f_l_goals t.d_l_goals ["_law_mates", "_law_place", "_law_left"] sp_goals := by
 refine T.p_l_goals.F.okR sc_l_goals (fun vs H Q E h => ?_) (fun cdv A outer s H vs Q E hr h => ?_)
 ·obtain ⟨m, M, n, i, j, left, rfl, _⟩ := h
  rfl
 ·obtain ⟨m, M, n, i, j, left, rfl, hm, hn, hn40, hij, hji, ne, k⟩ := h
  refine ⟨_, (pss_cons (ps_set (i := 3) sc_l_goals.nd rfl (Or.inl rfl) (pe_call (ok_l_around T) (hr.mono (by decide)) rfl T.p_l_around.g T.p_l_around.F.kp T.p_l_around.b .nil passR (pa_cons (pv 0) (pa_cons (pv 1) pa_nil))))
   (pss_cons (ps_set (i := 4) sc_l_goals.nd rfl (Or.inl rfl) (pe_listRange rfl T.n_list rfl T.n_range rfl (pa_cons (pe_callB call_len_seq (by rfl) T.n_len PySem.boot_len (pa_cons (pv 0) pa_nil)) pa_nil)))
   (pss_cons (ps_for PassesOwn.never rfl (pi_range1 rfl T.n_range (pa_cons pe_int pa_nil)) (pg_name (i := 5) sc_l_goals.nd rfl (Or.inl rfl)) (pss_one (ps_if (pt_val (pv 2)) (pss_one (ps_asg (pe_ix ix_list (pv 3) (pe_op op_mod (pe_op op_add (pv 5) pe_int) pe_int) (fun _ _ => rfl)) (pg_sub (pv 4) (pe_ix ix_list (pv 3) (pv 5) (fun _ _ => rfl)) set_list))) (pss_one (ps_asg (pe_ix ix_list (pv 3) (pe_op op_mod (pe_op op_add (pv 5) pe_int) pe_int) (fun _ _ => rfl)) (pg_sub (pv 4) (pe_ix ix_list (pv 3) (pv 5) (fun _ _ => rfl)) set_list))))))
   (pss_one (ps_ret (pv 4)))))), ?_⟩
  have hi : i < 3 * n := by rw [← hn]; exact (List.getElem?_eq_some_iff.mp hij).1
  have hj : j < 3 * n := by rw [← hn]; exact (List.getElem?_eq_some_iff.mp hji).1
  refine ⟨_, rfl, _, rfl, m, M, i, j, rfl, hm, hij, fun ar H1 s1 har h1 => ?_⟩
  refine ⟨_, rfl, m, _, rfl, .inl (SqL.of (s1 _ _ hm)), M.length, by rw [List.length_map], by omega, fun g hg => ?_⟩
  have hag : ar ≠ g := ne_of_none h1 hg
  have hg0 : H g = none := s1.free hg
  dsimp only [gName]
  show tSeq (tFor _ _ _) _ _ _ _
  refine seq_post (fun σ H2 => ∃ v, σ = [some (.ref m), some (.int i), some (.bl left), some (.ref ar), some (.ref g), v] ∧ Same H H2 ∧ H2 g = some (.lst ((gst left i j (3 * n) 4).map V.int))) (fun nx hnx => ?_) ?_
  ·refine ⟨4, rfl, by decide, by decide, ?_⟩
   refine for_range (n := 4) (fun c σ H2 => ∃ v, σ = [some (.ref m), some (.int i), some (.bl left), some (.ref ar), some (.ref g), v] ∧ Same H H2 ∧ H2 ar = some (.lst (sqr i j)) ∧ H2 g = some (.lst ((gst left i j (3 * n) c).map V.int))) ⟨none, rfl, Same.add s1 hg0, by rw [upd_ne hag]; exact h1, ?_⟩ ?_ ?_
   ·rw [upd_same, gst_zero, List.map_map, hn]
    rfl
   ·rintro c σ H2 hc ⟨v, rfl, s2, h2, h3⟩
    obtain ⟨q, eq, hq⟩ := sq_in hi hj hc
    have e1 : atI (sqr i j) (0 + (c : Int)) = some (V.int q) := by
     rw [Int.zero_add]
     refine atI_nat ?_
     show ((sqI i j).map V.int)[c]? = _
     rw [List.getElem?_map, eq]; rfl
    have ed : (sqI i j).getD c 0 = (q : Int) := by rw [List.getD_eq_getElem?_getD, eq]; rfl
    have hlen : q < ((gst left i j (3 * n) c).map V.int).length := by rw [List.length_map]; unfold gst; simpa using hq
    have fin : ∀ H3 : Hp, Same H H3 → H3 ar = some (.lst (sqr i j)) → H3 g = some (.lst (((gst left i j (3 * n) c).map V.int).set q (V.int (mvI left i j (q : Int))))) → ∃ v, [some (V.ref m), some (.int i), some (.bl left), some (.ref ar), some (.ref g), some (.int (0 + c))] = [some (.ref m), some (.int i), some (.bl left), some (.ref ar), some (.ref g), v] ∧ Same H H3 ∧ H3 ar = some (.lst (sqr i j)) ∧ H3 g = some (.lst ((gst left i j (3 * n) (c + 1)).map V.int)) := fun H3 a1 a2 a3 =>
     ⟨_, rfl, a1, a2, by rw [a3, ← gst_step eq hq, List.map_set]⟩
    have m0 := sq_mv ne left hc
    rw [ed] at m0
    dsimp only [gName]
    refine ⟨_, rfl, _, rfl, ?_⟩
    cases left with
    | true =>
     refine iteT ⟨_, rfl, _, rfl, _, _, rfl, rfl, _, _, rfl, rfl, (by show (0 : Int) < 4; decide), ar, _, _, _, rfl, rfl, SqL.of h2, (by rw [Int.zero_add]; exact m0), ?_⟩
     refine ⟨_, rfl, _, rfl, _, rfl, ar, _, _, _, rfl, rfl, SqL.of h2, e1, g, _, _, q, rfl, rfl, h3, ixN_nat hlen, ?_⟩
     exact fin _ (Same.add s2 hg0) (by rw [upd_ne hag]; exact h2) upd_same
    | false =>
     refine iteF ⟨_, rfl, _, rfl, _, _, rfl, rfl, _, _, rfl, rfl, (by show (0 : Int) < 4; decide), ar, _, _, _, rfl, rfl, SqL.of h2, (by rw [Int.zero_add]; exact m0), ?_⟩
     refine ⟨_, rfl, _, rfl, _, rfl, ar, _, _, _, rfl, rfl, SqL.of h2, e1, g, _, _, q, rfl, rfl, h3, ixN_nat hlen, ?_⟩
     exact fin _ (Same.add s2 hg0) (by rw [upd_ne hag]; exact h2) upd_same
   ·rintro σ H2 ⟨v, rfl, s2, _, h3⟩
    exact hnx _ _ ⟨v, rfl, s2, h3⟩
  rintro σ H2 ⟨v, rfl, s2, h3⟩
  refine ⟨_, rfl, k g H2 s2 hg0 ?_⟩
  rw [h3, gst_all, hn]
end
end KT
set_option maxHeartbeats 4000000
namespace KT
open PySem L2
theorem flat_loop {K : PySem.W.Frag} {D N : Addr} {ns : List Int} {ts : List Addr} {n : Nat} {H2 : Hp} {R : St → Hp → Prop} (hD2 : H2 D = some (.lst (ts.map V.ref))) (ht2 : ∀ (k : Nat) (q : Addr), ts[k]? = some q → H2 q = some (.tup (row3 ns k))) (hnn : ns.length = 3 * n) (htn : ts.length = n) (n2 : n ≤ 40) (hN : H2 N = none)
  (hR : ∀ σ H3, Same H2 H3 → H3 N = some (.lst (ns.map V.int)) → R σ H3) : LoopR (Itl K D) (gName 0) tYes (tGen (iTup K (tVar 0)) (gName 1) tYes (tEmit (tVar 1) N)) R [none, none] (upd H2 N (.lst [])) := by
 refine loop_list (xs := ts.map V.ref) (fun i σ H3 => ∃ (v v' : Option V), σ = [v, v'] ∧ Same H2 H3 ∧ H3 N = some (.lst ((ns.take (3 * i)).map V.int))) ⟨none, none, rfl, Same.new hN, upd_same⟩ ?_ ?_ ?_
 ·rintro i σ H3 _ ⟨v, v', rfl, sm, h3⟩
  exact SqL.of (sm _ _ hD2)
 ·rintro i x σ H3 hx ⟨v, v', rfl, sm, h3⟩
  dsimp only [gName, tYes]
  rw [if_pos rfl]
  obtain ⟨tt, ht, rfl⟩ := map_some hx
  have hi : i < n := by rw [← htn]; exact (List.getElem?_eq_some_iff.mp ht).1
  refine ⟨_, rfl, tt, rfl, ⟨_, SqT.of (sm _ _ (ht2 i tt ht))⟩, ?_⟩
  refine loop_tup (xs := row3 ns i) (fun j σ H4 => ∃ (v' : Option V), σ = [some (.ref tt), v'] ∧ Same H2 H4 ∧ H4 N = some (.lst ((ns.take (3 * i)).map V.int ++ (row3 ns i).take j))) ⟨v', rfl, sm, by rw [h3, List.take_zero, List.append_nil]⟩ ?_ ?_ ?_
  ·rintro j σ H4 _ ⟨v', rfl, sm, h4⟩
   exact SqT.of (sm _ _ (ht2 i tt ht))
  ·rintro j x σ H4 hx ⟨v', rfl, sm, h4⟩
   dsimp only [gName, tYes]
   rw [if_pos rfl]
   refine ⟨_, rfl, _, h4, ?_, _, rfl, Same.add sm hN, ?_⟩
   ·rw [List.length_append, List.length_map, List.length_take, List.length_take]
    exact small1000 (by have : (row3 ns i).length = 3 := rfl; omega)
   ·rw [upd_same, List.take_add_one, hx, ← List.append_assoc]
    rfl
  ·rintro σ H4 ⟨v', rfl, sm, h4⟩
   refine ⟨_, _, rfl, sm, ?_⟩
   rw [h4, List.take_length, take_row hnn hi]
 rintro σ H3 ⟨v, v', rfl, sm3, h3⟩
 have eall : ns.take (3 * (ts.map V.ref).length) = ns := by rw [List.length_map, htn, ← hnn, List.take_length]
 rw [eall] at h3
 exact hR _ _ sm3 h3
theorem cut_row {ns : List Int} {i n : Nat} (hn : ns.length = 3 * n) (hi : i < n) : cutV (ns.map V.int) (some (0 + (i : Int) * 3)) (some (0 + (i : Int) * 3 + 3)) = row3 ns i := by
 have e0 : (0 + (i : Int) * 3) = ((3 * i : Nat) : Int) := by omega
 have e3 : (0 + (i : Int) * 3 + 3) = ((3 * i + 3 : Nat) : Int) := by omega
 have l0 : 3 * i < ns.length := by omega
 have l1 : 3 * i + 1 < ns.length := by omega
 have l2 : 3 * i + 2 < ns.length := by omega
 unfold cutV
 rw [e3, e0, HT.sIx_nat, HT.sIx_nat, List.length_map, Nat.min_eq_left (by omega), Nat.min_eq_left (by omega), show 3 * i + 3 - 3 * i = 3 by omega]
 have g : ∀ k, (hk : k < ns.length) → (ns.map V.int).drop k = V.int (ns.getD k 0) :: (ns.map V.int).drop (k + 1) := fun k hk => by
  rw [List.drop_eq_getElem_cons (by rw [List.length_map]; exact hk), List.getElem_map, List.getD_eq_getElem?_getD, List.getElem?_eq_getElem hk]
  rfl
 rw [g _ l0, g _ l1, g _ l2]
 rfl
noncomputable def sp_exchanged (C EW ES ER EL : Addr) : Sp := fun vs H Q E => ∃ (p : Addr) (M : List (Option Nat)) (ns : List Int) (x : Int) (way : Str), vs = [.ref p, .int x, .str way] ∧ TentAt C H p M ns ∧ TD M ns ∧
 Wrong EW ES ER EL M ns x way H E fun a b H' => ∀ p', H p' = none → TentAt C H' p' (exM (isL way) a b M) (exN (isL way) a b ns) → Q (.ref p') H'
section
variable {P : Program} {w : World} {K : PySem.W.Frag} {mg : Str → Option Value} {base : Heap} {t : Adr}
theorem sc_exchanged : FnScope ["tent", "seam", "way", "goals", "names", "place", "goal"] ["tent", "seam", "way"] (defScope s_exchanged) := ⟨rfl, rfl, rfl, by decide +kernel, rfl, by decide +kernel, by decide +kernel⟩
theorem ok_exchanged (T : Txt w K mg t) : FnOk P w K mg base (CXr P w) 6 t.f_exchanged t.d_exchanged ["tent", "seam", "way"] (sp_exchanged t.C_Tent t.E_NoWay t.E_NoSeam t.E_Rim t.E_Locked) := by
  refine T.p_exchanged.F.okX sc_exchanged (fun vs H Q E h => ?_) (fun cdv A outer s H vs Q E hr h => ?_)
  · obtain ⟨p, M, ns, x, way, rfl, _⟩ := h
    rfl
  · obtain ⟨p, M, ns, x, way, rfl, ta, td, W⟩ := h
    refine ⟨_, (pssx_cons (psx_set (i := 3) sc_exchanged.nd rfl (Or.inl rfl) (pex_call (ok_shifts T) (hr.mono (by decide)) rfl T.p_shifts.g T.p_shifts.F.kp T.p_shifts.b .nil (pa_cons (pv 0) (pa_cons (pv 1) (pa_cons (pv 2) pa_nil)))))
      (pssx_cons (psx_of (ps_set (i := 4) sc_exchanged.nd rfl (Or.inr rfl) (pe_compG (ts := ["row", "name"]) (fv := []) ⟨rfl, by decide +kernel, by decide +kernel, blkFree (by rfl), trivial⟩ rfl (pi_list (pe_meth0 (pv 0) T.cl_Tent T.p_Tent_rows.m (ok_Tent_rows T) (hr.mono (by decide)) T.p_Tent_rows.b .nil passR)) (fun _ _ _ _ => (pg_name (i := 0) (show List.Nodup (["row", "name"] : List Str) from by decide +kernel) rfl (Or.inl rfl) (Or.inr rfl))) (fun _ _ _ _ => pts_nil) (fun _ _ _ => rfl) (fun _ _ _ _ _ _ => pb_gen rfl rfl (pi_tupK K (pv 0)) (pg_name (i := 1) (show List.Nodup (["row", "name"] : List Str) from by decide +kernel) rfl (Or.inl rfl) (Or.inr rfl)) pts_nil (pv 1)))))
      (pssx_cons (psx_of (ps_for PassesOwn.never rfl (pi_items (pv 3) ⟨rfl, rfl, rfl⟩) (pg_tup rfl (pgs_cons (pg_name (i := 5) sc_exchanged.nd rfl (Or.inl rfl)) (pgs_cons (pg_name (i := 6) sc_exchanged.nd rfl (Or.inl rfl)) pgs_nil))) (pss_one (ps_asg (pe_meth (pv 0) T.cl_Tent T.p_Tent_seam_at.m (ok_Tent_seam_at T) (hr.mono (by decide)) T.p_Tent_seam_at.b .nil passR (pa_cons (pv 5) pa_nil)) (pg_sub (pv 4) (pv 6) set_list)))))
      (pssx_one (psx_of (ps_ret (pe_make T.mk_Tent (ok_Tent_init T) (hr.mono (by decide)) rfl T.gC_Tent T.p_Tent_init.b .nil passR (pa_cons (pe_compG (ts := ["k"]) (fv := [("names", 4)]) ⟨rfl, by decide +kernel, by decide +kernel, blkFree (by rfl), ⟨⟨rfl, rfl, Or.inl rfl⟩, trivial⟩⟩ rfl (pi_range3 rfl T.n_range (pa_cons pe_int (pa_cons (pe_callB call_len_seq (by rfl) T.n_len PySem.boot_len (pa_cons (pv 4) pa_nil)) (pa_cons pe_int pa_nil)))) (fun _ _ _ _ => (pg_name (i := 0) (show List.Nodup (["k", "names"] : List Str) from by decide +kernel) rfl (Or.inl rfl) (Or.inr rfl))) (fun _ _ _ _ => pts_nil) (fun _ _ _ => rfl) (fun _ _ _ _ _ _ => pb_emit (pe_callTy (call_tuple_ofK K) (by rfl) T.n_tuple PySem.Pv.boot_tuple (pa_cons (pe_slice (sl_listK K) (pv 1) (po_some (pv 0)) (po_some (pe_op op_add (pv 0) pe_int))) pa_nil)))) pa_nil)))))))), ?_⟩
    refine ⟨_, rfl, _, rfl, _, rfl, p, M, ns, x, way, rfl, ta, td, ⟨W.noway, W.seam, W.rim, W.lock, fun hw i j H1 s1 e1 e2 e3 e4 l hl hd1 => ?_⟩⟩
    have g := fun H' s' => W.go hw i j H' s' e1 e2 e3 e4
    generalize isL way = left at g hd1
    obtain ⟨n, n1, n40, hn⟩ := td.n
    have hMl := td.len
    have hnn : ns.length = 3 * n := by omega
    have hi : i < 3 * n := by rw [← hn]; exact (List.getElem?_eq_some_iff.mp e3).1
    have hj : j < 3 * n := by rw [← hn]; exact (List.getElem?_eq_some_iff.mp (td.inv i j e3).1).1
    have ta1 := ta.same s1
    obtain ⟨dx, cl, na, sp, mt, o, f, B⟩ := id ta1
    refine ⟨_, rfl, p, dx, _, rfl, B.ins, fl_none _ _ _ _, p, M, ns, rfl, ta1, fun l2 ts hl2 hlen h3 => ?_⟩
    have s2 : Same H1 (upd H1 l2 (.lst (ts.map V.ref))) := Same.new hl2
    refine ⟨l2, rfl, ⟨_, SqL.of upd_same⟩, fun N hN => ?_⟩
    refine flat_loop (n := n) upd_same (fun k q e => s2 _ _ (h3 k q e)) hnn (by omega) n40 hN fun σ3 H3 s3 h3' => ?_
    have s13 := s2.trans s3
    have hN0 : H N = none := (s1.trans s2).free hN
    have hd3 := s13 _ _ hd1
    have hNl : N ≠ l := fun z => by rw [z, hd3] at h3'; cases h3'
    clear h3 hlen
    dsimp only [gName]
    show tSeq (tFor _ _ _) _ _ _ _
    refine seq_post (fun σ H4 => ∃ v5 v6, σ = [some (.ref p), some (.int x), some (.str way), some (.ref l), some (.ref N), v5, v6] ∧ Same H H4 ∧ H4 N = some (.lst ((exN left i j ns).map V.int))) (fun nx hnx => ?_) ?_
    · refine ⟨_, rfl, l, _, rfl, .inl ⟨hd3, fun o => ?_⟩⟩
      refine for_items (fun k σ H4 => ∃ v5 v6, σ = [some (.ref p), some (.int x), some (.str way), some (.ref l), some (.ref N), v5, v6] ∧ Same H H4 ∧ H4 l = some (.frz o (.dK (glV left i j))) ∧ H4 N = some (.lst ((nst left i j ns k).map V.int)))
        ⟨_, _, rfl, Same.add (s1.trans s13) hl, upd_same, by rw [upd_ne hNl, nst_zero]; exact h3'⟩ ?_ ?_ ?_
      · rintro k σ H4 _ ⟨v5, v6, rfl, s4, h4, _⟩
        exact h4
      · rintro k key v σ H4 q hk hq ⟨v5, v6, rfl, s4, h4, h5⟩
        obtain ⟨z, hz, rfl, rfl⟩ : ∃ z, (fourL left i j)[k]? = some z ∧ key = Sum.inl z ∧ v = V.int (mvI left i j z) := by
          unfold glV at hk
          rw [List.getElem?_map] at hk
          cases e : (fourL left i j)[k]? with
          | none => rw [e] at hk; cases hk
          | some z => rw [e] at hk; cases hk; exact ⟨z, rfl, rfl, rfl⟩
        obtain ⟨z0, z1⟩ := four_in hi hj hz
        obtain ⟨c, rfl⟩ : ∃ c : Nat, z = c := ⟨z.toNat, by omega⟩
        have hc : c < ns.length := by omega
        have hq' : mvN left i j c < ns.length := by rw [hnn]; exact mvN_lt hi hj left (by omega)
        have s5 : Same H4 (upd H4 q (.tup [kV (Sum.inl (c : Int)), V.int (mvI left i j c)])) := Same.new hq
        have ta4 := (ta.same s4).same s5
        obtain ⟨dx4, cl4, na4, sp4, mt4, o4, ff4, B4⟩ := id ta4
        have hNq : N ≠ q := ne_of_none h5 hq
        have hlq : l ≠ q := ne_of_none h4 hq
        refine ⟨q, _, rfl, SqT.of upd_same, rfl, _, _, rfl, _, _, rfl, rfl, ?_⟩
        refine ⟨_, rfl, p, dx4, _, rfl, B4.ins, fl_none _ _ _ _, _, rfl, p, M, ns, c, rfl, ta4, fun i' y z1 z2 => ?_, fun z => absurd ⟨by omega, by omega⟩ z⟩
        obtain rfl : c = i' := by omega
        have ey : ns.getD c 0 = y := by rw [List.getD_eq_getElem?_getD, z2]; rfl
        have hlen : ((nst left i j ns k).map V.int).length = ns.length := by unfold nst; simp
        refine ⟨_, rfl, _, rfl, N, _, _, mvN left i j c, rfl, rfl, (by rw [upd_ne hNq]; exact h5), (by rw [hlen, ← mvN_eq]; exact ixN_nat hq'), ?_⟩
        refine ⟨_, _, rfl, Same.add (Same.add s4 (s4.free hq)) hN0, ?_, ?_⟩
        · rw [upd_ne (Ne.symm hNl), upd_ne hlq]; exact h4
        · rw [upd_same, ← nst_step e4 hz hq', ey, List.map_set]
      · rintro σ H4 ⟨v5, v6, rfl, s4, h4, h5⟩
        have e : (glV left i j).length = 4 := by unfold glV; rw [List.length_map, four_len]
        rw [e, nst_all e4] at h5
        exact hnx _ _ ⟨_, _, rfl, s4, h5⟩
    rintro σ H4 ⟨v5, v6, rfl, s4, h4⟩
    have tdx : TD (exM left i j M) (exN left i j ns) := td.ex (by omega) (by omega) e4 left
    have hxl : (exN left i j ns).length = 3 * n := by rw [exN_len]; exact hnn
    generalize exN left i j ns = ns' at h4 tdx hxl g ⊢
    refine ⟨_, rfl, N, _, rfl, .inl (SqL.of h4), n, (by rw [List.length_map, hxl]), by omega, fun D hD => ?_⟩
    have hND : N ≠ D := ne_of_none h4 hD
    refine loop_range3 (fun c σ H5 => ∃ v ts, σ = [v, some (.ref N)] ∧ Same H4 H5 ∧ H5 D = some (.lst (ts.map V.ref)) ∧ ts.length = c ∧ ∀ (k : Nat) (q : Addr), ts[k]? = some q → H5 q = some (.tup (row3 ns' k)))
      ⟨none, [], rfl, Same.new hD, upd_same, rfl, fun k q e => by simp at e⟩ ?_ ?_
    · rintro c σ H5 hc ⟨v, ts, rfl, s5, h5, hts, hrow⟩
      dsimp only [gName, tYes]
      rw [if_pos rfl]
      have h45 := s5 _ _ h4
      refine ⟨_, rfl, _, rfl, _, rfl, _, rfl, _, _, rfl, rfl, _, rfl, N, _, rfl, SqL.of h45, fun q hq => ?_⟩
      rw [cut_row hxl hc]
      refine ⟨q, _, rfl, .inl ⟨SqL.of upd_same, fun q2 hq2 => ?_⟩⟩
      obtain ⟨hqq, hq2'⟩ := upd_none hq2
      have hDq : D ≠ q := ne_of_none h5 hq
      have hDq2 : D ≠ q2 := ne_of_none h5 hq2'
      have s6 : Same H5 (upd (upd H5 q (.lst (row3 ns' c))) q2 (.tup (row3 ns' c))) := Same.add (Same.new hq) hq2'
      refine ⟨_, s6 _ _ h5, (by rw [List.length_map]; exact small1000 (by omega)), _, ts ++ [q2], rfl, Same.add (s5.trans s6) hD, ?_, ?_, ?_⟩
      · rw [upd_same]; simp
      · rw [List.length_append, List.length_singleton, hts]
      · intro k q3 z
        by_cases hk : k < ts.length
        · rw [List.getElem?_append_left hk] at z
          have g3 := s6 _ _ (hrow k q3 z)
          rw [upd_ne (fun e => by rw [e, s6 _ _ h5] at g3; cases g3)]
          exact g3
        · have hk2 : k = ts.length := by
            have := (List.getElem?_eq_some_iff.mp z).1
            rw [List.length_append, List.length_singleton] at this
            omega
          subst hk2
          have : q3 = q2 := by simpa using z.symm
          subst this
          rw [upd_ne (Ne.symm hDq2), upd_same, hts]
    rintro σ H5 ⟨v, ts, rfl, s5, h5, hts, hrow⟩
    intro y dy hy hdy hne
    have s6 : Same H5 (upd (upd H5 dy (.own y)) y (.ins t.C_Tent dy [])) := Same.add (Same.new hdy) hy
    refine ⟨y, D, dy, _, ns', rfl, upd_same, ⟨ts, s6 _ _ h5, by omega, fun k q e => s6 _ _ (hrow k q e)⟩, tdx, by omega, fun H7 old ta7 => ⟨rfl, ?_⟩⟩
    have s57 : Same H5 H7 := fun b u e => old b u (ne_of_none e hy) (s6 b u e)
    have s07 := (s4.trans s5).trans s57
    exact g H7 s07 y ((s4.trans s5).free hy) ta7
noncomputable def sp_shift : Sp := fun vs H Q _ => ∃ (m r g : Addr) (M : List (Option Nat)) (ns : List Int) (i j : Nat) (left : Bool), vs = [.ref m, .ref r, .ref g] ∧ H m = some (.lst (M.map mV)) ∧ RowsAt H r ns ∧ H g = some (.lst (((List.range M.length).map fun (z : Nat) => mvI left i j (z : Int)).map V.int)) ∧ TD M ns ∧ i < M.length ∧ j < M.length ∧ i / 3 ≠ j / 3 ∧
 ∀ (p m' r' : Addr) (H' : Hp), Same H H' → H' p = some (.tup [.ref m', .ref r']) → H' m' = some (.lst ((exM left i j M).map mV)) → RowsAt H' r' (exN left i j ns) → Q (.ref p) H'
theorem sc_l_shift : FnScope ["_law_mates", "_law_rows_here", "_law_goals_here", "_law_names", "_law_ties", "_law_p"] ["_law_mates", "_law_rows_here", "_law_goals_here"] (defScope s_l_shift) := ⟨rfl, rfl, rfl, by decide +kernel, rfl, by decide +kernel, by decide +kernel⟩
theorem ok_l_shift (T : Txt w K mg t) : FnOk P w K mg base (CXr P w) 1 t.f_l_shift t.d_l_shift ["_law_mates", "_law_rows_here", "_law_goals_here"] sp_shift := by
 refine T.p_l_shift.F.okR sc_l_shift (fun vs H Q E h => ?_) (fun cdv A outer s H vs Q E hr h => ?_)
 ·obtain ⟨m, r, g, M, ns, i, j, left, rfl, _⟩ := h
  rfl
 ·obtain ⟨m, r, g, M, ns, i, j, left, rfl, hm, hrw, hg, td, hi, hj, ne, k⟩ := h
  refine ⟨_, (pss_cons (ps_set (i := 3) sc_l_shift.nd rfl (Or.inr rfl) (pe_op op_rep (pe_lst (pa_cons pe_int pa_nil)) (pe_callB call_len_seq (by rfl) T.n_len PySem.boot_len (pa_cons (pv 0) pa_nil))))
   (pss_cons (ps_set (i := 4) sc_l_shift.nd rfl (Or.inl rfl) (pe_op op_rep (pe_lst (pa_cons pe_non pa_nil)) (pe_callB call_len_seq (by rfl) T.n_len PySem.boot_len (pa_cons (pv 0) pa_nil))))
   (pss_cons (ps_for PassesOwn.never rfl (pi_range1 rfl T.n_range (pa_cons (pe_callB call_len_seq (by rfl) T.n_len PySem.boot_len (pa_cons (pv 0) pa_nil)) pa_nil)) (pg_name (i := 5) sc_l_shift.nd rfl (Or.inl rfl)) (pss_cons (ps_asg (pe_ix ix_tup (pe_ix ix_list (pv 1) (pe_op op_fdiv (pv 5) pe_int) (fun _ _ => rfl)) (pe_op op_mod (pv 5) pe_int) (fun _ _ => rfl)) (pg_sub (pv 3) (pe_ix ix_list (pv 2) (pv 5) (fun _ _ => rfl)) set_list))
   (pss_one (ps_if (pt_cmpR op_notN (pe_ix ix_list (pv 0) (pv 5) (fun _ _ => rfl)) pe_non (nomark _)) (pss_one (ps_asg (pe_ix ix_list (pv 2) (pe_ix ix_list (pv 0) (pv 5) (fun _ _ => rfl)) (fun _ _ => rfl)) (pg_sub (pv 4) (pe_ix ix_list (pv 2) (pv 5) (fun _ _ => rfl)) set_list))) pss_nil))))
   (pss_one (ps_ret (pe_tup (pa_cons (pv 4) (pa_cons (pe_compG (ts := ["_law_k"]) (fv := [("_law_names", 3)]) ⟨rfl, by decide +kernel, by decide +kernel, blkFree (by rfl), ⟨⟨rfl, rfl, Or.inl rfl⟩, trivial⟩⟩ rfl (pi_range1 rfl T.n_range (pa_cons (pe_callB call_len_seq (by rfl) T.n_len PySem.boot_len (pa_cons (pv 1) pa_nil)) pa_nil)) (fun _ _ _ _ => (pg_name (i := 0) (show List.Nodup (["_law_k", "_law_names"] : List Str) from by decide +kernel) rfl (Or.inl rfl) (Or.inr rfl))) (fun _ _ _ _ => pts_nil) (fun _ _ _ => rfl) (fun _ _ _ _ _ _ => pb_emit (pe_tup (pa_cons (pe_ix (ix_listK K) (pv 1) (pe_op op_mul pe_int (pv 0)) (fun _ _ => rfl)) (pa_cons (pe_ix (ix_listK K) (pv 1) (pe_op op_add (pe_op op_mul pe_int (pv 0)) pe_int) (fun _ _ => rfl)) (pa_cons (pe_ix (ix_listK K) (pv 1) (pe_op op_add (pe_op op_mul pe_int (pv 0)) pe_int) (fun _ _ => rfl)) pa_nil)))))) pa_nil)))))))), ?_⟩
  obtain ⟨n, n1, n40, hn⟩ := td.n
  have hMl := td.len
  have hi3 : i < 3 * n := by omega
  have hj3 : j < 3 * n := by omega
  have eT : (((M.map mV).length : Nat) : Int).toNat = 3 * n := by rw [List.length_map, hn]; omega
  have rp : ∀ v : V, 1 * (((M.map mV).length : Nat) : Int).toNat ≤ sizeLine := fun v => by rw [eT, sizeLine_eq]; omega
  have gp : ∀ c, c < M.length → ((List.range M.length).map fun (z : Nat) => mvI left i j (z : Int))[c]? = some ((mvN left i j c : Nat) : Int) := fun c hc => by rw [List.getElem?_map, List.getElem?_range hc, mvN_eq]; rfl
  refine seq_cut fun nxC hnxC => ?_
  refine ⟨(by show 1 ≤ sizeLine; decide), fun q hq => ?_⟩
  have s1 : Same H (upd H q (.lst [.int 0])) := Same.new hq
  refine ⟨_, rfl, m, _, rfl, .inl (SqL.of (s1 _ _ hm)), q, _, _, rfl, rfl, upd_same, by omega, by rw [List.length_map]; omega, rp (.int 0), fun N hN => ?_⟩
  have eN : (List.replicate (((M.map mV).length : Nat) : Int).toNat [V.int 0]).flatten = (mfil left i j (3 * n) (fun z => ns.getD (mvN (!left) i j z) 0) 0 0).map V.int := by
   rw [eT, List.flatten_replicate_singleton, mfil_zero, List.map_replicate]
  rw [eN]
  have s2 := s1.trans (Same.new (o := .lst ((mfil left i j (3 * n) (fun z => ns.getD (mvN (!left) i j z) 0) 0 0).map V.int)) hN)
  have hN0 : H N = none := s1.free hN
  have hN2 : (upd (upd H q (.lst [.int 0])) N (.lst ((mfil left i j (3 * n) (fun z => ns.getD (mvN (!left) i j z) 0) 0 0).map V.int))) N = some (.lst ((mfil left i j (3 * n) (fun z => ns.getD (mvN (!left) i j z) 0) 0 0).map V.int)) := upd_same
  generalize upd (upd H q (.lst [.int 0])) N (.lst ((mfil left i j (3 * n) (fun z => ns.getD (mvN (!left) i j z) 0) 0 0).map V.int)) = H2 at s2 hN2 ⊢
  refine hnxC _ _ ?_
  refine seq_cut fun nxC hnxC => ?_
  refine ⟨(by show 1 ≤ sizeLine; decide), fun q2 hq2 => ?_⟩
  have s3 : Same H2 (upd H2 q2 (.lst [.non])) := Same.new hq2
  refine ⟨_, rfl, m, _, rfl, .inl (SqL.of (s3 _ _ (s2 _ _ hm))), q2, _, _, rfl, rfl, upd_same, by omega, by rw [List.length_map]; omega, rp .non, fun TT hT => ?_⟩
  have eTT : (List.replicate (((M.map mV).length : Nat) : Int).toNat [V.non]).flatten = (mfil left i j (3 * n) (fun z => (M.getD (mvN (!left) i j z) none).map (mvN left i j)) none 0).map mV := by
   rw [eT, List.flatten_replicate_singleton, mfil_zero, List.map_replicate]
   rfl
  rw [eTT]
  have s4 := s3.trans (Same.new (o := .lst ((mfil left i j (3 * n) (fun z => (M.getD (mvN (!left) i j z) none).map (mvN left i j)) none 0).map mV)) hT)
  have hT2 : (upd (upd H2 q2 (.lst [.non])) TT (.lst ((mfil left i j (3 * n) (fun z => (M.getD (mvN (!left) i j z) none).map (mvN left i j)) none 0).map mV))) TT = some (.lst ((mfil left i j (3 * n) (fun z => (M.getD (mvN (!left) i j z) none).map (mvN left i j)) none 0).map mV)) := upd_same
  generalize upd (upd H2 q2 (.lst [.non])) TT (.lst ((mfil left i j (3 * n) (fun z => (M.getD (mvN (!left) i j z) none).map (mvN left i j)) none 0).map mV)) = H4 at s4 hT2 ⊢
  refine hnxC _ _ ?_
  have hTN : TT ≠ N := fun z => by
   have := s3.free hT
   rw [z, hN2] at this; cases this
  have hT0 : H TT = none := s2.free (s3.free hT)
  have hN4 := s4 _ _ hN2
  have s04 := s2.trans s4
  dsimp only [gName]
  show tSeq (tFor _ _ _) _ _ _ _
  refine seq_post (fun σ H5 => ∃ v, σ = [some (.ref m), some (.ref r), some (.ref g), some (.ref N), some (.ref TT), v] ∧ Same H H5 ∧ H5 N = some (.lst ((exN left i j ns).map V.int)) ∧ H5 TT = some (.lst ((exM left i j M).map mV))) (fun nx hnx => ?_) ?_
  ·refine ⟨_, rfl, m, _, rfl, .inl (SqL.of (s04 _ _ hm)), _, rfl, by omega, by rw [List.length_map]; omega, ?_⟩
   have eL : (((M.map mV).length : Nat) : Int).toNat = M.length := by simp
   rw [eL]
   refine for_range (n := M.length) (fun c σ H5 => ∃ v, σ = [some (.ref m), some (.ref r), some (.ref g), some (.ref N), some (.ref TT), v] ∧ Same H H5 ∧ H5 N = some (.lst ((mfil left i j (3 * n) (fun z => ns.getD (mvN (!left) i j z) 0) 0 c).map V.int)) ∧ H5 TT = some (.lst ((mfil left i j (3 * n) (fun z => (M.getD (mvN (!left) i j z) none).map (mvN left i j)) none c).map mV))) ⟨none, rfl, s04, hN4, hT2⟩ ?_ ?_
   ·rintro c σ H5 hc ⟨v, rfl, s5, h5, h6⟩
    dsimp only [gName]
    rw [Int.zero_add]
    have hcn : c < ns.length := by omega
    obtain ⟨y, hy⟩ : ∃ y, ns[c]? = some y := ⟨_, List.getElem?_eq_getElem hcn⟩
    have ey : ns.getD c 0 = y := by rw [List.getD_eq_getElem?_getD, hy]; rfl
    obtain ⟨ts', q, e1, e2, e3, e4⟩ := row_at (hrw.same s5) hy
    have hmc : mvN left i j c < 3 * n := mvN_lt hi3 hj3 left (by omega)
    refine ⟨_, rfl, _, rfl, _, _, rfl, rfl, ⟨by decide, by decide⟩, r, _, _, _, rfl, rfl, SqL.of e1, (by rw [div3]; exact map_at e2), _, rfl, _, _, rfl, rfl, (by show (0 : Int) < 3; decide), q, _, _, _, rfl, rfl, SqT.of e3, (by rw [mod3]; exact atI_nat e4), ?_⟩
    refine ⟨_, rfl, _, rfl, _, rfl, g, _, _, _, rfl, rfl, SqL.of (s5 _ _ hg), map_at (gp c hc), N, _, _, mvN left i j c, rfl, rfl, h5, (by rw [List.length_map, mfil_len]; exact ixN_nat hmc), ?_⟩
    have eN' : ((mfil left i j (3 * n) (fun z => ns.getD (mvN (!left) i j z) 0) 0 c).map V.int).set (mvN left i j c) (V.int y) = (mfil left i j (3 * n) (fun z => ns.getD (mvN (!left) i j z) 0) 0 (c + 1)).map V.int := by
     rw [← mfil_step ne hmc, List.map_set, mvN_inv ne, ey]
    rw [eN']
    have s6 : Same H (upd H5 N (.lst ((mfil left i j (3 * n) (fun z => ns.getD (mvN (!left) i j z) 0) 0 (c + 1)).map V.int))) := Same.add s5 hN0
    have h7 : (upd H5 N (.lst ((mfil left i j (3 * n) (fun z => ns.getD (mvN (!left) i j z) 0) 0 (c + 1)).map V.int))) TT = _ := (upd_ne hTN).trans h6
    have h8 : (upd H5 N (.lst ((mfil left i j (3 * n) (fun z => ns.getD (mvN (!left) i j z) 0) 0 (c + 1)).map V.int))) N = some (.lst ((mfil left i j (3 * n) (fun z => ns.getD (mvN (!left) i j z) 0) 0 (c + 1)).map V.int)) := upd_same
    generalize upd H5 N (.lst ((mfil left i j (3 * n) (fun z => ns.getD (mvN (!left) i j z) 0) 0 (c + 1)).map V.int)) = H6 at s6 h7 h8 ⊢
    obtain ⟨mc, hmcE⟩ : ∃ mc, M[c]? = some mc := ⟨_, List.getElem?_eq_getElem hc⟩
    have eMc : M.getD c none = mc := by rw [List.getD_eq_getElem?_getD, hmcE]; rfl
    refine ⟨_, rfl, _, rfl, m, _, _, _, rfl, rfl, SqL.of (s6 _ _ hm), map_at hmcE, rfl, _, rfl, ?_⟩
    cases mc with
    | none =>
     refine iteF ⟨_, rfl, s6, h8, ?_⟩
     rw [h7, mfil_skip ne (by rw [mvN_inv ne, eMc]; rfl)]
    | some b =>
     have hb : b < M.length := (List.getElem?_eq_some_iff.mp (td.inv c b hmcE).1).1
     refine iteT ⟨_, rfl, _, rfl, _, rfl, m, _, _, _, rfl, rfl, SqL.of (s6 _ _ hm), map_at hmcE, g, _, _, _, rfl, rfl, SqL.of (s6 _ _ hg), map_at (gp b hb), ?_⟩
     refine ⟨_, rfl, _, rfl, _, rfl, g, _, _, _, rfl, rfl, SqL.of (s6 _ _ hg), map_at (gp c hc), TT, _, _, mvN left i j c, rfl, rfl, h7, (by rw [List.length_map, mfil_len]; exact ixN_nat hmc), ?_⟩
     refine ⟨_, rfl, Same.add s6 hT0, by rw [upd_ne (Ne.symm hTN)]; exact h8, ?_⟩
     rw [upd_same, ← mfil_step ne hmc, List.map_set, mvN_inv ne, eMc]
     rfl
   ·rintro σ H5 ⟨v, rfl, s5, h5, h6⟩
    rw [hn, mfil_all hi3 hj3] at h5 h6
    refine hnx _ _ ⟨_, rfl, s5, ?_, ?_⟩
    ·rw [h5]; unfold exN; rw [hMl, hn]
    ·rw [h6]; unfold exM; rw [hn]
  rintro σ H5 ⟨v, rfl, s5, h5, h6⟩
  have hxl : (exN left i j ns).length = 3 * n := by rw [exN_len]; omega
  generalize exN left i j ns = F at h5 hxl k ⊢
  obtain ⟨ts0, w1, w2, w3⟩ := hrw.same s5
  have ets : ts0.length = n := by omega
  refine ⟨_, rfl, _, rfl, r, _, rfl, .inl (SqL.of w1), _, rfl, by omega, by rw [List.length_map]; omega, fun D hD => ?_⟩
  have eD : (((ts0.map V.ref).length : Nat) : Int).toNat = n := by rw [List.length_map]; omega
  rw [eD]
  have hND : N ≠ D := ne_of_none h5 hD
  have hTD : TT ≠ D := ne_of_none h6 hD
  refine loop_range (fun c σ H6 => ∃ (ts : List Addr) (v : Option V), σ = [v, some (.ref N)] ∧ Same H5 H6 ∧ H6 D = some (.lst (ts.map V.ref)) ∧ ts.length = c ∧ ∀ (k : Nat) (t : Addr), ts[k]? = some t → H6 t = some (.tup (row3 F k)))
   ⟨[], none, rfl, Same.new hD, upd_same, rfl, fun k t z => by simp at z⟩ ?_ ?_
  ·rintro c σ H6 hlt ⟨ts, v, rfl, s6, g1, hl2, g3⟩
   have g2 := s6 _ _ h5
   have at' : ∀ (e : Nat) (z : Int), e < 3 → z = 3 * (0 + (c : Int)) + e → atI (F.map V.int) z = some (V.int (F.getD (3 * c + e) 0)) := fun e z he hz => by
    have e : z = ((3 * c + e : Nat) : Int) := by omega
    rw [e]
    exact atI_nat (getI (by omega))
   dsimp only [gName, tYes]
   rw [if_pos rfl]
   refine ⟨_, rfl, _, rfl, _, _, rfl, rfl, .inl ⟨by decide, by decide⟩, N, _, _, _, rfl, rfl, SqL.of g2, at' 0 _ (by decide) (by simp), ?_⟩
   refine ⟨_, rfl, _, rfl, _, _, rfl, rfl, .inl ⟨by decide, by decide⟩, _, _, rfl, rfl, N, _, _, _, rfl, rfl, SqL.of g2, at' 1 _ (by decide) rfl, ?_⟩
   refine ⟨_, rfl, _, rfl, _, _, rfl, rfl, .inl ⟨by decide, by decide⟩, _, _, rfl, rfl, N, _, _, _, rfl, rfl, SqL.of g2, at' 2 _ (by decide) rfl, ?_⟩
   refine ⟨(by show 3 ≤ sizeLine; decide), fun q hq => ?_⟩
   have hqD : q ≠ D := fun z => by rw [z, g1] at hq; cases hq
   have s7 : Same H6 (upd H6 q (.tup (row3 F c))) := Same.new hq
   refine ⟨_, s7 _ _ g1, (by rw [List.length_map]; exact small1000 (by omega)), ts ++ [q], _, rfl, Same.add (s6.trans s7) hD, ?_, ?_, ?_⟩
   ·rw [upd_same]; simp
   ·rw [List.length_append, List.length_singleton, hl2]
   ·intro k t z
    by_cases hk : k < ts.length
    ·rw [List.getElem?_append_left hk] at z
     have g := s7 _ _ (g3 k t z)
     rw [upd_ne (fun e => by rw [e, s7 _ _ g1] at g; cases g)]
     exact g
    ·have hk2 : k = ts.length := by
      have := (List.getElem?_eq_some_iff.mp z).1
      rw [List.length_append, List.length_singleton] at this
      omega
     subst hk2
     have : t = q := by simpa using z.symm
     subst this
     rw [upd_ne hqD, upd_same, hl2]
     rfl
  ·rintro σ H6 ⟨ts, v, rfl, s6, g1, hl2, g3⟩
   refine ⟨(by show 2 ≤ sizeLine; decide), fun p5 hp5 => ?_⟩
   have s7 := Same.new (o := .tup [V.ref TT, V.ref D]) hp5
   refine k p5 TT D _ ((s5.trans s6).trans s7) upd_same (s7 _ _ (s6 _ _ h6)) ⟨ts, s7 _ _ g1, by omega, fun k t z => s7 _ _ (g3 k t z)⟩
end
end KT
set_option maxHeartbeats 4000000
namespace KT
open PySem L2
theorem cut_tail (x0 : Int) (xr : List Int) : cutV ((x0 :: xr).map V.int) (some 1) none = xr.map V.int := by
 unfold cutV
 have e1 : HT.sIx ((x0 :: xr).map V.int).length 0 (some ((1 : Nat) : Int)) = 1 := by
  rw [HT.sIx_nat, List.length_map, List.length_cons]
  omega
 rw [show (some (1 : Int)) = some ((1 : Nat) : Int) from rfl, e1, HT.sIx_none, List.map_cons, List.drop_succ_cons, List.drop_zero, List.length_cons, Nat.add_sub_cancel, List.take_length]
theorem flt_step {α : Type} {p : α → Bool} {l : List α} {i : Nat} {x : α} (h : l[i]? = some x) : (l.take (i + 1)).filter p = if p x = true then (l.take i).filter p ++ [x] else (l.take i).filter p := by
 rw [List.take_add_one, h, List.filter_append]
 by_cases c : p x = true
 ·simp [c]
 ·simp [c]
noncomputable def sp_walk : Sp := fun vs H Q _ => ∃ (m a : Addr) (M : List (Option Nat)) (xs : List Int), vs = [.ref m, .ref a] ∧ H m = some (.lst (M.map mV)) ∧ H a = some (.lst (xs.map V.int)) ∧ xs ≠ [] ∧ xs.length ≤ 60 ∧ (∀ x ∈ xs, 0 ≤ x ∧ x < 1009) ∧ M.length ≤ 42 ∧ (∃ n, M.length = 3 * n) ∧ (∀ (i j : Nat), M[i]? = some (some j) → M[j]? = some (some i) ∧ i ≠ j) ∧
 ∀ (l : Addr) (ws : List Nat) (H' : Hp), Same H H' → H l = none → H' l = some (.lst (ws.map nV)) → ws.length ≤ 60 → (ws = [] ∨ Pl M ws) → Q (.ref l) H'
noncomputable def sp_thread (K : PySem.W.Frag) : Sp := fun vs H Q _ => ∃ (a m : Addr) (sc : List Int) (i : Int) (M : List (Option Nat)), vs = [.ref a, .int i, .ref m] ∧ SqL K H a (sc.map V.int) ∧ sc.length ≤ 63 ∧ 0 ≤ i ∧ i < 1000 ∧ H m = some (.lst (M.map mV)) ∧ M.length ≤ 42 ∧ (∃ n, M.length = 3 * n) ∧ (∀ (i j : Nat), M[i]? = some (some j) → M[j]? = some (some i) ∧ i ≠ j) ∧
 ∀ (l : Addr) (ws : List Nat) (H' : Hp), Same H H' → H l = none → H' l = some (.lst (ws.map nV)) → ws.length ≤ 60 → (ws = [] ∨ Pl M ws) → Q (.ref l) H'
noncomputable def hasM (M : List (Option Nat)) (i : Nat) : Bool := match M[i]? with
 | some (some _) => true
 | _ => false
theorem hasM_iff {M : List (Option Nat)} {i : Nat} : hasM M i = true ↔ ∃ j, M[i]? = some (some j) := by
 unfold hasM
 split
 ·rename_i j h; exact ⟨fun _ => ⟨j, h⟩, fun _ => rfl⟩
 ·rename_i h; exact ⟨fun z => absurd z (by decide), fun ⟨j, e⟩ => absurd e (h j)⟩
section
variable {P : Program} {w : World} {K : PySem.W.Frag} {mg : Str → Option Value} {base : Heap} {t : Adr}
theorem sc_l_walk : FnScope ["_law_mates", "_law_nums", "_law_spots", "_law_row", "_law_pick", "_law_side", "_law_ways", "_law_start", "_law_stop"] ["_law_mates", "_law_nums"] (defScope s_l_walk) := ⟨rfl, rfl, rfl, by decide +kernel, rfl, by decide +kernel, by decide +kernel⟩
theorem ok_l_walk (T : Txt w K mg t) : FnOk P w K mg base (CXr P w) 1 t.f_l_walk t.d_l_walk ["_law_mates", "_law_nums"] sp_walk := by
  refine T.p_l_walk.F.okR sc_l_walk (fun vs H Q E h => ?_) (fun cdv A outer s H vs Q E hr h => ?_)
  · obtain ⟨m, a, M, xs, rfl, _⟩ := h
    rfl
  · obtain ⟨m, a, M, xs, rfl, hm, ha, hx0, hx60, hx, h42, ⟨n, hn⟩, inv, k⟩ := h
    refine ⟨_, (pss_cons (ps_setCompG (ts := ["_law_p"]) (fv := [("_law_mates", 0)]) (i := 2) ⟨rfl, by decide +kernel, by decide +kernel, blkFree (by rfl), ⟨⟨rfl, rfl, Or.inl rfl⟩, trivial⟩⟩ rfl sc_l_walk.nd rfl rfl (by rfl) (pi_range1 rfl T.n_range (pa_cons (pe_callB call_len_seq (by rfl) T.n_len PySem.boot_len (pa_cons (pv 0) pa_nil)) pa_nil)) (fun _ _ _ _ => (pg_name (i := 0) (show List.Nodup (["_law_p", "_law_mates"] : List Str) from by decide +kernel) rfl (Or.inl rfl) (Or.inr rfl))) (fun _ _ _ _ => (pts_one (pt_cmpR op_notN (pe_ix (ix_listK K) (pv 1) (pv 0) (fun _ _ => rfl)) pe_non (nomark _)))) (fun _ _ _ => rfl) (fun _ _ _ _ _ _ => pb_emit (pv 0)))
      (pss_cons (ps_if (pt_cmpR op_eq (pe_callB call_len_seq (by rfl) T.n_len PySem.boot_len (pa_cons (pv 2) pa_nil)) pe_int (nomark _)) (pss_one (ps_ret (pe_lst pa_nil))) pss_nil)
      (pss_cons (ps_set (i := 3) sc_l_walk.nd rfl (Or.inl rfl) (pe_lst (pa_cons (pe_ix ix_list (pv 2) (pe_op op_mod (pe_ix ix_list (pv 1) pe_int (fun _ _ => rfl)) (pe_callB call_len_seq (by rfl) T.n_len PySem.boot_len (pa_cons (pv 2) pa_nil))) (fun _ _ => rfl)) pa_nil)))
      (pss_cons (ps_for PassesOwn.never rfl (pi_list (pe_slice sl_list (pv 1) (po_some pe_int) po_none)) (pg_name (i := 4) sc_l_walk.nd rfl (Or.inl rfl)) (pss_cons (ps_set (i := 5) sc_l_walk.nd rfl (Or.inr rfl) (pe_ix ix_list (pv 0) (pe_ix ix_list (pv 3) (pe_un un_neg pe_int) (fun _ _ => rfl)) (fun _ _ => rfl)))
      (pss_cons (ps_setCompG (ts := ["_law_k"]) (fv := [("_law_side", 5)]) (i := 6) ⟨rfl, by decide +kernel, by decide +kernel, blkFree (by rfl), ⟨⟨rfl, rfl, Or.inl rfl⟩, trivial⟩⟩ rfl sc_l_walk.nd rfl rfl (by rfl) (pi_range1 rfl T.n_range (pa_cons pe_int pa_nil)) (fun _ _ _ _ => (pg_name (i := 0) (show List.Nodup (["_law_k", "_law_side"] : List Str) from by decide +kernel) rfl (Or.inl rfl) (Or.inr rfl))) (fun _ _ _ _ => pts_nil) (fun _ _ _ => rfl) (fun _ _ _ _ _ _ => pb_emit (pe_op op_add (pe_op op_sub (pv 1) (pe_op op_mod (pv 1) pe_int)) (pe_op op_mod (pe_op op_add (pe_op op_add (pv 1) pe_int) (pv 0)) pe_int))))
      (pss_cons (ps_setCompG (ts := ["_law_p"]) (fv := [("_law_mates", 0)]) (i := 6) ⟨rfl, by decide +kernel, by decide +kernel, blkFree (by rfl), ⟨⟨rfl, rfl, Or.inl rfl⟩, trivial⟩⟩ rfl sc_l_walk.nd rfl rfl (by rfl) (pi_list (pv 6)) (fun _ _ _ _ => (pg_name (i := 0) (show List.Nodup (["_law_p", "_law_mates"] : List Str) from by decide +kernel) rfl (Or.inl rfl) (Or.inr rfl))) (fun _ _ _ _ => (pts_one (pt_cmpR op_notN (pe_ix (ix_listK K) (pv 1) (pv 0) (fun _ _ => rfl)) pe_non (nomark _)))) (fun _ _ _ => rfl) (fun _ _ _ _ _ _ => pb_emit (pv 0)))
      (pss_cons (ps_if (pt_cmpR op_eq (pe_callB call_len_seq (by rfl) T.n_len PySem.boot_len (pa_cons (pv 6) pa_nil)) pe_int (nomark _)) (pss_one ps_break) pss_nil)
      (pss_one (ps_expr (pe_bm PySem.F.plainAttrs_list PySem.F.slot_list_append PySem.F.type_list_append mt_append (pv 3) (pa_cons (pe_ix ix_list (pv 6) (pe_op op_mod (pv 4) (pe_callB call_len_seq (by rfl) T.n_len PySem.boot_len (pa_cons (pv 6) pa_nil))) (fun _ _ => rfl)) pa_nil)))))))))
      (pss_cons (ps_for PassesOwn.never rfl (pi_range1 rfl T.n_range (pa_cons (pe_callB call_len_seq (by rfl) T.n_len PySem.boot_len (pa_cons (pv 3) pa_nil)) pa_nil)) (pg_name (i := 7) sc_l_walk.nd rfl (Or.inl rfl)) (pss_one (ps_for PassesOwn.never rfl (pi_revR rfl T.n_reversed rfl T.n_range (pa_cons (pe_op op_add (pv 7) pe_int) (pa_cons (pe_callB call_len_seq (by rfl) T.n_len PySem.boot_len (pa_cons (pv 3) pa_nil)) pa_nil))) (pg_name (i := 8) sc_l_walk.nd rfl (Or.inl rfl)) (pss_one (ps_if (pt_cmpR op_eq (pe_ix ix_list (pv 3) (pv 7) (fun _ _ => rfl)) (pe_ix ix_list (pv 3) (pv 8) (fun _ _ => rfl)) (nomark _)) (pss_one (ps_ret (pe_slice sl_list (pv 3) (po_some (pv 7)) (po_some (pv 8))))) pss_nil)))))
      (pss_one (ps_ret (pe_lst pa_nil)))))))), ?_⟩
    refine seq_cut fun nxC hnxC => ?_
    refine ⟨_, rfl, m, _, rfl, .inl (SqL.of hm), _, rfl, by omega, by rw [List.length_map]; omega, fun D hD => ?_⟩
    have eL : (((M.map mV).length : Nat) : Int).toNat = M.length := by simp
    rw [eL]
    refine loop_range (fun i σ H1 => ∃ v, σ = [v, some (.ref m)] ∧ Same H H1 ∧ H1 D = some (.lst (((List.range i).filter (hasM M)).map nV))) ⟨none, rfl, Same.new hD, upd_same⟩ ?_ ?_
    · rintro i σ H1 hlt ⟨v, rfl, sm, h1⟩
      dsimp only [gName]
      rw [Int.zero_add]
      obtain ⟨y, hy⟩ : ∃ y, M[i]? = some y := ⟨_, List.getElem?_eq_getElem hlt⟩
      have lt : (((List.range i).filter (hasM M)).map nV).length < sizeLine := by
        rw [List.length_map]
        have := List.length_filter_le (hasM M) (List.range i)
        rw [List.length_range] at this
        exact small1000 (by omega)
      refine ⟨_, rfl, _, rfl, m, _, _, _, rfl, rfl, SqL.of (sm _ _ hm), map_at hy, rfl, _, rfl, ?_⟩
      cases y with
      | none =>
        refine iteF ⟨_, rfl, sm, ?_⟩
        rw [h1, List.range_succ, List.filter_append]
        have : hasM M i = false := by rw [Bool.eq_false_iff]; intro z; obtain ⟨j, e⟩ := hasM_iff.mp z; rw [hy] at e; cases e
        simp [this]
      | some j =>
        refine iteT ⟨_, rfl, _, h1, lt, _, rfl, Same.add sm hD, ?_⟩
        rw [upd_same, List.range_succ, List.filter_append]
        have : hasM M i = true := hasM_iff.mpr ⟨j, hy⟩
        simp [this]
        rfl
    rintro σ H1 ⟨v, rfl, s1, h1⟩
    refine hnxC _ _ ?_
    have hsp : ∀ p ∈ (List.range M.length).filter (hasM M), ∃ j, M[p]? = some (some j) := fun p hp => hasM_iff.mp (List.mem_filter.mp hp).2
    generalize (List.range M.length).filter (hasM M) = sps at h1 hsp
    refine seq_cut fun nxC hnxC => ?_
    refine ⟨_, rfl, D, _, rfl, .inl (SqL.of h1), rfl, _, rfl, ?_⟩
    refine ite2 (fun c => ?_) (fun c => ?_)
    · exact ⟨Nat.zero_le _, fun l hl => k l [] _ (Same.add s1 (s1.free hl)) (s1.free hl) upd_same (Nat.zero_le _) (.inl rfl)⟩
    have hne : 0 < sps.length := by
      cases sps with
      | nil => exact absurd rfl c
      | cons _ _ => simp
    dsimp only [tNext]
    refine hnxC _ _ ?_
    obtain ⟨x0, xr, rfl⟩ : ∃ x0 xr, xs = x0 :: xr := by
      cases xs with
      | nil => exact absurd rfl hx0
      | cons a b => exact ⟨a, b, rfl⟩
    have k0 := Int.emod_nonneg x0 (show (sps.length : Int) ≠ 0 by omega)
    have k1 := Int.emod_lt_of_pos x0 (show (0 : Int) < sps.length by omega)
    obtain ⟨kk, hkk⟩ : ∃ kk : Nat, x0 % (sps.length : Int) = kk := ⟨_, (Int.toNat_of_nonneg k0).symm⟩
    have hkl : kk < sps.length := by omega
    refine seq_cut fun nxC hnxC => ?_
    refine ⟨_, rfl, _, rfl, a, _, _, _, rfl, rfl, SqL.of (s1 _ _ ha), (show atI _ ((0 : Nat) : Int) = _ from atI_nat rfl), _, rfl, D, _, rfl, .inl (SqL.of h1), _, _, rfl, rfl, (by rw [List.length_map]; omega), D, _, _, _, rfl, rfl, SqL.of h1, (by rw [List.length_map, hkk]; exact map_at (List.getElem?_eq_getElem hkl)), (by show 1 ≤ sizeLine; decide), fun r hr1 => ?_⟩
    refine hnxC _ _ ?_
    have hr0 : H r = none := s1.free hr1
    obtain ⟨j0, hj0⟩ := hsp _ (List.getElem_mem hkl)
    have ch0 : Ch M [sps[kk]] := Ch.one hj0
    generalize sps[kk] = p0 at ch0
    have s2 : Same H (upd H1 r (.lst [nV p0])) := Same.add s1 hr0
    have h2 : (upd H1 r (.lst [nV p0])) r = some (.lst ([p0].map nV)) := upd_same
    generalize upd H1 r (.lst [nV p0]) = H2 at s2 h2
    dsimp only [gName]
    show tSeq (tFor _ _ _) _ _ _ _
    refine seq_post (fun σ H3 => ∃ (row : List Nat) (v4 v5 v6 : Option V), σ = [some (.ref m), some (.ref a), some (.ref D), some (.ref r), v4, v5, v6, none, none] ∧ Same H H3 ∧ H3 r = some (.lst (row.map nV)) ∧ Ch M row ∧ row.length ≤ 60) (fun nx hnx => ?_) ?_
    · refine ⟨_, rfl, _, rfl, a, _, rfl, SqL.of (s2 _ _ ha), fun q hq => ?_⟩
      rw [cut_tail]
      have hrq : r ≠ q := ne_of_none h2 hq
      have hq0 : H q = none := s2.free hq
      refine ⟨q, rfl, ⟨_, SqL.of upd_same⟩, ?_⟩
      rw [List.length_cons] at hx60
      refine for_list (xs := xr.map V.int) (fun i σ H3 => ∃ (row : List Nat) (v4 v5 v6 : Option V), σ = [some (.ref m), some (.ref a), some (.ref D), some (.ref r), v4, v5, v6, none, none] ∧ Same H H3 ∧ H3 q = some (.lst (xr.map V.int)) ∧ H3 r = some (.lst (row.map nV)) ∧ Ch M row ∧ row ≠ [] ∧ row.length ≤ i + 1)
        ⟨[p0], none, none, none, rfl, Same.add s2 hq0, upd_same, by rw [upd_ne hrq]; exact h2, ch0, by simp, by simp⟩ ?_ ?_ ?_
      · rintro i σ H3 _ ⟨row, v4, v5, v6, rfl, s3, h3, _⟩
        exact SqL.of h3
      · rintro i x σ H3 hxi ⟨row, v4, v5, v6, rfl, s3, h3, h4, ch, rne, rlen⟩
        have hi : i < xr.length := by have := (List.getElem?_eq_some_iff.mp hxi).1; rw [List.length_map] at this; exact this
        obtain ⟨pick, hpk, rfl⟩ : ∃ pick, xr[i]? = some pick ∧ x = V.int pick := by
          rw [List.getElem?_map, List.getElem?_eq_getElem hi] at hxi
          exact ⟨_, List.getElem?_eq_getElem hi, (Option.some.inj hxi).symm⟩
        obtain ⟨la, hla⟩ : ∃ la, row.getLast? = some la := by
          cases e : row.getLast? with
          | none => exact absurd (List.getLast?_eq_none_iff.mp e) rne
          | some z => exact ⟨z, rfl⟩
        have hlm : la ∈ row := List.mem_of_getLast? hla
        obtain ⟨sd, hsd⟩ := ch.has la hlm
        have hsdM : sd < M.length := (List.getElem?_eq_some_iff.mp (inv la sd hsd).1).1
        have elast : atI (row.map nV) (-1) = some (nV la) := by
          unfold atI ixN
          have hl : 0 < row.length := by cases row with | nil => exact absurd rfl rne | cons _ _ => simp
          rw [if_neg (by decide), if_pos (by rw [List.length_map]; omega)]
          show ((row.map nV)[((-1 : Int) + (row.map nV).length).toNat]?) = _
          rw [List.length_map, show ((-1 : Int) + (row.length : Int)).toNat = row.length - 1 by omega, List.getElem?_map, ← List.getLast?_eq_getElem?, hla]
          rfl
        dsimp only [gName]
        refine seq_cut fun nxC hnxC => ?_
        refine ⟨_, rfl, _, rfl, _, rfl, r, _, _, _, rfl, rfl, SqL.of h4, elast, m, _, _, _, rfl, rfl, SqL.of (s3 _ _ hm), map_at hsd, ?_⟩
        refine hnxC _ _ ?_
        refine seq_cut fun nxC hnxC => ?_
        refine ⟨2, rfl, by decide, by decide, fun W hW => ?_⟩
        have hW0 : H W = none := s3.free hW
        have hWr : r ≠ W := ne_of_none h4 hW
        have hWq : q ≠ W := ne_of_none h3 hW
        refine loop_range (n := 2) (fun c σ H5 => ∃ v, σ = [v, some (nV sd)] ∧ Same H3 H5 ∧ H5 W = some (.lst (([side sd 1, side sd 2].take c).map nV))) ⟨none, rfl, Same.new hW, upd_same⟩ ?_ ?_
        · rintro c σ H5 hc ⟨v, rfl, s5, h5⟩
          dsimp only [gName, tYes]
          rw [if_pos rfl]
          refine ⟨_, rfl, _, rfl, _, _, rfl, rfl, (by show (0 : Int) < 3; decide), _, _, rfl, rfl, _, rfl, _, _, rfl, rfl, _, rfl, _, _, rfl, rfl, _, _, rfl, rfl, (by show (0 : Int) < 3; decide), _, _, rfl, rfl, _, h5, ?_, _, rfl, Same.add s5 hW, ?_⟩
          · rw [List.length_map, List.length_take]; exact small1000 (by omega)
          · rw [upd_same]
            have hc : c = 0 ∨ c = 1 := by omega
            have e : ∀ k : Nat, (sd : Int) - (sd : Int) % 3 + ((sd : Int) + 1 + (0 + (k : Int))) % 3 = ((side sd (k + 1) : Nat) : Int) := fun k => by unfold side; omega
            rcases hc with rfl | rfl
            · show some (HO.lst ([] ++ [V.int ((sd : Int) - (sd : Int) % 3 + ((sd : Int) + 1 + (0 + ((0 : Nat) : Int))) % 3)])) = _
              rw [e 0]; rfl
            · show some (HO.lst ([nV (side sd 1)] ++ [V.int ((sd : Int) - (sd : Int) % 3 + ((sd : Int) + 1 + (0 + ((1 : Nat) : Int))) % 3)])) = _
              rw [e 1]; rfl
        rintro σ H5 ⟨v, rfl, s5, h5⟩
        refine hnxC _ _ ?_
        have h5 : H5 W = some (.lst ([side sd 1, side sd 2].map nV)) := h5
        have sl : ∀ c, side sd c < M.length := fun c => by rw [hn]; exact side_lt (by omega)
        refine seq_cut fun nxC hnxC => ?_
        refine ⟨_, rfl, W, rfl, ⟨_, SqL.of h5⟩, fun W2 hW2 => ?_⟩
        have s35 := s3.trans s5
        refine loop_list (xs := [side sd 1, side sd 2].map nV) (fun c σ H6 => ∃ v, σ = [v, some (.ref m)] ∧ Same H5 H6 ∧ H6 W2 = some (.lst ((([side sd 1, side sd 2].take c).filter (hasM M)).map nV))) ⟨none, rfl, Same.new hW2, upd_same⟩ ?_ ?_ ?_
        · rintro c σ H6 _ ⟨v, rfl, s6, h6⟩
          exact SqL.of (s6 _ _ h5)
        · rintro c x σ H6 hxc ⟨v, rfl, s6, h6⟩
          obtain ⟨p, hp, rfl⟩ := map_some hxc
          have hpM : p < M.length := by
            have := List.mem_of_getElem? hp
            rcases List.mem_cons.mp this with rfl | z
            · exact sl 1
            · rw [List.mem_singleton.mp z]; exact sl 2
          obtain ⟨y, hy⟩ : ∃ y, M[p]? = some y := ⟨_, List.getElem?_eq_getElem hpM⟩
          dsimp only [gName]
          refine ⟨_, rfl, _, rfl, m, _, _, _, rfl, rfl, SqL.of (s6 _ _ (s35 _ _ hm)), map_at hy, rfl, _, rfl, ?_⟩
          cases y with
          | none =>
            refine iteF ⟨_, rfl, s6, ?_⟩
            have : hasM M p = false := by rw [Bool.eq_false_iff]; intro z; obtain ⟨j, e⟩ := hasM_iff.mp z; rw [hy] at e; cases e
            rw [h6, flt_step hp, if_neg (by rw [this]; decide)]
          | some jj =>
            refine iteT ⟨_, rfl, _, h6, ?_, _, rfl, Same.add s6 hW2, ?_⟩
            · rw [List.length_map]
              have h1 := List.length_filter_le (hasM M) ([side sd 1, side sd 2].take c)
              have h2 : ([side sd 1, side sd 2].take c).length ≤ 2 := by rw [List.length_take]; exact Nat.min_le_right _ _
              exact small1000 (by omega)
            · rw [upd_same, flt_step hp, if_pos (hasM_iff.mpr ⟨jj, hy⟩), List.map_append]
              rfl
        rintro σ H6 ⟨v, rfl, s6, h6⟩
        refine hnxC _ _ ?_
        have h6 : H6 W2 = some (.lst (([side sd 1, side sd 2].filter (hasM M)).map nV)) := h6
        have hws : ∀ p ∈ [side sd 1, side sd 2].filter (hasM M), (∃ j, M[p]? = some (some j)) ∧ p / 3 = sd / 3 ∧ p ≠ sd := fun p hp => by
          obtain ⟨z1, z2⟩ := List.mem_filter.mp hp
          refine ⟨hasM_iff.mp z2, ?_, ?_⟩
          · rcases List.mem_cons.mp z1 with rfl | z
            · exact side_div _ _
            · rw [List.mem_singleton.mp z]; exact side_div _ _
          · rcases List.mem_cons.mp z1 with rfl | z
            · unfold side; omega
            · rw [List.mem_singleton.mp z]; unfold side; omega
        generalize [side sd 1, side sd 2].filter (hasM M) = wys at h6 hws
        have s36 := s5.trans s6
        have h4' := s36 _ _ h4
        have h3' := s36 _ _ h3
        have s06 := s3.trans s36
        refine seq_cut fun nxC hnxC => ?_
        refine ⟨_, rfl, W2, _, rfl, .inl (SqL.of h6), rfl, _, rfl, ?_⟩
        refine ite2 (fun c => ?_) (fun c => ?_)
        · exact hnx _ _ ⟨row, _, _, _, rfl, s06, h4', ch, by omega⟩
        have hwp : 0 < wys.length := by
          cases wys with
          | nil => exact absurd rfl c
          | cons _ _ => simp
        dsimp only [tNext]
        refine hnxC _ _ ?_
        have c0 := Int.emod_nonneg pick (show (wys.length : Int) ≠ 0 by omega)
        have c1 := Int.emod_lt_of_pos pick (show (0 : Int) < wys.length by omega)
        obtain ⟨cc, hcc⟩ : ∃ cc : Nat, pick % (wys.length : Int) = cc := ⟨_, (Int.toNat_of_nonneg c0).symm⟩
        have hcl : cc < wys.length := by omega
        obtain ⟨w1, w2, w3⟩ := hws _ (List.getElem_mem hcl)
        have hget := List.getElem?_eq_getElem hcl
        refine ⟨_, rfl, .inl ⟨rfl, _, SqL.of h4'⟩, _, rfl, _, rfl, _, rfl, W2, _, rfl, .inl (SqL.of h6), _, _, rfl, rfl, (by rw [List.length_map]; omega), W2, _, _, _, rfl, rfl, SqL.of h6, (by rw [List.length_map, hcc]; exact map_at hget), r, _, _, rfl, rfl, h4', (by rw [List.length_map]; exact small1000 (by omega)), ?_⟩
        refine ⟨row ++ [wys[cc]], _, _, _, rfl, Same.add s06 hr0, ?_, ?_, ch.snoc hla hsd w2 w3 w1, by simp, by rw [List.length_append, List.length_singleton]; omega⟩
        · rw [upd_ne (Ne.symm hrq)]; exact h3'
        · rw [upd_same, List.map_append]; rfl
      · rintro σ H3 ⟨row, v4, v5, v6, rfl, s3, h3, h4, ch, rne, rlen⟩
        rw [List.length_map] at rlen
        exact hnx _ _ ⟨row, _, _, _, rfl, s3, h4, ch, by omega⟩
    rintro σ H3 ⟨row, v4, v5, v6, rfl, s3, h3, ch, rlen⟩
    show tSeq (tFor _ _ _) _ _ _ _
    refine seq_post (fun σ H4 => H4 = H3) (fun nx hnx => ?_) ?_
    · refine ⟨_, rfl, r, _, rfl, .inl (SqL.of h3), _, rfl, by omega, by rw [List.length_map]; omega, ?_⟩
      have eR : (((row.map nV).length : Nat) : Int).toNat = row.length := by simp
      rw [eR]
      refine for_range (n := row.length) (fun i σ H4 => ∃ v7 v8, σ = [some (.ref m), some (.ref a), some (.ref D), some (.ref r), v4, v5, v6, v7, v8] ∧ H4 = H3) ⟨_, _, rfl, rfl⟩ ?_ ?_
      · rintro i σ H4 hi ⟨v7, v8, rfl, rfl⟩
        dsimp only [gName]
        rw [Int.zero_add]
        refine ⟨_, rfl, _, _, rfl, rfl, _, rfl, r, _, rfl, .inl (SqL.of h3), ((i + 1 : Nat) : Int), row.length - (i + 1), ?_, by omega, by omega, ?_⟩
        · rw [List.length_map]
          show [V.int ((i : Int) + 1), V.int (row.length : Int)] = _
          rw [show ((i : Int) + 1) = ((i + 1 : Nat) : Int) by omega, show (row.length : Int) = ((i + 1 : Nat) : Int) + ((row.length - (i + 1) : Nat) : Int) by omega]
        refine for_range3 (n := row.length - (i + 1)) (fun c σ H5 => ∃ v8, σ = [some (.ref m), some (.ref a), some (.ref D), some (.ref r), v4, v5, v6, some (.int i), v8] ∧ H5 = H4) ⟨_, rfl, rfl⟩ ?_ ?_
        · rintro c σ H4 hc ⟨v8, rfl, rfl⟩
          obtain ⟨e, he, hie, hel⟩ : ∃ e : Nat, ((i + 1 : Nat) : Int) + ((row.length - (i + 1) : Nat) : Int) - 1 + (c : Int) * -1 = (e : Int) ∧ i < e ∧ e < row.length := ⟨row.length - 1 - c, by omega, by omega, by omega⟩
          dsimp only [gName]
          rw [he]
          have gi := List.getElem?_eq_getElem hi
          have ge := List.getElem?_eq_getElem hel
          refine ⟨_, rfl, _, rfl, r, _, _, _, rfl, rfl, SqL.of h3, map_at gi, _, rfl, _, rfl, r, _, _, _, rfl, rfl, SqL.of h3, map_at ge, rfl, _, rfl, ?_⟩
          refine ite2 (fun z => ?_) (fun z => ?_)
          · have z : nV row[i] = nV row[e] := of_decide_eq_true z
            have z : row[i] = row[e] := by unfold nV at z; injection z with z; omega
            refine ⟨_, rfl, _, rfl, _, rfl, _, rfl, _, rfl, r, _, rfl, SqL.of h3, fun l hl => ?_⟩
            have ec : cutV (row.map nV) (some (i : Int)) (some (e : Int)) = ((row.drop i).take (e - i)).map nV := by
              unfold cutV
              rw [HT.sIx_nat, HT.sIx_nat, List.length_map, Nat.min_eq_left (by omega), Nat.min_eq_left (by omega), List.map_take, List.map_drop]
            rw [ec]
            refine k l _ _ (Same.add s3 (s3.free hl)) (s3.free hl) upd_same ?_ (.inr (ch.cut hie gi (by rw [ge, z])))
            rw [List.length_take, List.length_drop]; omega
          · exact ⟨_, rfl, rfl⟩
        · rintro σ H4 ⟨v8, rfl, rfl⟩
          exact ⟨_, _, rfl, rfl⟩
      · rintro σ H4 ⟨v7, v8, rfl, rfl⟩
        exact hnx _ _ rfl
    · rintro σ H4 rfl
      exact ⟨Nat.zero_le _, fun l hl => k l [] _ (Same.add s3 (s3.free hl)) (s3.free hl) upd_same (Nat.zero_le _) (.inl rfl)⟩
end
end KT
set_option maxHeartbeats 4000000
namespace KT
open PySem L2
section
variable {P : Program} {w : World} {K : PySem.W.Frag} {mg : Str → Option Value} {base : Heap} {t : Adr}
theorem sc_l_thread : FnScope ["_law_script", "_law_at", "_law_mates", "_law_cell_here"] ["_law_script", "_law_at", "_law_mates"] (defScope s_l_thread) := ⟨rfl, rfl, rfl, by decide +kernel, rfl, by decide +kernel, by decide +kernel⟩
theorem ok_l_thread (T : Txt w K mg t) : FnOk P w K mg base (CXr P w) 2 t.f_l_thread t.d_l_thread ["_law_script", "_law_at", "_law_mates"] (sp_thread K) := by
 refine T.p_l_thread.F.okR sc_l_thread (fun vs H Q E h => ?_) (fun cdv A outer s H vs Q E hr h => ?_)
 ·obtain ⟨a, m, sc, i, M, rfl, _⟩ := h
  rfl
 ·obtain ⟨a, m, sc, i, M, rfl, hS, hl, i0, i1, hm, h42, hn, inv, k⟩ := h
  refine ⟨_, (pss_cons (ps_set (i := 3) sc_l_thread.nd rfl (Or.inl rfl) (pe_call (ok_l_cell T) (hr.mono (by decide)) rfl T.p_l_cell.g T.p_l_cell.F.kp T.p_l_cell.b .nil passR (pa_cons (pv 0) (pa_cons (pv 1) pa_nil))))
   (pss_one (ps_ret (pe_call (ok_l_walk T) (hr.mono (by decide)) rfl T.p_l_walk.g T.p_l_walk.F.kp T.p_l_walk.b .nil passR (pa_cons (pv 2) (pa_cons (pe_call (ok_l_numbers T) (hr.mono (by decide)) rfl T.p_l_numbers.g T.p_l_numbers.F.kp T.p_l_numbers.b .nil passR (pa_cons (pe_op op_fdiv (pv 3) pe_int) (pa_cons (pe_op op_add pe_int (pe_op op_mod (pv 3) pe_int)) pa_nil))) pa_nil)))))), ?_⟩
  refine ⟨_, rfl, _, rfl, a, sc, i, rfl, hS, hl, i0, by omega, ?_⟩
  dsimp only [gName]
  generalize cell sc i = c
  have m0 : 0 ≤ c % 50 := Int.emod_nonneg _ (by decide)
  have m1 : c % 50 < 50 := Int.emod_lt_of_pos _ (by decide)
  have e : (4 + c % 50 : Int) = ((4 + (c % 50).toNat : Nat) : Int) := by omega
  refine ⟨_, rfl, _, rfl, _, _, rfl, rfl, ⟨by decide, by decide⟩, _, rfl, _, _, rfl, rfl, (by show (0 : Int) < 50; decide), _, _, rfl, rfl, _, 4 + (c % 50).toNat, (by rw [← e]; rfl), by omega, fun p xs H1 s1 hp h1 hxl hx => ?_⟩
  refine ⟨m, p, M, xs, rfl, s1 _ _ hm, h1, fun z => by rw [z] at hxl; simp at hxl; omega, by omega, hx, h42, hn, inv, fun l ws H2 s2 hl2 h2 hw hpl => k l ws H2 (s1.trans s2) (s1.free hl2) h2 hw hpl⟩
end
end KT
set_option maxHeartbeats 4000000
namespace KT
open PySem L2
theorem nv_wI (ws : List Nat) : ws.map nV = (wI ws).map V.int := by rw [List.map_map]; rfl
theorem wI_len (ws : List Nat) : (wI ws).length = ws.length := by simp
theorem at_prev {ws : List Nat} {i : Nat} (hi : i < ws.length) : ∃ pi, pi < ws.length ∧ (pi + 1) % ws.length = i ∧ ∀ a, ws[pi]? = some a → atI (ws.map nV) (0 + (i : Int) - 1) = some (nV a) := by
 cases i with
 | zero =>
  refine ⟨ws.length - 1, by omega, by rw [Nat.sub_add_cancel hi, Nat.mod_self], fun a ha => ?_⟩
  show atI (ws.map nV) (-1) = _
  unfold atI ixN
  rw [if_neg (by decide), if_pos (by rw [List.length_map]; omega)]
  show ((ws.map nV)[((-1 : Int) + (ws.map nV).length).toNat]?) = _
  rw [List.length_map, show ((-1 : Int) + (ws.length : Int)).toNat = ws.length - 1 by omega, List.getElem?_map, ha]
  rfl
 | succ j =>
  refine ⟨j, by omega, Nat.mod_eq_of_lt hi, fun a ha => ?_⟩
  rw [show (0 + ((j + 1 : Nat) : Int) - 1) = (j : Int) by omega]
  exact map_at ha
noncomputable def sp_l_plain : Sp := fun vs H Q _ => ∃ (m a : Addr) (M : List (Option Nat)) (ws : List Nat), vs = [.ref m, .ref a] ∧ H m = some (.lst (M.map mV)) ∧ H a = some (.lst (ws.map nV)) ∧ ws.length ≤ 1000 ∧ Pl M ws ∧ Q (.bl true) H
section
variable {P : Program} {w : World} {K : PySem.W.Frag} {mg : Str → Option Value} {base : Heap} {t : Adr}
theorem sc_l_plain : FnScope ["_law_mates", "_law_word", "_law_p", "_law_k", "_law_side"] ["_law_mates", "_law_word"] (defScope s_l_plain) := ⟨rfl, rfl, rfl, by decide +kernel, rfl, by decide +kernel, by decide +kernel⟩
theorem ok_l_plain (T : Txt w K mg t) : FnOk P w K mg base (CXr P w) 1 t.f_l_plain t.d_l_plain ["_law_mates", "_law_word"] sp_l_plain := by
 refine T.p_l_plain.F.okR sc_l_plain (fun vs H Q E h => ?_) (fun cdv A outer s H vs Q E hr h => ?_)
 ·obtain ⟨m, a, M, ws, rfl, _⟩ := h
  rfl
 ·obtain ⟨m, a, M, ws, rfl, hm, ha, hl, hP, k⟩ := h
  refine ⟨_, (pss_cons (ps_if (pt_cmpR op_eq (pe_callB call_len_seq (by rfl) T.n_len PySem.boot_len (pa_cons (pv 1) pa_nil)) pe_int (nomark _)) (pss_one (ps_ret pe_bl)) pss_nil)
   (pss_cons (ps_for PassesOwn.never rfl (pi_list (pv 1)) (pg_name (i := 2) sc_l_plain.nd rfl (Or.inl rfl)) (pss_one (ps_if (PW.pt (pw_or (pt_cmpR op_lt (pv 2) pe_int (nomark _)) (pw_or (pt_cmpR op_ge (pv 2) (pe_callB call_len_seq (by rfl) T.n_len PySem.boot_len (pa_cons (pv 0) pa_nil)) (nomark _)) (pw_or1 (pt_cmpR op_isN (pe_ix ix_list (pv 0) (pv 2) (fun _ _ => rfl)) pe_non (nomark _)))))) (pss_one (ps_ret pe_bl)) pss_nil)))
   (pss_cons (ps_for PassesOwn.never rfl (pi_range1 rfl T.n_range (pa_cons (pe_callB call_len_seq (by rfl) T.n_len PySem.boot_len (pa_cons (pv 1) pa_nil)) pa_nil)) (pg_name (i := 3) sc_l_plain.nd rfl (Or.inl rfl)) (pss_cons (ps_set (i := 4) sc_l_plain.nd rfl (Or.inl rfl) (pe_ix ix_list (pv 0) (pe_ix ix_list (pv 1) (pe_op op_sub (pv 3) pe_int) (fun _ _ => rfl)) (fun _ _ => rfl)))
   (pss_one (ps_if (PW.pt (pw_or (pt_cmpR op_ne (pe_op op_fdiv (pv 4) pe_int) (pe_op op_fdiv (pe_ix ix_list (pv 1) (pv 3) (fun _ _ => rfl)) pe_int) (nomark _)) (pw_or1 (pt_cmpR op_eq (pv 4) (pe_ix ix_list (pv 1) (pv 3) (fun _ _ => rfl)) (nomark _))))) (pss_one (ps_ret pe_bl)) pss_nil))))
   (pss_one (ps_ret pe_bl))))), ?_⟩
  have hw0 : 0 < ws.length := by have := hP.ne; cases ws with | nil => exact absurd rfl this | cons _ _ => simp
  refine seq_cut fun nxC hnxC => ?_
  refine ⟨_, rfl, a, _, rfl, .inl (SqL.of ha), rfl, _, rfl, ?_⟩
  refine ite2 (fun z => absurd (of_decide_eq_true z) (fun y => ?_)) (fun z => ?_)
  ·injection y with y
   rw [List.length_map] at y
   omega
  dsimp only [tNext]
  refine hnxC _ _ ?_
  refine seq_post (fun σ H4 => ∃ v2, σ = [some (.ref m), some (.ref a), v2, none, none] ∧ H4 = H) (fun nx hnx => ?_) ?_
  ·refine ⟨_, rfl, a, rfl, ⟨_, SqL.of ha⟩, ?_⟩
   refine for_list (xs := ws.map nV) (fun i σ H4 => ∃ v2, σ = [some (.ref m), some (.ref a), v2, none, none] ∧ H4 = H) ⟨_, rfl, rfl⟩ ?_ ?_ ?_
   ·rintro i σ H4 _ ⟨v2, rfl, rfl⟩
    exact SqL.of ha
   ·rintro i x σ H4 hx ⟨v2, rfl, rfl⟩
    obtain ⟨q, hq, rfl⟩ := map_some hx
    obtain ⟨mt, hmt⟩ := hP.has q (List.mem_of_getElem? hq)
    have hqM : q < M.length := (List.getElem?_eq_some_iff.mp hmt).1
    dsimp only [gName]
    refine ⟨_, rfl, _, _, rfl, rfl, _, rfl, ?_⟩
    refine ite2 (fun z => absurd (of_decide_eq_true z) (by omega)) (fun _ => ?_)
    refine ⟨_, rfl, _, rfl, m, _, rfl, .inl (SqL.of hm), _, _, rfl, rfl, _, rfl, ?_⟩
    refine ite2 (fun z => absurd (of_decide_eq_true z) (by rw [List.length_map]; omega)) (fun _ => ?_)
    refine ⟨_, rfl, _, rfl, m, _, _, _, rfl, rfl, SqL.of hm, map_at hmt, rfl, _, rfl, ?_⟩
    exact iteF ⟨_, rfl, rfl⟩
   ·rintro σ H4 h
    exact hnx _ _ h
  ·rintro σ H4 ⟨v2, rfl, rfl⟩
   refine seq_post (fun σ H5 => H5 = H4) (fun nx hnx => ?_) ?_
   ·refine ⟨_, rfl, a, _, rfl, .inl (SqL.of ha), _, rfl, by omega, by rw [List.length_map]; omega, ?_⟩
    have eL : (((ws.map nV).length : Nat) : Int).toNat = ws.length := by simp
    rw [eL]
    refine for_range (n := ws.length) (fun i σ H5 => ∃ v3 v4, σ = [some (.ref m), some (.ref a), v2, v3, v4] ∧ H5 = H4) ⟨_, _, rfl, rfl⟩ ?_ ?_
    ·rintro i σ H5 hi ⟨v3, v4, rfl, rfl⟩
     obtain ⟨pi, hpi, hpn, hat⟩ := at_prev hi
     have hq := List.getElem?_eq_getElem hi
     have hp' := List.getElem?_eq_getElem hpi
     obtain ⟨sd, hsd⟩ := hP.has _ (List.mem_of_getElem? hp')
     obtain ⟨f1, f2⟩ := hP.nxt pi _ _ hp' (by rw [hpn]; exact hq) sd hsd
     have hix : atI (ws.map nV) (0 + (i : Int)) = some (nV ws[i]) := by rw [Int.zero_add]; exact map_at hq
     have hat := hat _ hp'
     generalize ws[i] = q at hix f1 f2
     generalize ws[pi] = pv at hat hsd
     dsimp only [gName]
     refine seq_cut fun nxC hnxC => ?_
     refine ⟨_, rfl, _, rfl, _, rfl, _, _, rfl, rfl, a, _, _, _, rfl, rfl, SqL.of ha, hat, m, _, _, _, rfl, rfl, SqL.of hm, map_at hsd, ?_⟩
     refine hnxC _ _ ?_
     refine ⟨_, rfl, _, _, rfl, rfl, ⟨by decide, by decide⟩, _, rfl, _, rfl, a, _, _, _, rfl, rfl, SqL.of ha, hix, _, _, rfl, rfl, ⟨by decide, by decide⟩, rfl, _, rfl, ?_⟩
     rw [show (!decide ((fun i j => V.int (i / j)) (sd : Int) 3 = (fun i j => V.int (i / j)) (q : Int) 3)) = false from by
      rw [Bool.not_eq_false']
      exact decide_eq_true (show V.int _ = V.int _ by congr 1; omega)]
     refine iteF ⟨_, rfl, _, rfl, _, rfl, a, _, _, _, rfl, rfl, SqL.of ha, hix, rfl, _, rfl, ?_⟩
     rw [show decide (mV (some sd) = nV q) = false from decide_eq_false (fun y => f2 (by injection y with y; omega))]
     exact iteF ⟨_, _, rfl, rfl⟩
    ·rintro σ H5 ⟨v3, v4, rfl, rfl⟩
     exact hnx _ _ rfl
   ·rintro σ H5 rfl
    exact k
end
end KT
set_option maxHeartbeats 4000000
namespace KT
open PySem L2 PySem.Spec PySem.SeqAt
noncomputable def PrAt (H : Hp) (l : Addr) (ps : List (Option Nat × Option Nat)) : Prop := ∃ ts : List Addr, H l = some (.lst (ts.map V.ref)) ∧ ts.length = ps.length ∧ ∀ (i : Nat) (t : Addr) (u : Option Nat × Option Nat), ts[i]? = some t → ps[i]? = some u → H t = some (.tup [mV u.1, mV u.2])
noncomputable def dM : Option Nat → PyData
 | none => .none
 | some j => .int j
theorem dM_dv {K : PySem.W.Frag} {H : Hp} (o : Option Nat) : DV K H (mV o) (dM o) := by
 cases o with
 | none => exact .non
 | some j => exact .int j
theorem two_shaped (a b : Option Nat) : PySem.SeqAt.shaped (.tuple [dM a, dM b]) = true := by
 cases a <;> cases b <;> (unfold PySem.SeqAt.shaped dM; simp only [PyData.canLay0, PyData.canLayAll0, PyData.depth, PyData.depthAll, Bool.and_true, Bool.true_and]; rfl)
theorem two_mix (a b : Option Nat) : noMix (.tuple [dM a, dM b]) (.tuple [dM none, dM none]) = true := by
 cases a <;> cases b <;> simp [dM, noMix, noMixAll]
theorem two_same (a b : Option Nat) : (!same (.tuple [dM a, dM b]) (.tuple [dM none, dM none])) = !decide (a = none ∧ b = none) := by
 cases a <;> cases b <;> simp [dM, same, sameAll]
noncomputable def sp_step_pairs (C : Addr) : Sp := fun vs H Q _ => ∃ (p1 p2 : Addr) (M1 M2 : List (Option Nat)) (ns1 ns2 : List Int) (p q : Nat), vs = [.ref p1, .ref p2, .int p, .int q] ∧ TentAt C H p1 M1 ns1 ∧ M1.length = ns1.length ∧ TentAt C H p2 M2 ns2 ∧ M2.length = ns2.length ∧ p < M1.length ∧ q < M2.length ∧
 ∀ (l : Addr) (H' : Hp), Same H H' → H l = none → PrAt H' l (prsL M1 M2 p q) → Q (.ref l) H'
structure Tw (C : Addr) (H : Hp) (p1 p2 : Addr) (M1 M2 : List (Option Nat)) (ns1 ns2 : List Int) : Prop where
 t1 : TentAt C H p1 M1 ns1
 l1 : M1.length = ns1.length
 t2 : TentAt C H p2 M2 ns2
 l2 : M2.length = ns2.length
 n1 : ∃ n, M1.length = 3 * n ∧ n ≤ 16
 n2 : ∃ n, M2.length = 3 * n ∧ n ≤ 16
 i1 : ∀ (i j : Nat), M1[i]? = some (some j) → j < M1.length
 i2 : ∀ (i j : Nat), M2[i]? = some (some j) → j < M2.length
theorem Tw.same {C : Addr} {H H' : Hp} {p1 p2 : Addr} {M1 M2 : List (Option Nat)} {ns1 ns2 : List Int} (h : Tw C H p1 p2 M1 M2 ns1 ns2) (s : Same H H') : Tw C H' p1 p2 M1 M2 ns1 ns2 := ⟨h.t1.same s, h.l1, h.t2.same s, h.l2, h.n1, h.n2, h.i1, h.i2⟩
theorem aft_lt {M : List (Option Nat)} {p : Nat} (hn : ∃ n, M.length = 3 * n ∧ n ≤ 16) (hp : p < M.length) : aftN p < M.length := by
 obtain ⟨n, e, _⟩ := hn
 unfold aftN
 split <;> omega
theorem prs_lt {M1 M2 : List (Option Nat)} (n1 : ∃ n, M1.length = 3 * n ∧ n ≤ 16) (n2 : ∃ n, M2.length = 3 * n ∧ n ≤ 16) (i1 : ∀ (i j : Nat), M1[i]? = some (some j) → j < M1.length) (i2 : ∀ (i j : Nat), M2[i]? = some (some j) → j < M2.length) {p q : Nat} (hp : p < M1.length) (hq : q < M2.length) :
  ∀ a b, (some a, some b) ∈ prsL M1 M2 p q → a < M1.length ∧ b < M2.length := fun a b h => by
 unfold prsL at h
 rcases List.mem_cons.mp h with e | h
 ·cases e
  exact ⟨aft_lt n1 hp, aft_lt n2 hq⟩
 ·split at h
  ·exact absurd h List.not_mem_nil
  ·have e := List.mem_singleton.mp h
   injection e with e1 e2
   rw [List.getD_eq_getElem?_getD] at e1 e2
   refine ⟨i1 p a ?_, i2 q b ?_⟩
   ·rw [List.getElem?_eq_getElem hp] at e1 ⊢
    exact congrArg some e1.symm
   ·rw [List.getElem?_eq_getElem hq] at e2 ⊢
    exact congrArg some e2.symm
noncomputable def sp_piece_laid (C : Addr) : Sp := fun vs H Q _ => ∃ (p1 p2 : Addr) (M1 M2 : List (Option Nat)) (ns1 ns2 : List Int) (s g : Nat), vs = [.ref p1, .ref p2, .int s, .int g] ∧ Tw C H p1 p2 M1 M2 ns1 ns2 ∧ s < M1.length ∧ g < M2.length ∧
 (layR M1 M2 s g = none → ∀ H', Same H H' → Q .non H') ∧ ∀ gs, layR M1 M2 s g = some gs → gs.length ≤ 48 → ∀ (d : Addr) (H' : Hp), Same H H' → H d = none → H' d = some (.dK (enc gs)) → Q (.ref d) H'
theorem PrAt.upd {H : Hp} {l x : Addr} {o : HO} {ps : List (Option Nat × Option Nat)} (h : PrAt H l ps) (hx : x ≠ l) (ht : ∀ u, H x ≠ some (.tup u)) : PrAt (upd H x o) l ps := by
 obtain ⟨ts, h1, h2, h3⟩ := h
 refine ⟨ts, by rw [upd_ne (Ne.symm hx)]; exact h1, h2, fun i t u a b => ?_⟩
 have := h3 i t u a b
 rw [upd_ne (fun z => ht _ (z ▸ this))]
 exact this
theorem loop_vals {d : Addr} {kvs : List (Key × V)} {o : Obj} {g : TG} {tt : TT} {tb : TB} {R : St → Hp → Prop} {σ : St} {H : Hp} (Pv : Nat → St → Hp → Prop) (h0 : Pv 0 σ H) (hl : ∀ i σ H, i ≤ kvs.length → Pv i σ H → H d = some (.frz o (.dK kvs)))
  (hs : ∀ (i : Nat) k x σ H, kvs[i]? = some (k, x) → Pv i σ H → g x σ H fun σ2 H2 => tt σ2 H2 fun b H3 => if b = true then tb σ2 H3 (Pv (i + 1)) else Pv (i + 1) σ2 H3) (hd : ∀ σ H, Pv kvs.length σ H → R σ H) : LoopR (Itv2 d kvs o) g tt tb R σ H := by
 refine ⟨fun i m σ H => m = kvs.length - i ∧ i ≤ kvs.length ∧ Pv i σ H, ⟨kvs.length, by simp, Nat.zero_le _, h0⟩, ?_⟩
 rintro i m σ H ⟨rfl, hi, p⟩
 have q := hl i σ H hi p
 by_cases hlt : i < kvs.length
 ·refine .inr ⟨⟨hlt, q⟩, Pv (i + 1), fun σ' H' p' => ⟨kvs.length - (i + 1), by omega, rfl, hlt, p'⟩, fun x H' y => ?_⟩
  obtain ⟨e, k, y⟩ := y
  subst e
  exact hs i k x σ _ y p
 ·have e : i = kvs.length := by omega
  subst e
  exact .inl ⟨⟨Nat.le_refl _, q⟩, hd σ H p⟩
theorem dd_snoc (l : List Int) (x : Int) : (dd (l ++ [x])).length = if x ∈ l then (dd l).length else (dd l).length + 1 := by
 have e : dd (l ++ [x]) = PyProof.Rows.step_dedup (dd l) x := by unfold dd; rw [List.foldl_append]; rfl
 rw [e]
 unfold PyProof.Rows.step_dedup
 by_cases c : x ∈ l
 ·rw [if_pos c, if_pos (by first | exact dd_mem.mpr c | simpa using dd_mem.mpr c)]
 ·rw [if_neg c, if_neg (by first | exact fun z => c (dd_mem.mp z) | simpa using fun z => c (dd_mem.mp z)), List.length_append, List.length_singleton]
theorem enc_at {gs : Prs} {i : Nat} {k : Key} {v : V} (h : (enc gs)[i]? = some (k, v)) : ∃ kv, gs[i]? = some kv ∧ k = Sum.inl (kv.1 : Int) ∧ v = V.int kv.2 := by
 unfold enc at h
 rw [List.getElem?_map] at h
 cases e : gs[i]? with
 | none => rw [e] at h; cases h
 | some kv => rw [e] at h; cases h; exact ⟨kv, rfl, rfl, rfl⟩
noncomputable def sp_all_places (C : Addr) : Sp := fun vs H Q _ => ∃ (p : Addr) (M : List (Option Nat)) (ns : List Int), vs = [.ref p] ∧ TentAt C H p M ns ∧ ns.length ≤ 1000 ∧ ∀ l, H l = none → Q (.ref l) (upd H l (.lst ((List.range ns.length).map nV)))
section
variable {P : Program} {w : World} {K : PySem.W.Frag} {mg : Str → Option Value} {base : Heap} {t : Adr}
theorem sc_Tent_all_places : FnScope ["self"] ["self"] (defScope s_Tent_all_places) := ⟨rfl, rfl, rfl, by decide +kernel, rfl, by decide +kernel, by decide +kernel⟩
theorem ok_Tent_all_places (T : Txt w K mg t) : FnOk P w K mg base (CXr P w) 1 t.f_Tent_all_places t.d_Tent_all_places ["self"] (sp_all_places t.C_Tent) := by
 refine T.p_Tent_all_places.F.okR sc_Tent_all_places (fun vs H Q E h => ?_) (fun cdv A outer s H vs Q E hr h => ?_)
 ·obtain ⟨p, M, ns, rfl, _⟩ := h
  rfl
 ·obtain ⟨p, M, ns, rfl, ⟨dx, cl, na, sp, mt, o, f, b⟩, hl, k⟩ := h
  refine ⟨_, (pss_one (ps_ret (pe_listRange rfl T.n_list rfl T.n_range rfl (pa_cons (pe_callB call_len_seq (by rfl) T.n_len PySem.boot_len (pa_cons (pe_fld (pv 0) rfl) pa_nil)) pa_nil)))), ?_⟩
  exact ⟨_, rfl, p, _, dx, _, _, rfl, b.ins, T.cl_Tent, T.a_Tent_names_at, fl_names .., na, _, rfl, .inl (SqL.of b.names), ns.length, by rw [List.length_map], hl, fun l hl' => k l hl'⟩
theorem sc_step_pairs : FnScope ["one", "other", "place", "spot", "steps"] ["one", "other", "place", "spot"] (defScope s_step_pairs) := ⟨rfl, rfl, rfl, by decide +kernel, rfl, by decide +kernel, by decide +kernel⟩
theorem ok_step_pairs (T : Txt w K mg t) : FnOk P w K mg base (CXr P w) 4 t.f_step_pairs t.d_step_pairs ["one", "other", "place", "spot"] (sp_step_pairs t.C_Tent) := by
 refine T.p_step_pairs.F.okR sc_step_pairs (fun vs H Q E h => ?_) (fun cdv A outer s H vs Q E hr h => ?_)
 ·obtain ⟨p1, p2, M1, M2, ns1, ns2, p, q, rfl, _⟩ := h
  rfl
 ·obtain ⟨p1, p2, M1, M2, ns1, ns2, p, q, rfl, ta1, hl1, ta2, hl2, hp, hq, k⟩ := h
  refine ⟨_, (pss_cons (ps_set (i := 4) sc_step_pairs.nd rfl (Or.inl rfl) (pe_lst (pa_cons (pe_tup (pa_cons (pe_call (ok_after T) (hr.mono (by decide)) rfl T.p_after.g T.p_after.F.kp T.p_after.b .nil passR (pa_cons (pv 2) pa_nil)) (pa_cons (pe_call (ok_after T) (hr.mono (by decide)) rfl T.p_after.g T.p_after.F.kp T.p_after.b .nil passR (pa_cons (pv 3) pa_nil)) pa_nil))) (pa_cons (pe_tup (pa_cons (pe_meth (pv 0) T.cl_Tent T.p_Tent_mate.m (ok_Tent_mate T) (hr.mono (by decide)) T.p_Tent_mate.b .nil passR (pa_cons (pv 2) pa_nil)) (pa_cons (pe_meth (pv 1) T.cl_Tent T.p_Tent_mate.m (ok_Tent_mate T) (hr.mono (by decide)) T.p_Tent_mate.b .nil passR (pa_cons (pv 3) pa_nil)) pa_nil))) pa_nil))))
   (pss_one (ps_ret (pe_compG (ts := ["step"]) (fv := []) ⟨rfl, by decide +kernel, by decide +kernel, blkFree (by rfl), trivial⟩ rfl (pi_list (pv 4)) (fun _ _ _ _ => (pg_name (i := 0) (show List.Nodup (["step"] : List Str) from by decide +kernel) rfl (Or.inl rfl) (Or.inr rfl))) (fun _ _ _ _ => (pts_one (pt_cmpR (op_neDK K hr.units) (pv 0) (pe_tup (pa_cons pe_non (pa_cons pe_non pa_nil))) (nomark _)))) (fun _ _ _ => rfl) (fun _ _ _ _ _ _ => pb_emit (pv 0)))))), ?_⟩
  obtain ⟨m1, hm1⟩ : ∃ z, M1[p]? = some z := ⟨_, List.getElem?_eq_getElem hp⟩
  obtain ⟨m2, hm2⟩ : ∃ z, M2[q]? = some z := ⟨_, List.getElem?_eq_getElem hq⟩
  have e1 : M1.getD p none = m1 := by rw [List.getD_eq_getElem?_getD, hm1]; rfl
  have e2 : M2.getD q none = m2 := by rw [List.getD_eq_getElem?_getD, hm2]; rfl
  unfold prsL at k
  rw [e1, e2] at k
  refine seq_cut fun nxC hnxC => ?_
  refine ⟨_, rfl, (p : Int), rfl, _, rfl, (q : Int), rfl, (by show 2 ≤ sizeLine; rw [sizeLine_eq]; decide), fun t1 ht1 => ?_⟩
  have s1 : Same H (upd H t1 (.tup [V.int (after p), V.int (after q)])) := Same.new ht1
  have h1 : (upd H t1 (.tup [V.int (after p), V.int (after q)])) t1 = some (.tup [mV (some (aftN p)), mV (some (aftN q))]) := by rw [upd_same, aftN_eq, aftN_eq]; rfl
  generalize upd H t1 (.tup [V.int (after p), V.int (after q)]) = H1 at s1 h1 ⊢
  have ta1' := ta1.same s1
  have ta2' := ta2.same s1
  obtain ⟨d1, _, _, _, _, _, _, b1⟩ := id ta1'
  obtain ⟨d2, _, _, _, _, _, _, b2⟩ := id ta2'
  refine ⟨_, rfl, p1, d1, _, rfl, b1.ins, fl_none _ _ _ _, _, rfl, p1, M1, ns1, (p : Int), rfl, ta1', hl1, fun i y ei ey => ?_, fun z => absurd (show (0 : Int) ≤ p ∧ (p : Int) < ns1.length by omega) z⟩
  obtain rfl : p = i := by omega
  rw [hm1] at ey
  cases ey
  refine ⟨_, rfl, p2, d2, _, rfl, b2.ins, fl_none _ _ _ _, _, rfl, p2, M2, ns2, (q : Int), rfl, ta2', hl2, fun i y ei ey => ?_, fun z => absurd (show (0 : Int) ≤ q ∧ (q : Int) < ns2.length by omega) z⟩
  obtain rfl : q = i := by omega
  rw [hm2] at ey
  cases ey
  refine ⟨(by show 2 ≤ sizeLine; rw [sizeLine_eq]; decide), fun t2 ht2 => ?_⟩
  have s2 : Same H1 (upd H1 t2 (.tup [mV m1, mV m2])) := Same.new ht2
  have h2 : (upd H1 t2 (.tup [mV m1, mV m2])) t2 = some (.tup [mV m1, mV m2]) := upd_same
  have h1 := s2 _ _ h1
  generalize upd H1 t2 (.tup [mV m1, mV m2]) = H2 at s2 h1 h2 ⊢
  refine ⟨(by show 2 ≤ sizeLine; rw [sizeLine_eq]; decide), fun l hl => ?_⟩
  refine hnxC _ _ ?_
  have s3 : Same H2 (upd H2 l (.lst [V.ref t1, V.ref t2])) := Same.new hl
  have h3 : (upd H2 l (.lst [V.ref t1, V.ref t2])) l = some (.lst [V.ref t1, V.ref t2]) := upd_same
  have h1 := s3 _ _ h1
  have h2 := s3 _ _ h2
  generalize upd H2 l (.lst [V.ref t1, V.ref t2]) = H3 at s3 h1 h2 h3 ⊢
  have s03 := (s1.trans s2).trans s3
  try dsimp only [gName]
  refine ⟨_, rfl, l, rfl, ⟨_, SqL.of h3⟩, fun D hD => ?_⟩
  have test : ∀ (H4 : Hp) (t q : Addr) (a b : Option Nat) (R : V → Hp → Prop), H4 t = some (.tup [mV a, mV b]) → H4 q = none → (∀ H5, Same H4 H5 → R (.bl (!decide (a = none ∧ b = none))) H5) → rNeD K (.ref t) (.ref q) (upd H4 q (.tup [V.non, V.non])) R := fun H4 t q a b R ht hq hR => by
   have s4 : Same H4 (upd H4 q (.tup [V.non, V.non])) := Same.new hq
   refine ⟨.tuple [dM a, dM b], .tuple [dM none, dM none], .tup (SqT.of (s4 _ _ ht)) (.cons (dM_dv a) (.cons (dM_dv b) .nil)), .tup (SqT.of upd_same) (.cons .non (.cons .non .nil)), two_shaped a b, two_shaped none none, two_mix a b, ?_⟩
   rw [two_same]
   exact hR _ s4
  have D0 : H D = none := s03.free hD
  refine loop_list (xs := [V.ref t1, V.ref t2]) (fun i σ H4 => ∃ v, σ = [v] ∧ Same H3 H4 ∧ H4 D = some (.lst ((if i = 0 then [] else if i = 1 ∨ (m1 = none ∧ m2 = none) then [t1] else [t1, t2]).map V.ref))) ⟨none, rfl, Same.new hD, upd_same⟩ ?_ ?_ ?_
  ·rintro i σ H4 _ ⟨v, rfl, s4, h4⟩
   exact SqL.of (s4 _ _ h3)
  ·rintro i x σ H4 hx ⟨v, rfl, s4, h4⟩
   have hi : i < 2 := (List.getElem?_eq_some_iff.mp hx).1
   dsimp only [gName]
   have : i = 0 ∨ i = 1 := by omega
   rcases this with rfl | rfl
   ·cases hx
    refine ⟨_, rfl, (by show 2 ≤ sizeLine; rw [sizeLine_eq]; decide), fun q hq => test H4 t1 q _ _ _ (s4 _ _ h1) hq (fun H5 s5 => ⟨_, rfl, ?_⟩)⟩
    rw [decide_eq_false (fun z => by cases z.1)]
    rw [if_pos rfl] at h4
    refine iteT ⟨_, rfl, _, s5 _ _ h4, by rw [sizeLine_eq]; decide, _, rfl, Same.add (s4.trans s5) hD, ?_⟩
    rw [upd_same]
    rfl
   ·cases hx
    refine ⟨_, rfl, (by show 2 ≤ sizeLine; rw [sizeLine_eq]; decide), fun q hq => test H4 t2 q _ _ _ (s4 _ _ h2) hq (fun H5 s5 => ⟨_, rfl, ?_⟩)⟩
    rw [if_neg (by decide), if_pos (.inl rfl)] at h4
    by_cases c : m1 = none ∧ m2 = none
    ·rw [decide_eq_true c]
     refine iteF ⟨_, rfl, s4.trans s5, ?_⟩
     rw [if_neg (by decide), if_pos (.inr c)]
     exact s5 _ _ h4
    ·rw [decide_eq_false c]
     refine iteT ⟨_, rfl, _, s5 _ _ h4, (by show 1 < sizeLine; rw [sizeLine_eq]; decide), _, rfl, Same.add (s4.trans s5) hD, ?_⟩
     rw [upd_same, if_neg (by decide), if_neg (fun z => z.elim (by decide) c)]
     rfl
  ·rintro σ H4 ⟨v, rfl, s4, h4⟩
   have h4 : H4 D = some (.lst ((if m1 = none ∧ m2 = none then [t1] else [t1, t2]).map V.ref)) := by
    rw [h4, show ([V.ref t1, V.ref t2] : List V).length = 2 from rfl, if_neg (by decide)]
    by_cases c : m1 = none ∧ m2 = none
    ·rw [if_pos (.inr c), if_pos c]
    ·rw [if_neg (fun z => z.elim (by decide) c), if_neg c]
   refine k D H4 (s03.trans s4) D0 ⟨_, h4, ?_, fun i t u ht hu => ?_⟩
   ·by_cases c : m1 = none ∧ m2 = none
    ·rw [if_pos c, if_pos c]; rfl
    ·rw [if_neg c, if_neg c]; rfl
   ·by_cases c : m1 = none ∧ m2 = none
    ·rw [if_pos c] at ht hu
     cases i with
     | zero => cases ht; cases hu; exact s4 _ _ h1
     | succ i => simp at ht
    ·rw [if_neg c] at ht hu
     cases i with
     | zero => cases ht; cases hu; exact s4 _ _ h1
     | succ i =>
      cases i with
      | zero => cases ht; cases hu; exact s4 _ _ h2
      | succ i => simp at ht
theorem sc_piece_laid : FnScope ["one", "other", "start", "goal", "goals", "waiting", "here", "steps", "place", "spot"] ["one", "other", "start", "goal"] (defScope s_piece_laid) := ⟨rfl, rfl, rfl, by decide +kernel, rfl, by decide +kernel, by decide +kernel⟩
theorem ok_piece_laid (T : Txt w K mg t) : FnOk P w K mg base (CXr P w) 5 t.f_piece_laid t.d_piece_laid ["one", "other", "start", "goal"] (sp_piece_laid t.C_Tent) := by
  refine T.p_piece_laid.F.okR sc_piece_laid (fun vs H Q E h => ?_) (fun cdv A outer s H vs Q E hr h => ?_)
  · obtain ⟨p1, p2, M1, M2, ns1, ns2, s, g, rfl, _⟩ := h
    rfl
  · obtain ⟨p1, p2, M1, M2, ns1, ns2, sp, g, rfl, tw, hs, hg, kN, kS⟩ := h
    have hu := hu_of hr
    refine ⟨_, (pss_cons (ps_set (i := 4) sc_piece_laid.nd rfl (Or.inl rfl) (pe_disp (pps_cons (pv 2) (pv 3) pps_nil) rfl rfl (List.cons_ne_nil _ _) (by decide)))
      (pss_cons (ps_set (i := 5) sc_piece_laid.nd rfl (Or.inl rfl) (pe_lst (pa_cons (pv 2) pa_nil)))
      (pss_cons (ps_while PassesOwn.never (pt_truth (pv 5) (fun _ => rfl)) (pss_cons (ps_set (i := 6) sc_piece_laid.nd rfl (Or.inl rfl) (pe_bm0 PySem.F.plainAttrs_list PySem.F.slot_list_pop PySem.F.type_list_pop mt_pop (pv 5)))
      (pss_cons (ps_set (i := 7) sc_piece_laid.nd rfl (Or.inl rfl) (pe_call (ok_step_pairs T) (hr.mono (by decide)) rfl T.p_step_pairs.g T.p_step_pairs.F.kp T.p_step_pairs.b .nil passR (pa_cons (pv 0) (pa_cons (pv 1) (pa_cons (pv 6) (pa_cons (pe_dget hu (pv 4) (pv 6) (fun _ _ => rfl)) pa_nil))))))
      (pss_one (ps_for PassesOwn.never rfl (pi_list (pv 7)) (pg_tup rfl (pgs_cons (pg_name (i := 8) sc_piece_laid.nd rfl (Or.inl rfl)) (pgs_cons (pg_name (i := 9) sc_piece_laid.nd rfl (Or.inl rfl)) pgs_nil))) (pss_cons (ps_if (PW.pt (pw_or (pt_cmpR op_isN (pv 8) pe_non (nomark _)) (pw_or (pt_cmpR op_isN (pv 9) pe_non (nomark _)) (pw_or1 (pt_cmpR op_ne (pe_dget2 hu (pv 4) (pv 8) (pv 9) ⟨rfl, rfl, rfl, rfl⟩) (pv 9) (nomark _)))))) (pss_one (ps_ret pe_non)) pss_nil)
      (pss_one (ps_if (pt_cmp (pc_dnotin hu (pv 8) (pv 4)) (by with_unfolding_all rfl)) (pss_cons (ps_dput hu (pv 4) (pv 8) (pv 9) rfl)
      (pss_one (ps_expr (pe_bm PySem.F.plainAttrs_list PySem.F.slot_list_append PySem.F.type_list_append mt_append (pv 5) (pa_cons (pv 8) pa_nil))))) pss_nil))))))))
      (pss_cons (ps_if (pt_cmpR op_lt (pe_callB call_lenSet (by rfl) T.n_len PySem.boot_len (pa_cons (pe_thaw (pe_scompG (ts := ["spot"]) (fv := []) ⟨rfl, by decide +kernel, by decide +kernel, blkFree (by rfl), trivial⟩ rfl (pi_vals (pv 4) ⟨rfl, rfl, rfl⟩) (fun _ _ _ _ => (pg_name (i := 0) (show List.Nodup (["spot"] : List Str) from by decide +kernel) rfl (Or.inl rfl) (Or.inr rfl))) (fun _ _ _ _ => pts_nil) (fun _ _ _ => rfl) (fun _ _ _ _ _ _ => pb_semit (pv 0)))) pa_nil)) (pe_callB call_lenD (by rfl) T.n_len PySem.boot_len (pa_cons (pv 4) pa_nil)) (nomark _)) (pss_one (ps_ret pe_non)) pss_nil)
      (pss_one (ps_ret (pv 4))))))), ?_⟩
    obtain ⟨n1, en1, ln1⟩ := tw.n1
    refine seq_cut fun nxC hnxC => ?_
    intro d hd
    refine ⟨_, rfl, _, rfl, upd_same, [(Sum.inl (sp : Int), V.int g)], rfl, (by show 1 ≤ 15; decide), ?_⟩
    refine hnxC _ _ ?_
    have s1 : Same H (upd (upd H d (.dK [])) d (.dK (mergeK [] [(Sum.inl (sp : Int), V.int g)]))) := by rw [upd_upd]; exact Same.new hd
    have h1 : (upd (upd H d (.dK [])) d (.dK (mergeK [] [(Sum.inl (sp : Int), V.int g)]))) d = some (.dK (enc [(sp, g)])) := upd_same
    generalize upd (upd H d (.dK [])) d (.dK (mergeK [] [(Sum.inl (sp : Int), V.int g)])) = H1 at s1 h1 ⊢
    try dsimp only [gName]
    refine seq_cut fun nxC hnxC => ?_
    refine ⟨_, rfl, (by show 1 ≤ sizeLine; rw [sizeLine_eq]; decide), fun wt hwt => ?_⟩
    refine hnxC _ _ ?_
    have s2 : Same H1 (upd H1 wt (.lst [V.int sp])) := Same.new hwt
    have h2 : (upd H1 wt (.lst [V.int sp])) wt = some (.lst ([sp].reverse.map nV)) := upd_same
    have hwd : wt ≠ d := fun z => by rw [z, h1] at hwt; cases hwt
    have hwt0 : H wt = none := s1.free hwt
    have h1 := s2 _ _ h1
    generalize upd H1 wt (.lst [V.int sp]) = H2 at s2 h1 h2 ⊢
    have s02 := s1.trans s2
    clear s1 s2 hwt
    try dsimp only [gName]
    show tSeq (tWhile _ _) _ _ _ _
    refine seq_post (fun σ H' => ∃ gs v6 v7 v8 v9, σ = [some (.ref p1), some (.ref p2), some (.int sp), some (.int g), some (.ref d), some (.ref wt), v6, v7, v8, v9] ∧ Same H H' ∧ H' d = some (.dK (enc gs)) ∧ gs.length ≤ M1.length ∧ lyRun M1 M2 200 [(sp, g)] [sp] = some gs) (fun nx hnx => ?_) ?_
    · refine ⟨fun m σ H' => ∃ gs st f v6 v7 v8 v9, m = msr M1.length (gs, st) ∧ m ≤ f ∧ f ≤ 200 ∧ lyRun M1 M2 f gs st = lyRun M1 M2 200 [(sp, g)] [sp] ∧ LyOk M1.length M2.length gs st ∧ σ = [some (.ref p1), some (.ref p2), some (.int sp), some (.int g), some (.ref d), some (.ref wt), v6, v7, v8, v9] ∧ Same H H' ∧ H' d = some (.dK (enc gs)) ∧ H' wt = some (.lst (st.reverse.map nV)), ⟨_, [(sp, g)], [sp], 200, none, none, none, none, rfl, ?_, Nat.le_refl _, rfl, ⟨by simp, fun kv hk => by rw [List.mem_singleton.mp hk]; exact ⟨hs, hg⟩, fun p hp => by rw [List.mem_singleton.mp hp]; exact List.mem_singleton.mpr rfl⟩, rfl, s02, h1, h2⟩, ?_⟩
      · show 3 * (M1.length - 1) + 1 ≤ 200
        omega
      clear h1 h2 s02
      rintro m σ H3 ⟨gs, st, f, v6, v7, v8, v9, rfl, mf, f200, eR, ok, rfl, s3, h3, hw3⟩
      cases st with
      | nil =>
        refine ⟨_, rfl, false, .inl ⟨_, SqL.of hw3, rfl⟩, ?_⟩
        refine iteF (hnx _ _ ⟨gs, _, _, _, _, rfl, s3, h3, ok.len, ?_⟩)
        rw [← eR]
        cases f <;> rfl
      | cons p st =>
        have hpk := ok.has p List.mem_cons_self
        obtain ⟨q, hq⟩ := gk_has hpk
        obtain ⟨hp1, hq1⟩ := ok.lt _ (gk_some hq)
        obtain ⟨f', rfl⟩ : ∃ f', f = f' + 1 := ⟨f - 1, by unfold msr at mf; simp only [List.length_cons] at mf; omega⟩
        have ew : ((p :: st).reverse.map nV) = st.reverse.map nV ++ [nV p] := by rw [List.reverse_cons, List.map_append]; rfl
        refine ⟨_, rfl, true, .inl ⟨_, SqL.of hw3, ?_⟩, ?_⟩
        · rw [ew]; simp
        refine iteT ⟨_, fun σ' H' h => h, ?_⟩
        refine seq_cut fun nxC hnxC => ?_
        refine ⟨_, rfl, .inl ⟨rfl, _, SqL.of hw3⟩, wt, _, nV p, rfl, rfl, hw3, ?_, ?_⟩
        · rw [ew, List.length_append, List.length_singleton, Nat.add_sub_cancel]; simp
        rw [ew, List.dropLast_concat]
        refine hnxC _ _ ?_
        have s4 : Same H (upd H3 wt (.lst (st.reverse.map nV))) := Same.add s3 hwt0
        have h4 : (upd H3 wt (.lst (st.reverse.map nV))) d = some (.dK (enc gs)) := by rw [upd_ne (Ne.symm hwd)]; exact h3
        have hw4 : (upd H3 wt (.lst (st.reverse.map nV))) wt = some (.lst (st.reverse.map nV)) := upd_same
        generalize upd H3 wt (.lst (st.reverse.map nV)) = H4 at s4 h4 hw4 ⊢
        clear s3 h3 hw3 ew
        try dsimp only [gName]
        refine seq_cut fun nxC hnxC => ?_
        refine ⟨_, rfl, _, rfl, _, rfl, _, rfl, _, rfl, d, V.int q, rfl, .inl ⟨_, Sum.inl (p : Int), .inl h4, rfl, by rw [enc_val, hq]; rfl⟩, p1, p2, M1, M2, ns1, ns2, p, q, rfl, (tw.same s4).t1, tw.l1, (tw.same s4).t2, tw.l2, hp1, hq1, fun l H5 s5 hl pr => ?_⟩
        refine hnxC _ _ ?_
        have hlw : wt ≠ l := fun z => by rw [z, hl] at hw4; cases hw4
        have hld : d ≠ l := fun z => by rw [z, hl] at h4; cases h4
        have h5 := s5 _ _ h4
        have hw5 := s5 _ _ hw4
        have s05 := s4.trans s5
        clear s4 h4 hw4 s5 hl
        try dsimp only [gName]
        have eg : (gk gs p).getD 0 = q := by rw [hq]; rfl
        have eR : (prc (prsL M1 M2 p q) (gs, st)).bind (fun s => lyRun M1 M2 f' s.1 s.2) = lyRun M1 M2 200 [(sp, g)] [sp] := by rw [← eR]; show _ = (prc (prsL M1 M2 p ((gk gs p).getD 0)) (gs, st)).bind _; rw [eg]
        have bad : prc (prsL M1 M2 p q) (gs, st) = none → ∀ H', Same H H' → Q .non H' := fun z => kN (by unfold layR; rw [← eR, z]; rfl)
        have okG : LyOk M1.length M2.length gs st := ⟨ok.nd, ok.lt, fun x hx => ok.has x (List.mem_cons_of_mem _ hx)⟩
        have mf : msr M1.length (gs, st) ≤ f' := by unfold msr at mf ⊢; simp only [List.length_cons] at mf; show 3 * (M1.length - gs.length) + st.length ≤ f'; omega
        have prl := prs_lt tw.n1 tw.n2 tw.i1 tw.i2 hp1 hq1
        obtain ⟨ts, pr1, pr2, pr3⟩ := id pr
        generalize prsL M1 M2 p q = ps at *
        refine ⟨_, rfl, l, rfl, ⟨_, SqL.of pr1⟩, ?_⟩
        refine for_list (xs := ts.map V.ref) (fun i σ H6 => ∃ s' v8 v9, prc (ps.take i) (gs, st) = some s' ∧ σ = [some (.ref p1), some (.ref p2), some (.int sp), some (.int g), some (.ref d), some (.ref wt), some (nV p), some (.ref l), v8, v9] ∧ Same H H6 ∧ PrAt H6 l ps ∧ H6 l = some (.lst (ts.map V.ref)) ∧ H6 d = some (.dK (enc s'.1)) ∧ H6 wt = some (.lst (s'.2.reverse.map nV))) ⟨(gs, st), _, _, rfl, rfl, s05, pr, pr1, h5, hw5⟩ ?_ ?_ ?_
        · rintro i σ H6 _ ⟨s', v8, v9, _, rfl, _, _, e, _⟩
          exact SqL.of e
        · rintro i x σ H6 hx ⟨s', v8, v9, ep, rfl, s6, pr6, e6, h6, hw6⟩
          obtain ⟨tt, ht, rfl⟩ := map_some hx
          have hi : i < ps.length := by rw [← pr2]; exact (List.getElem?_eq_some_iff.mp ht).1
          obtain ⟨⟨ua, ub⟩, hu'⟩ : ∃ u, ps[i]? = some u := ⟨_, List.getElem?_eq_getElem hi⟩
          obtain ⟨ts', f1, f2, f3⟩ := id pr6
          have ets : ts' = ts := by
            rw [e6] at f1
            have f1 : ts.map V.ref = ts'.map V.ref := by injection f1 with f1; injection f1
            exact (List.map_inj_right (fun a b h => by injection h)).mp f1.symm
          subst ets
          have htt := f3 i tt _ ht hu'
          have ept : prc (ps.take (i + 1)) (gs, st) = stp s' (ua, ub) := by rw [List.take_add_one, hu', Option.toList_some, prc_snoc, ep]; rfl
          have fail : stp s' (ua, ub) = none → ∀ H', Same H H' → Q .non H' := fun z => bad (by rw [← List.take_append_drop (i + 1) ps]; exact prc_pre (ept.trans z))
          obtain ⟨okS, mS, _⟩ := prc_ok okG (fun a b z => prl a b (List.mem_of_mem_take z)) ep
          have lenS := okS.len
          dsimp only [gName]
          refine ⟨tt, _, rfl, SqT.of htt, rfl, _, _, rfl, _, _, rfl, rfl, ?_⟩
          refine seq_cut fun nxC hnxC => ?_
          cases ua with
          | none => exact ⟨_, rfl, rfl, _, rfl, iteT (fail rfl _ s6)⟩
          | some a =>
            refine ⟨_, rfl, rfl, _, rfl, iteF ?_⟩
            cases ub with
            | none => exact ⟨_, rfl, rfl, _, rfl, iteT (fail rfl _ s6)⟩
            | some b =>
              refine ⟨_, rfl, rfl, _, rfl, iteF ?_⟩
              rw [stp_eq] at ept fail
              cases hgk : gk s'.1 a with
              | none =>
                rw [hgk] at ept
                have ept : prc (ps.take (i + 1)) (gs, st) = some (s'.1 ++ [(a, b)], a :: s'.2) := by rw [ept, if_pos (show (none : Option Nat).getD b = b from rfl)]; rfl
                refine ⟨_, rfl, d, rfl, .inl ⟨_, .inl h6⟩, _, rfl, _, rfl, none, .inl ⟨_, Sum.inl (a : Int), .inl h6, rfl, by rw [enc_val, hgk]; rfl⟩, _, rfl, rfl, _, rfl, ?_⟩
                show if (!decide (V.int (b : Int) = V.int (b : Int))) = true then _ else _
                rw [decide_eq_true rfl]
                refine iteF ?_
                try dsimp only [tNext]
                refine hnxC _ _ ?_
                refine ⟨_, rfl, _, rfl, d, none, rfl, .inl ⟨_, Sum.inl (a : Int), .inl h6, rfl, by rw [enc_val, hgk]; rfl⟩, _, rfl, iteT ?_⟩
                have el := enc_len s'.1
                refine ⟨_, rfl, _, rfl, _, rfl, d, _, rfl, DPut.k (k := Sum.inl (a : Int)) h6 (small1000 (by omega)), ?_⟩
                have epu : putK (enc s'.1) (Sum.inl (a : Int)) (mV (some b)) = enc (s'.1 ++ [(a, b)]) := by
                  show putK (enc s'.1) (Sum.inl (a : Int)) (V.int (b : Int)) = _
                  rw [enc_put]; unfold pput; rw [hgk]; rfl
                rw [epu]
                have hw7 : (upd H6 d (.dK (enc (s'.1 ++ [(a, b)])))) wt = some (.lst (s'.2.reverse.map nV)) := by rw [upd_ne hwd]; exact hw6
                have lst : s'.2.length ≤ 200 := by
                  have h1 : msr M1.length s' ≤ 200 := Nat.le_trans (Nat.le_trans mS mf) (by omega)
                  unfold msr at h1
                  omega
                refine ⟨_, rfl, .inl ⟨rfl, _, SqL.of hw7⟩, _, rfl, wt, _, _, rfl, rfl, hw7, (by rw [List.length_map, List.length_reverse]; exact small1000 (by omega)), ?_⟩
                have ew2 : s'.2.reverse.map nV ++ [mV (some a)] = (a :: s'.2).reverse.map nV := by rw [List.reverse_cons, List.map_append]; rfl
                rw [ew2]
                refine ⟨_, _, _, ept, rfl, Same.add (Same.add s6 hd) hwt0, (pr6.upd hld (fun u z => by rw [h6] at z; cases z)).upd hlw (fun u z => by rw [hw7] at z; cases z), ?_, ?_, upd_same⟩
                · rw [upd_ne (Ne.symm hlw), upd_ne (Ne.symm hld)]; exact e6
                · rw [upd_ne (Ne.symm hwd), upd_same]
              | some v =>
                rw [hgk] at ept fail
                refine ⟨_, rfl, d, rfl, .inl ⟨_, .inl h6⟩, _, rfl, _, rfl, some (V.int v), .inl ⟨_, Sum.inl (a : Int), .inl h6, rfl, by rw [enc_val, hgk]; rfl⟩, _, rfl, rfl, _, rfl, ?_⟩
                show if (!decide (V.int (v : Int) = V.int (b : Int))) = true then _ else _
                by_cases c : v = b
                · subst c
                  rw [decide_eq_true rfl]
                  refine iteF ?_
                  try dsimp only [tNext]
                  refine hnxC _ _ ?_
                  refine ⟨_, rfl, _, rfl, d, some (V.int v), rfl, .inl ⟨_, Sum.inl (a : Int), .inl h6, rfl, by rw [enc_val, hgk]; rfl⟩, _, rfl, iteF ?_⟩
                  refine ⟨s', _, _, ?_, rfl, s6, pr6, e6, h6, hw6⟩
                  rw [ept]
                  exact if_pos rfl
                · rw [decide_eq_false (fun z => c (by injection z with z; omega))]
                  exact iteT (fail (if_neg c) _ s6)
        · rintro σ H6 ⟨s', v8, v9, ep, rfl, s6, pr6, e6, h6, hw6⟩
          rw [List.length_map, pr2, List.take_length] at ep
          obtain ⟨okS, mS, _⟩ := prc_ok okG prl ep
          rw [ep] at eR
          refine ⟨_, ?_, s'.1, s'.2, f', _, _, _, _, rfl, Nat.le_trans mS mf, by omega, eR, okS, rfl, s6, h6, hw6⟩
          have : msr M1.length (gs, p :: st) = msr M1.length (gs, st) + 1 := by unfold msr; simp only [List.length_cons]; omega
          show msr M1.length s' < msr M1.length (gs, p :: st)
          omega
    · rintro σ H3 ⟨gs, v6, v7, v8, v9, rfl, s3, h3, hl3, eR⟩
      have el := enc_len gs
      have vl : (vI gs).length = gs.length := by unfold vI; rw [List.length_map]
      refine seq_cut fun nxC hnxC => ?_
      refine ⟨_, rfl, d, _, rfl, .inl ⟨h3, fun o => ?_⟩⟩
      intro D hD
      obtain ⟨hDd, hD3⟩ := upd_none hD
      refine loop_vals (kvs := enc gs) (fun i σ H4 => ∃ v, σ = [v] ∧ (∀ b u, b ≠ d → H3 b = some u → H4 b = some u) ∧ H4 d = some (.frz o (.dK (enc gs))) ∧ H4 D = some (.set (fun k => decide (k ∈ (vI gs).take i)) (dd ((vI gs).take i)).length)) ⟨none, rfl, fun b u hb e => by rw [upd_ne (ne_of_none e hD3), upd_ne hb]; exact e, by rw [upd_ne (Ne.symm hDd), upd_same], ?_⟩ ?_ ?_ ?_
      · rw [upd_same]
        congr 1
      · rintro i σ H4 _ ⟨v, rfl, _, e, _⟩
        exact e
      · rintro i k0 x0 σ H4 hk ⟨v, rfl, s4, e4, l4⟩
        obtain ⟨kv, hkv, rfl, rfl⟩ := enc_at hk
        have hi : i < gs.length := (List.getElem?_eq_some_iff.mp hkv).1
        have hvi : (vI gs)[i]? = some (kv.2 : Int) := by unfold vI; rw [List.getElem?_map, hkv]; rfl
        have tk : (vI gs).take (i + 1) = (vI gs).take i ++ [(kv.2 : Int)] := by rw [List.take_add_one, hvi]; rfl
        have dl := dd_len ((vI gs).take i)
        rw [List.length_take] at dl
        dsimp only [gName, tYes]
        rw [if_pos rfl]
        refine ⟨_, rfl, (kv.2 : Int), _, _, rfl, l4, by omega, _, rfl, fun b u hb e => ?_, ?_, ?_⟩
        · rw [upd_ne (ne_of_none e hD3)]; exact s4 b u hb e
        · rw [upd_ne (Ne.symm hDd)]; exact e4
        · rw [upd_same, tk, dd_snoc]
          congr 2
          · funext k
            rw [Bool.eq_iff_iff, Bool.or_eq_true, decide_eq_true_eq, decide_eq_true_eq, decide_eq_true_eq, List.mem_append, List.mem_singleton]
          · by_cases c : (kv.2 : Int) ∈ (vI gs).take i
            · rw [if_pos c, if_pos (decide_eq_true c)]
            · rw [if_neg c, if_neg (by rw [decide_eq_false c]; decide)]
      · rintro σ H4 ⟨v, rfl, s4, e4, l4⟩
        rw [el, ← vl, List.take_length] at l4
        refine ⟨d, o, _, e4, (fun o' u z => by have z : H d = some (.frz o' u) := z; rw [hd] at z; cases z), ?_⟩
        have s5 : Same H (upd H4 d (.dK (enc gs))) := fun b u e => by
          have hb : b ≠ d := fun z => by rw [z, hd] at e; cases e
          rw [upd_ne hb]; exact s4 b u hb (s3 b u e)
        have h5 : (upd H4 d (.dK (enc gs))) d = some (.dK (enc gs)) := upd_same
        have l5 : (upd H4 d (.dK (enc gs))) D = some (.set (fun k => decide (k ∈ vI gs)) (dd (vI gs)).length) := by rw [upd_ne hDd]; exact l4
        generalize upd H4 d (.dK (enc gs)) = H5 at s5 h5 l5 ⊢
        refine ⟨D, _, _, rfl, l5, _, rfl, d, _, rfl, h5, _, _, rfl, rfl, _, rfl, ?_⟩
        rw [el]
        have dl := dd_len (vI gs)
        by_cases c : (dd (vI gs)).length = gs.length
        · rw [decide_eq_false (by omega)]
          refine iteF ?_
          try dsimp only [tNext]
          refine hnxC _ _ ?_
          exact ⟨_, rfl, kS gs (by unfold layR; rw [eR]; exact if_pos c) (by omega) d H5 s5 hd h5⟩
        · rw [decide_eq_true (by omega)]
          exact iteT (kN (by unfold layR; rw [eR]; exact if_neg c) _ s5)
end
end KT
set_option maxHeartbeats 4000000
namespace KT
open PySem L2
theorem layR_lt {M1 M2 : List (Option Nat)} {s g : Nat} {gs : Prs} (n1 : ∃ n, M1.length = 3 * n ∧ n ≤ 16) (n2 : ∃ n, M2.length = 3 * n ∧ n ≤ 16) (i1 : ∀ (i j : Nat), M1[i]? = some (some j) → j < M1.length) (i2 : ∀ (i j : Nat), M2[i]? = some (some j) → j < M2.length) (hs : s < M1.length) (hg : g < M2.length) (h : layR M1 M2 s g = some gs) : LyOk M1.length M2.length gs [] := by
 have run : ∀ (f : Nat) (gs : Prs) (st : List Nat) (r : Prs), LyOk M1.length M2.length gs st → lyRun M1 M2 f gs st = some r → LyOk M1.length M2.length r [] := fun f => by
  induction f with
  | zero =>
   intro gs st r ok e
   cases st with
   | nil => cases e; exact ⟨ok.nd, ok.lt, fun p hp => absurd hp List.not_mem_nil⟩
   | cons p st => cases e
  | succ f ih =>
   intro gs st r ok e
   cases st with
   | nil => cases e; exact ⟨ok.nd, ok.lt, fun p hp => absurd hp List.not_mem_nil⟩
   | cons p st =>
    replace e : (prc (prsL M1 M2 p ((gk gs p).getD 0)) (gs, st)).bind (fun s => lyRun M1 M2 f s.1 s.2) = some r := e
    obtain ⟨q, hq⟩ := gk_has (ok.has p List.mem_cons_self)
    obtain ⟨hp1, hq1⟩ := ok.lt _ (gk_some hq)
    rw [show (gk gs p).getD 0 = q by rw [hq]; rfl] at e
    cases e1 : prc (prsL M1 M2 p q) (gs, st) with
    | none => rw [e1] at e; cases e
    | some s' =>
     rw [e1] at e
     obtain ⟨o1, _, _⟩ := prc_ok (⟨ok.nd, ok.lt, fun x hx => ok.has x (List.mem_cons_of_mem _ hx)⟩ : LyOk M1.length M2.length gs st) (prs_lt n1 n2 i1 i2 hp1 hq1) e1
     exact ih s'.1 s'.2 r o1 e
 unfold layR at h
 cases e : lyRun M1 M2 200 [(s, g)] [s] with
 | none => rw [e] at h; cases h
 | some r =>
  rw [e] at h
  replace h : (if (dd (vI r)).length = r.length then some r else none) = some gs := h
  split at h
  ·cases h
   exact run 200 _ _ _ ⟨by simp, fun kv hk => by rw [List.mem_singleton.mp hk]; exact ⟨hs, hg⟩, fun p hp => by rw [List.mem_singleton.mp hp]; exact List.mem_singleton.mpr rfl⟩ e
  ·cases h
theorem flat_nV (l : List Nat) : (l.map nV).all flatV = true := by
 rw [List.all_eq_true]
 intro x hx
 obtain ⟨y, _, rfl⟩ := List.mem_map.mp hx
 rfl
theorem eqV_nat {x y : Nat} : eqV (nV y) (nV x) = decide (y = x) := by
 show decide ((y : Int) = (x : Int)) = _
 by_cases z : y = x
 ·subst z; simp
 ·rw [decide_eq_false z, decide_eq_false (by omega)]
theorem inV_nat {x : Nat} {l : List Nat} : inV (nV x) (l.map nV) = decide (x ∈ l) := by
 unfold inV
 rw [List.any_map, Bool.eq_iff_iff, List.any_eq_true, decide_eq_true_eq]
 constructor
 ·rintro ⟨y, hy, e⟩
  have e : eqV (nV y) (nV x) = true := e
  rw [eqV_nat, decide_eq_true_eq] at e
  rw [← e]; exact hy
 ·intro h
  refine ⟨x, h, ?_⟩
  show eqV (nV x) (nV x) = true
  rw [eqV_nat, decide_eq_true rfl]
noncomputable def sp_first_laid (C : Addr) : Sp := fun vs H Q _ => ∃ (p1 p2 a : Addr) (M1 M2 : List (Option Nat)) (ns1 ns2 : List Int) (s : Nat) (sr : List Nat), vs = [.ref p1, .ref p2, .int s, .ref a] ∧ Tw C H p1 p2 M1 M2 ns1 ns2 ∧ s < M1.length ∧ H a = some (.lst (sr.map nV)) ∧ (∀ x ∈ sr, x < M2.length) ∧
 (sr.findSome? (layR M1 M2 s) = none → ∀ H', Same H H' → Q .non H') ∧ ∀ gs, sr.findSome? (layR M1 M2 s) = some gs → gs.length ≤ 48 → ∀ (d : Addr) (H' : Hp), Same H H' → H d = none → H' d = some (.dK (enc gs)) → Q (.ref d) H'
noncomputable def sp_matched (C : Addr) : Sp := fun vs H Q _ => ∃ (p1 p2 : Addr) (M1 M2 : List (Option Nat)) (ns1 ns2 : List Int), vs = [.ref p1, .ref p2] ∧ Tw C H p1 p2 M1 M2 ns1 ns2 ∧
 (matF M1 M2 = none → ∀ H', Same H H' → Q .non H') ∧ ∀ ls, matF M1 M2 = some ls → ∀ (l : Addr) (H' : Hp), Same H H' → H' l = some (.lst (ls.map nV)) → Q (.ref l) H'
theorem find_pre {α β : Type} {f : α → Option β} : ∀ {l m : List α} {b : β}, l.findSome? f = some b → (l ++ m).findSome? f = some b
 | [], _, _, h => by cases h
 | x :: l, m, b, h => by
  rw [List.cons_append, List.findSome?_cons]
  rw [List.findSome?_cons] at h
  cases e : f x with
  | some y => rw [e] at h; exact h
  | none => rw [e] at h; exact find_pre h
theorem find_snoc {α β : Type} {f : α → Option β} {l : List α} {x : α} (h : l.findSome? f = none) : (l ++ [x]).findSome? f = f x := by
 rw [List.findSome?_append, h, List.findSome?_cons]
 cases f x <;> rfl
section
variable {P : Program} {w : World} {K : PySem.W.Frag} {mg : Str → Option Value} {base : Heap} {t : Adr}
theorem sc_first_laid : FnScope ["one", "other", "start", "spare", "goal", "goals"] ["one", "other", "start", "spare"] (defScope s_first_laid) := ⟨rfl, rfl, rfl, by decide +kernel, rfl, by decide +kernel, by decide +kernel⟩
theorem ok_first_laid (T : Txt w K mg t) : FnOk P w K mg base (CXr P w) 6 t.f_first_laid t.d_first_laid ["one", "other", "start", "spare"] (sp_first_laid t.C_Tent) := by
 refine T.p_first_laid.F.okR sc_first_laid (fun vs H Q E h => ?_) (fun cdv A outer s H vs Q E hr h => ?_)
 ·obtain ⟨p1, p2, a, M1, M2, ns1, ns2, s, sr, rfl, _⟩ := h
  rfl
 ·obtain ⟨p1, p2, a, M1, M2, ns1, ns2, sp, sr, rfl, tw, hs, ha, hsr, kN, kS⟩ := h
  refine ⟨_, (pss_cons (ps_for PassesOwn.never rfl (pi_list (pv 3)) (pg_name (i := 4) sc_first_laid.nd rfl (Or.inl rfl)) (pss_cons (ps_set (i := 5) sc_first_laid.nd rfl (Or.inl rfl) (pe_call (ok_piece_laid T) (hr.mono (by decide)) rfl T.p_piece_laid.g T.p_piece_laid.F.kp T.p_piece_laid.b .nil passR (pa_cons (pv 0) (pa_cons (pv 1) (pa_cons (pv 2) (pa_cons (pv 4) pa_nil))))))
   (pss_one (ps_if (pt_cmpR op_notN (pv 5) pe_non (nomark _)) (pss_one (ps_ret (pv 5))) pss_nil))))
   (pss_one (ps_ret pe_non))), ?_⟩
  show tSeq (tFor _ _ _) _ _ _ _
  refine seq_post (fun σ H' => Same H H' ∧ sr.findSome? (layR M1 M2 sp) = none) (fun nx hnx => ?_) ?_
  ·refine ⟨_, rfl, a, rfl, ⟨_, SqL.of ha⟩, ?_⟩
   refine for_list (xs := sr.map nV) (fun i σ H' => ∃ v4 v5, σ = [some (.ref p1), some (.ref p2), some (.int sp), some (.ref a), v4, v5] ∧ Same H H' ∧ (sr.take i).findSome? (layR M1 M2 sp) = none) ⟨_, _, rfl, Same.refl _, rfl⟩ ?_ ?_ ?_
   ·rintro i σ H' _ ⟨v4, v5, rfl, s1, _⟩
    exact SqL.of (s1 _ _ ha)
   ·rintro i x σ H1 hx ⟨v4, v5, rfl, s1, hn⟩
    obtain ⟨g, hg, rfl⟩ := map_some hx
    have etk : sr.take (i + 1) = sr.take i ++ [g] := by rw [List.take_add_one, hg]; rfl
    dsimp only [gName]
    refine seq_cut fun nxC hnxC => ?_
    refine ⟨_, rfl, _, rfl, _, rfl, _, rfl, p1, p2, M1, M2, ns1, ns2, sp, g, rfl, tw.same s1, hs, hsr g (List.mem_of_getElem? hg), fun e H2 s2 => ?_, fun gs e hl d H2 s2 hd h2 => ?_⟩
    ·refine hnxC _ _ ?_
     refine ⟨_, rfl, rfl, _, rfl, iteF ⟨_, _, rfl, s1.trans s2, ?_⟩⟩
     rw [etk, find_snoc hn, e]
    ·refine hnxC _ _ ?_
     refine ⟨_, rfl, rfl, _, rfl, iteT ⟨_, rfl, kS gs ?_ hl d H2 (s1.trans s2) (s1.free hd) h2⟩⟩
     rw [← List.take_append_drop (i + 1) sr]
     exact find_pre (by rw [etk, find_snoc hn, e])
   ·rintro σ H1 ⟨v4, v5, rfl, s1, hn⟩
    rw [List.length_map, List.take_length] at hn
    exact hnx _ _ ⟨s1, hn⟩
  ·rintro σ H1 ⟨s1, hn⟩
   exact kN hn _ s1
theorem sc_matched : FnScope ["one", "other", "laid", "spare", "start", "goals", "spots"] ["one", "other"] (defScope s_matched) := ⟨rfl, rfl, rfl, by decide +kernel, rfl, by decide +kernel, by decide +kernel⟩
theorem ok_matched (T : Txt w K mg t) : FnOk P w K mg base (CXr P w) 7 t.f_matched t.d_matched ["one", "other"] (sp_matched t.C_Tent) := by
 refine T.p_matched.F.okR sc_matched (fun vs H Q E h => ?_) (fun cdv A outer s H vs Q E hr h => ?_)
 ·obtain ⟨p1, p2, M1, M2, ns1, ns2, rfl, _⟩ := h
  rfl
 ·obtain ⟨p1, p2, M1, M2, ns1, ns2, rfl, tw, kN, kS⟩ := h
  have hu := hu_of hr
  refine ⟨_, (pss_cons (ps_if (pt_cmpR op_ne (pe_meth0 (pv 0) T.cl_Tent T.p_Tent_size.m (ok_Tent_size T) (hr.mono (by decide)) T.p_Tent_size.b .nil passR) (pe_meth0 (pv 1) T.cl_Tent T.p_Tent_size.m (ok_Tent_size T) (hr.mono (by decide)) T.p_Tent_size.b .nil passR) (nomark _)) (pss_one (ps_ret pe_non)) pss_nil)
   (pss_cons (ps_set (i := 2) sc_matched.nd rfl (Or.inr rfl) pe_dnewK)
   (pss_cons (ps_set (i := 3) sc_matched.nd rfl (Or.inl rfl) (pe_meth0 (pv 1) T.cl_Tent T.p_Tent_all_places.m (ok_Tent_all_places T) (hr.mono (by decide)) T.p_Tent_all_places.b .nil passR))
   (pss_cons (ps_for PassesOwn.never rfl (pi_list (pe_meth0 (pv 0) T.cl_Tent T.p_Tent_all_places.m (ok_Tent_all_places T) (hr.mono (by decide)) T.p_Tent_all_places.b .nil passR)) (pg_name (i := 4) sc_matched.nd rfl (Or.inl rfl)) (pss_one (ps_if (pt_cmp (pc_dnotin hu (pv 4) (pv 2)) (by with_unfolding_all rfl)) (pss_cons (ps_set (i := 5) sc_matched.nd rfl (Or.inl rfl) (pe_call (ok_first_laid T) (hr.mono (by decide)) rfl T.p_first_laid.g T.p_first_laid.F.kp T.p_first_laid.b .nil passR (pa_cons (pv 0) (pa_cons (pv 1) (pa_cons (pv 4) (pa_cons (pv 3) pa_nil))))))
   (pss_cons (ps_if (pt_cmpR op_isN (pv 5) pe_non (nomark _)) (pss_one (ps_ret pe_non)) pss_nil)
   (pss_cons (ps_expr (pe_bm PySem.F.plainAttrs_dict PySem.F.slot_dict_update PySem.F.type_dict_update mt_update (pv 2) (pa_cons (pv 5) pa_nil)))
   (pss_cons (ps_set (i := 6) sc_matched.nd rfl (Or.inr rfl) (pe_listVals rfl (pv 5) ⟨rfl, rfl, rfl⟩ (by rfl) T.n_list))
   (pss_one (ps_setCompG (ts := ["place"]) (fv := [("spots", 6)]) (i := 3) ⟨rfl, by decide +kernel, by decide +kernel, blkFree (by rfl), ⟨⟨rfl, rfl, Or.inl rfl⟩, trivial⟩⟩ rfl sc_matched.nd rfl rfl (by rfl) (pi_list (pv 3)) (fun _ _ _ _ => (pg_name (i := 0) (show List.Nodup (["place", "spots"] : List Str) from by decide +kernel) rfl (Or.inl rfl) (Or.inr rfl))) (fun _ _ _ _ => (pts_one (pt_cmpR (op_notIn_seqK K) (pv 0) (pv 1) (by with_unfolding_all rfl)))) (fun _ _ _ => rfl) (fun _ _ _ _ _ _ => pb_emit (pv 0)))))))) pss_nil)))
   (pss_one (ps_ret (pe_compG (ts := ["place"]) (fv := [("laid", 2)]) ⟨rfl, by decide +kernel, by decide +kernel, blkFree (by rfl), ⟨⟨rfl, rfl, Or.inl rfl⟩, trivial⟩⟩ rfl (pi_list (pe_meth0 (pv 0) T.cl_Tent T.p_Tent_all_places.m (ok_Tent_all_places T) (hr.mono (by decide)) T.p_Tent_all_places.b .nil passR)) (fun _ _ _ _ => (pg_name (i := 0) (show List.Nodup (["place", "laid"] : List Str) from by decide +kernel) rfl (Or.inl rfl) (Or.inr rfl))) (fun _ _ _ _ => pts_nil) (fun _ _ _ => rfl) (fun _ _ _ _ _ _ => pb_emit (pe_dget hu (pv 1) (pv 0) (fun _ _ => rfl)))))))))), ?_⟩
  obtain ⟨n1, en1, ln1⟩ := tw.n1
  obtain ⟨n2, en2, ln2⟩ := tw.n2
  have hl1 := tw.l1
  have hl2 := tw.l2
  obtain ⟨d1, _, _, _, _, _, _, b1⟩ := id tw.t1
  obtain ⟨d2, _, _, _, _, _, _, b2⟩ := id tw.t2
  refine seq_cut fun nxC hnxC => ?_
  refine ⟨_, rfl, p1, d1, _, rfl, b1.ins, fl_none _ _ _ _, p1, M1, ns1, n1, rfl, tw.t1, by omega, _, rfl, p2, d2, _, rfl, b2.ins, fl_none _ _ _ _, p2, M2, ns2, n2, rfl, tw.t2, by omega, rfl, _, rfl, ?_⟩
  show if (!decide (V.int (n1 : Int) = V.int (n2 : Int))) = true then _ else _
  by_cases c : n1 = n2
  ·subst c
   rw [decide_eq_true rfl]
   refine iteF ?_
   try dsimp only [tNext]
   refine hnxC _ _ ?_
   have eM : M1.length = M2.length := en1.trans en2.symm
   unfold matF at kN kS
   rw [if_pos eM] at kN kS
   refine seq_cut fun nxC hnxC => ?_
   intro d hd
   refine hnxC _ _ ?_
   have s1 : Same H (upd H d (.dK [])) := Same.new hd
   have h1 : (upd H d (.dK [])) d = some (.dK (enc [])) := upd_same
   generalize upd H d (.dK []) = H1 at s1 h1 ⊢
   try dsimp only [gName]
   obtain ⟨d2, _, _, _, _, _, _, b2⟩ := id (tw.same s1).t2
   refine seq_cut fun nxC hnxC => ?_
   refine ⟨_, rfl, p2, d2, _, rfl, b2.ins, fl_none _ _ _ _, p2, M2, ns2, rfl, (tw.same s1).t2, by omega, fun sl hsl => ?_⟩
   refine hnxC _ _ ?_
   have s2 : Same H1 (upd H1 sl (.lst ((List.range ns2.length).map nV))) := Same.new hsl
   have h2 : (upd H1 sl (.lst ((List.range ns2.length).map nV))) sl = some (.lst ((List.range M2.length).map nV)) := by rw [upd_same, hl2]
   have h1 := s2 _ _ h1
   generalize upd H1 sl (.lst ((List.range ns2.length).map nV)) = H2 at s2 h2 h1 ⊢
   have s02 := s1.trans s2
   try dsimp only [gName]
   obtain ⟨d1, _, _, _, _, _, _, b1⟩ := id (tw.same s02).t1
   show tSeq (tFor _ _ _) _ _ _ _
   refine seq_post (fun σ H' => ∃ a v3 v4 v5 v6, σ = [some (.ref p1), some (.ref p2), some (.ref d), v3, v4, v5, v6] ∧ mtRun M1 M2 (List.range M1.length) ([], List.range M2.length) = some a ∧ Same H H' ∧ H' d = some (.dK (enc a.1)) ∧ ∀ p, p < M1.length → p ∈ a.1.map (·.1)) (fun nx hnx => ?_) ?_
   ·refine ⟨_, rfl, p1, d1, _, rfl, b1.ins, fl_none _ _ _ _, p1, M1, ns1, rfl, (tw.same s02).t1, by omega, fun al hal => ?_⟩
    have s3 : Same H2 (upd H2 al (.lst ((List.range ns1.length).map nV))) := Same.new hal
    have h3 : (upd H2 al (.lst ((List.range ns1.length).map nV))) al = some (.lst ((List.range M1.length).map nV)) := by rw [upd_same, hl1]
    have h13 := s3 _ _ h1
    have h23 := s3 _ _ h2
    generalize upd H2 al (.lst ((List.range ns1.length).map nV)) = H3 at s3 h3 h13 h23 ⊢
    have s03 := s02.trans s3
    have had : al ≠ d := fun z => by rw [z, h1] at hal; cases hal
    refine ⟨al, rfl, ⟨_, SqL.of h3⟩, ?_⟩
    refine for_list (xs := (List.range M1.length).map nV) (fun i σ H' => ∃ a sl v4 v5 v6, σ = [some (.ref p1), some (.ref p2), some (.ref d), some (.ref sl), v4, v5, v6] ∧ mtRun M1 M2 (List.range i) ([], List.range M2.length) = some a ∧ Same H H' ∧ H' al = some (.lst ((List.range M1.length).map nV)) ∧ H' d = some (.dK (enc a.1)) ∧ H' sl = some (.lst (a.2.map nV)) ∧ sl ≠ d ∧ a.1.length ≤ 48 * i ∧ (∀ x ∈ a.2, x < M2.length) ∧ a.2.length ≤ M2.length ∧ ∀ p, p < i → p ∈ a.1.map (·.1)) ⟨([], List.range M2.length), sl, _, _, _, rfl, rfl, s03, h3, h13, h23, (fun z => by rw [z, h1] at h2; cases h2), Nat.zero_le _, fun x hx => List.mem_range.mp hx, by rw [List.length_range]; exact Nat.le_refl _, fun p hp => by omega⟩ ?_ ?_ ?_
    ·rintro i σ H' _ ⟨a, sl, v4, v5, v6, rfl, _, _, e, _⟩
     exact SqL.of e
    ·rintro i x σ H4 hx ⟨a, sl, v4, v5, v6, rfl, er, s4, e4, d4, l4, nsd, ln, alt, aln, akey⟩
     obtain ⟨st, hst, rfl⟩ := map_some hx
     have hi : i < M1.length := by have := (List.getElem?_eq_some_iff.mp hst).1; rw [List.length_range] at this; exact this
     obtain rfl : st = i := by rw [List.getElem?_range hi] at hst; cases hst; rfl
     have er' : mtRun M1 M2 (List.range (st + 1)) ([], List.range M2.length) = mtSt M1 M2 a st := by rw [List.range_succ, mtRun_snoc, er]; rfl
     dsimp only [gName]
     cases hgk : gk a.1 st with
     | some v =>
      refine ⟨_, rfl, _, rfl, d, some (V.int v), rfl, .inl ⟨_, Sum.inl (st : Int), .inl d4, rfl, by rw [enc_val, hgk]; rfl⟩, _, rfl, iteF ?_⟩
      refine ⟨a, sl, _, _, _, rfl, ?_, s4, e4, d4, l4, nsd, by omega, alt, aln, fun p hp => ?_⟩
      ·rw [er']; unfold mtSt; rw [hgk]; rfl
      ·rcases Nat.lt_or_ge p st with q | q
       ·exact akey p q
       ·obtain rfl : p = st := by omega
        exact List.mem_map.mpr ⟨_, gk_some hgk, rfl⟩
     | none =>
      have em : mtSt M1 M2 a st = (a.2.findSome? (layR M1 M2 st)).map fun gs => (mrg a.1 gs, a.2.filter fun x => decide (x ∉ gs.map (·.2))) := by unfold mtSt; rw [hgk]; rfl
      refine ⟨_, rfl, _, rfl, d, none, rfl, .inl ⟨_, Sum.inl (st : Int), .inl d4, rfl, by rw [enc_val, hgk]; rfl⟩, _, rfl, iteT ?_⟩
      refine seq_cut fun nxC hnxC => ?_
      refine ⟨_, rfl, _, rfl, _, rfl, _, rfl, p1, p2, sl, M1, M2, ns1, ns2, st, a.2, rfl, tw.same s4, hi, l4, alt, fun e H5 s5 => ?_, fun gs e hgl dg H5 s5 hdg h5 => ?_⟩
      ·refine hnxC _ _ ?_
       try dsimp only [gName]
       refine ⟨_, rfl, rfl, _, rfl, iteT ?_⟩
       refine kN ?_ _ (s4.trans s5)
       have : mtRun M1 M2 (List.range M1.length) ([], List.range M2.length) = none := by
        rw [show List.range M1.length = List.range (st + 1) ++ (List.range M1.length).drop (st + 1) by
         rw [← List.take_append_drop (st + 1) (List.range M1.length), List.take_range, Nat.min_eq_left (by omega)]
         simp]
        exact mtRun_pre (by rw [er', em, e]; rfl)
       rw [this]; rfl
      ·refine hnxC _ _ ?_
       try dsimp only [gName]
       refine seq_cut fun nxC hnxC => ?_
       refine ⟨_, rfl, rfl, _, rfl, iteF ?_⟩
       try dsimp only [tNext]
       refine hnxC _ _ ?_
       have d5 := s5 _ _ d4
       have dne : d ≠ dg := fun z => by rw [← z, d4] at hdg; cases hdg
       have lm := enc_len a.1
       have lg := enc_len gs
       have b48 : a.1.length ≤ 48 * 48 := Nat.le_trans ln (Nat.mul_le_mul_left _ (by omega))
       refine seq_cut fun nxC hnxC => ?_
       refine ⟨_, rfl, .inr (.inr (.inl ⟨rfl, .inl ⟨_, d5⟩⟩)), _, rfl, d, dg, _, _, rfl, rfl, dne, d5, .inl h5, by rw [lm, lg, sizeLine_eq]; omega, ?_⟩
       rw [enc_merge]
       refine hnxC _ _ ?_
       have s6 : Same H (upd H5 d (.dK (enc (mrg a.1 gs)))) := Same.add (s4.trans s5) hd
       have d6 : (upd H5 d (.dK (enc (mrg a.1 gs)))) d = some (.dK (enc (mrg a.1 gs))) := upd_same
       have h6 : (upd H5 d (.dK (enc (mrg a.1 gs)))) dg = some (.dK (enc gs)) := by rw [upd_ne (Ne.symm dne)]; exact h5
       have l6 : (upd H5 d (.dK (enc (mrg a.1 gs)))) sl = some (.lst (a.2.map nV)) := by rw [upd_ne nsd]; exact s5 _ _ l4
       have e6 : (upd H5 d (.dK (enc (mrg a.1 gs)))) al = some (.lst ((List.range M1.length).map nV)) := by rw [upd_ne had]; exact s5 _ _ e4
       generalize upd H5 d (.dK (enc (mrg a.1 gs))) = H6 at s6 d6 h6 l6 e6 ⊢
       try dsimp only [gName]
       refine seq_cut fun nxC hnxC => ?_
       refine ⟨_, rfl, dg, _, rfl, .inl h6, fun sp hsp => ?_⟩
       refine hnxC _ _ ?_
       have ev : (enc gs).map (·.2) = (gs.map (·.2)).map nV := by unfold enc; rw [List.map_map, List.map_map]; rfl
       rw [ev]
       have s7 : Same H6 (upd H6 sp (.lst ((gs.map (·.2)).map nV))) := Same.new hsp
       have h7 : (upd H6 sp (.lst ((gs.map (·.2)).map nV))) sp = some (.lst ((gs.map (·.2)).map nV)) := upd_same
       generalize upd H6 sp (.lst ((gs.map (·.2)).map nV)) = H7 at s7 h7 ⊢
       try dsimp only [gName]
       have l7 := s7 _ _ l6
       refine ⟨_, rfl, sl, rfl, ⟨_, SqL.of l7⟩, fun D hD => ?_⟩
       refine loop_list (xs := a.2.map nV) (fun i σ H8 => ∃ v, σ = [v, some (.ref sp)] ∧ Same H7 H8 ∧ H8 D = some (.lst (((a.2.take i).filter fun x => decide (x ∉ gs.map (·.2))).map nV))) ⟨none, rfl, Same.new hD, upd_same⟩ ?_ ?_ ?_
       ·rintro j σ H8 _ ⟨v, rfl, s8, _⟩
        exact SqL.of (s8 _ _ l7)
       ·rintro j y σ H8 hy ⟨v, rfl, s8, h8⟩
        obtain ⟨z, hz, rfl⟩ := map_some hy
        have jl : j < a.2.length := (List.getElem?_eq_some_iff.mp hz).1
        have etk : a.2.take (j + 1) = a.2.take j ++ [z] := by rw [List.take_add_one, hz]; rfl
        dsimp only [gName]
        refine ⟨_, rfl, _, rfl, sp, _, rfl, .inl (SqL.of (s8 _ _ h7)), rfl, flat_nV _, _, rfl, ?_⟩
        show if (!inV (nV z) ((gs.map (·.2)).map nV)) = true then _ else _
        rw [inV_nat]
        by_cases c : z ∈ gs.map (·.2)
        ·rw [decide_eq_true c]
         refine iteF ⟨_, rfl, s8, ?_⟩
         rw [h8, etk, List.filter_append]
         simp [c]
        ·rw [decide_eq_false c]
         refine iteT ⟨_, rfl, _, h8, ?_, _, rfl, Same.add s8 hD, ?_⟩
         ·rw [List.length_map]
          have := List.length_filter_le (fun x => decide (x ∉ gs.map (·.2))) (a.2.take j)
          rw [List.length_take] at this
          exact small1000 (by omega)
         ·rw [upd_same, etk, List.filter_append, List.map_append]
          have : [z].filter (fun x => decide (x ∉ gs.map (·.2))) = [z] := by simp [c]
          rw [this]
          rfl
       ·rintro σ H8 ⟨v, rfl, s8, h8⟩
        rw [List.length_map, List.take_length] at h8
        have s78 := s7.trans s8
        refine ⟨(mrg a.1 gs, _), D, _, _, _, rfl, by rw [er', em, e]; rfl, s6.trans s78, s78 _ _ e6, s78 _ _ d6, h8, (fun z => by rw [z, s7 _ _ d6] at hD; cases hD), ?_, fun x hx => alt x (List.mem_filter.mp hx).1, Nat.le_trans (List.length_filter_le _ _) aln, fun p hp => ?_⟩
        ·have := mrg_len (more := gs) (gs := a.1)
         show (mrg a.1 gs).length ≤ 48 * (st + 1)
         omega
        ·rcases Nat.lt_or_ge p st with q | q
         ·exact mrg_keys (.inl (akey p q))
         ·obtain rfl : p = st := by omega
          obtain ⟨g, _, hg⟩ := List.exists_of_findSome?_eq_some e
          obtain ⟨k', rfl⟩ := layR_head hg
          exact mrg_keys (.inr List.mem_cons_self)
    ·rintro σ H4 ⟨a, sl, v4, v5, v6, rfl, er, s4, e4, d4, l4, nsd, ln, alt, aln, akey⟩
     rw [List.length_map, List.length_range] at er akey
     exact hnx _ _ ⟨a, _, _, _, _, rfl, er, s4, d4, akey⟩
   ·rintro σ H4 ⟨a, v3, v4, v5, v6, rfl, er, s4, d4, akey⟩
    obtain ⟨d1, _, _, _, _, _, _, b1⟩ := id (tw.same s4).t1
    refine ⟨_, rfl, p1, d1, _, rfl, b1.ins, fl_none _ _ _ _, p1, M1, ns1, rfl, (tw.same s4).t1, by omega, fun al hal => ?_⟩
    have s5 : Same H4 (upd H4 al (.lst ((List.range ns1.length).map nV))) := Same.new hal
    have h5 : (upd H4 al (.lst ((List.range ns1.length).map nV))) al = some (.lst ((List.range M1.length).map nV)) := by rw [upd_same, hl1]
    have d5 := s5 _ _ d4
    generalize upd H4 al (.lst ((List.range ns1.length).map nV)) = H5 at s5 h5 d5 ⊢
    refine ⟨al, rfl, ⟨_, SqL.of h5⟩, fun D hD => ?_⟩
    refine loop_list (xs := (List.range M1.length).map nV) (fun i σ H6 => ∃ v, σ = [v, some (.ref d)] ∧ Same H5 H6 ∧ H6 D = some (.lst (((List.range i).map fun p => (gk a.1 p).getD 0).map nV))) ⟨none, rfl, Same.new hD, upd_same⟩ ?_ ?_ ?_
    ·rintro i σ H6 _ ⟨v, rfl, s6, _⟩
     exact SqL.of (s6 _ _ h5)
    ·rintro i x σ H6 hx ⟨v, rfl, s6, h6⟩
     obtain ⟨st, hst, rfl⟩ := map_some hx
     have hi : i < M1.length := by have := (List.getElem?_eq_some_iff.mp hst).1; rw [List.length_range] at this; exact this
     obtain rfl : st = i := by rw [List.getElem?_range hi] at hst; cases hst; rfl
     obtain ⟨v, hv⟩ := gk_has (akey st hi)
     dsimp only [gName, tYes]
     rw [if_pos rfl]
     refine ⟨_, rfl, _, rfl, d, V.int v, rfl, .inl ⟨_, Sum.inl (st : Int), .inl (s6 _ _ d5), rfl, by rw [enc_val, hv]; rfl⟩, _, h6, by rw [List.length_map, List.length_map, List.length_range]; exact small1000 (by omega), _, rfl, Same.add s6 hD, ?_⟩
     rw [upd_same, List.range_succ, List.map_append, List.map_append, List.map_cons, List.map_nil, hv]
     rfl
    ·rintro σ H6 ⟨v, rfl, s6, h6⟩
     rw [List.length_map, List.length_range] at h6
     exact kS _ (by rw [er]; rfl) D H6 ((s4.trans s5).trans s6) h6
  ·rw [decide_eq_false (fun z => c (by injection z with z; omega))]
   exact iteT (kN (by unfold matF; rw [if_neg (by omega)]) _ (Same.refl _))
end
end KT
set_option maxHeartbeats 4000000
namespace KT
open PySem L2
theorem aft3 (p : Nat) : aftN (aftN (aftN p)) = p := by unfold aftN; split <;> split <;> split <;> omega
theorem gk_app {gs k : Prs} {p v : Nat} (h : gk gs p = some v) : gk (gs ++ k) p = some v := by
 unfold gk at h ⊢
 rw [List.find?_append]
 cases e : gs.find? fun kv => decide (kv.1 = p) with
 | none => rw [e] at h; cases h
 | some x => rw [e] at h; exact h
theorem gk_mem {gs : Prs} {p v : Nat} (nd : (gs.map (·.1)).Nodup) : gk gs p = some v ↔ (p, v) ∈ gs := ⟨gk_some, fun h => gk_nd' nd h⟩
where gk_nd' : ∀ {gs : Prs} {kv : Nat × Nat}, (gs.map (·.1)).Nodup → kv ∈ gs → gk gs kv.1 = some kv.2
 | [], _, _, h => absurd h List.not_mem_nil
 | x :: gs, kv, nd, h => by
  rw [List.map_cons, List.nodup_cons] at nd
  unfold gk
  rw [List.find?_cons]
  rcases List.mem_cons.mp h with e | h
  ·subst e
   rw [decide_eq_true rfl]
   rfl
  ·rw [decide_eq_false (fun z : x.1 = kv.1 => nd.1 (z ▸ List.mem_map.mpr ⟨kv, h, rfl⟩))]
   exact gk_nd' nd.2 h
theorem stp_cases {s s' : Prs × List Nat} {a b : Nat} (e : stp s (some a, some b) = some s') : (s' = s ∧ gk s.1 a = some b) ∨ (s' = (s.1 ++ [(a, b)], a :: s.2) ∧ gk s.1 a = none) := by
 rw [stp_eq] at e
 cases g : gk s.1 a with
 | some v =>
  rw [g] at e
  split at e
  ·rename_i c
   have c : v = b := c
   injection e with e
   exact .inl ⟨e.symm, by rw [c]⟩
  ·cases e
 | none =>
  rw [g, if_pos (show (none : Option Nat).getD b = b from rfl)] at e
  injection e with e
  exact .inr ⟨e.symm, rfl⟩
theorem prc_all {R : Nat → Nat → Prop} : ∀ {l : List (Option Nat × Option Nat)} {s s' : Prs × List Nat}, (∀ kv ∈ s.1, R kv.1 kv.2) → (∀ p ∈ s.2, p ∈ s.1.map (·.1)) → (∀ a b, (some a, some b) ∈ l → R a b) → prc l s = some s' → (∀ kv ∈ s'.1, R kv.1 kv.2) ∧ ∀ p ∈ s'.2, p ∈ s'.1.map (·.1)
 | [], s, s', h1, h2, _, e => by cases e; exact ⟨h1, h2⟩
 | x :: l, s, s', h1, h2, h3, e => by
  replace e : (stp s x).bind (prc l) = some s' := e
  cases e1 : stp s x with
  | none => rw [e1] at e; cases e
  | some s1 =>
   rw [e1] at e
   obtain ⟨a, b, rfl⟩ := stp_pair e1
   have e : prc l s1 = some s' := e
   have h3' := fun a b z => h3 a b (List.mem_cons_of_mem _ z)
   rcases stp_cases e1 with ⟨rfl, _⟩ | ⟨rfl, _⟩
   ·exact prc_all h1 h2 h3' e
   ·refine prc_all (s := (s.1 ++ [(a, b)], a :: s.2)) (fun kv hk => ?_) (fun p hp => ?_) h3' e
    ·rcases List.mem_append.mp hk with z | z
     ·exact h1 kv z
     ·rw [List.mem_singleton.mp z]; exact h3 a b List.mem_cons_self
    ·rw [List.map_append, List.mem_append]
     rcases List.mem_cons.mp hp with z | z
     ·exact .inr (by rw [z]; exact List.mem_singleton.mpr rfl)
     ·exact .inl (h2 p z)
theorem prs_cases {M1 M2 : List (Option Nat)} {p q : Nat} {x : Option Nat × Option Nat} (h : x ∈ prsL M1 M2 p q) : x = (some (aftN p), some (aftN q)) ∨ x = (M1.getD p none, M2.getD q none) := by
 unfold prsL at h
 rcases List.mem_cons.mp h with e | h
 ·exact .inl e
 ·split at h
  ·exact absurd h List.not_mem_nil
  ·exact .inr (List.mem_singleton.mp h)
theorem run_all {M1 M2 : List (Option Nat)} {R : Nat → Nat → Prop} (ha : ∀ p q, R p q → R (aftN p) (aftN q)) (hm : ∀ p q a b, R p q → M1.getD p none = some a → M2.getD q none = some b → R a b) : ∀ {f : Nat} {gs : Prs} {st : List Nat} {r : Prs}, (∀ kv ∈ gs, R kv.1 kv.2) → (∀ p ∈ st, p ∈ gs.map (·.1)) → lyRun M1 M2 f gs st = some r → ∀ kv ∈ r, R kv.1 kv.2
 | 0, gs, [], r, h, _, e => by cases e; exact h
 | f + 1, gs, [], r, h, _, e => by cases e; exact h
 | f + 1, gs, p :: st, r, h, hs, e => by
  replace e : (prc (prsL M1 M2 p ((gk gs p).getD 0)) (gs, st)).bind (fun s => lyRun M1 M2 f s.1 s.2) = some r := e
  obtain ⟨q, hq⟩ := gk_has (hs p List.mem_cons_self)
  rw [show (gk gs p).getD 0 = q by rw [hq]; rfl] at e
  have hR := h _ (gk_some hq)
  cases e1 : prc (prsL M1 M2 p q) (gs, st) with
  | none => rw [e1] at e; cases e
  | some s' =>
   rw [e1] at e
   obtain ⟨a1, a2⟩ := prc_all (R := R) (s := (gs, st)) h (fun x hx => hs x (List.mem_cons_of_mem _ hx)) (fun a b z => by
    rcases prs_cases z with e | e
    ·cases e; exact ha p q hR
    ·injection e with e1 e2; exact hm p q a b hR e1.symm e2.symm) e1
   exact run_all ha hm a1 a2 e
noncomputable def Done (M1 M2 : List (Option Nat)) (gs : Prs) (p v : Nat) : Prop := ∀ x ∈ prsL M1 M2 p v, ∃ a b, x = (some a, some b) ∧ gk gs a = some b
theorem Done.app {M1 M2 : List (Option Nat)} {gs k : Prs} {p v : Nat} (h : Done M1 M2 gs p v) : Done M1 M2 (gs ++ k) p v := fun x hx => by
 obtain ⟨a, b, e, g⟩ := h x hx
 exact ⟨a, b, e, gk_app g⟩
theorem prc_done : ∀ {l : List (Option Nat × Option Nat)} {s s' : Prs × List Nat}, prc l s = some s' → (∀ x ∈ l, ∃ a b, x = (some a, some b) ∧ gk s'.1 a = some b) ∧ (∀ p ∈ s.2, p ∈ s'.2) ∧ ∀ p ∈ s'.1.map (·.1), p ∈ s.1.map (·.1) ∨ p ∈ s'.2
 | [], s, s', e => by cases e; exact ⟨fun x hx => absurd hx List.not_mem_nil, fun p hp => hp, fun p hp => .inl hp⟩
 | x :: l, s, s', e => by
  replace e : (stp s x).bind (prc l) = some s' := e
  cases e1 : stp s x with
  | none => rw [e1] at e; cases e
  | some s1 =>
   rw [e1] at e
   obtain ⟨a, b, rfl⟩ := stp_pair e1
   have e : prc l s1 = some s' := e
   obtain ⟨d1, d2, d3⟩ := prc_done e
   obtain ⟨k, hk⟩ := prc_pfx e
   have g1 : gk s1.1 a = some b := by
    rcases stp_cases e1 with ⟨rfl, g⟩ | ⟨rfl, g⟩
    ·exact g
    ·have : gk (s.1 ++ [(a, b)]) a = some b := by
      unfold gk at g ⊢
      rw [List.find?_append, Option.map_eq_none_iff.mp g]
      rw [Option.none_or, List.find?_cons, decide_eq_true rfl]
      rfl
     exact this
   refine ⟨fun x hx => ?_, fun p hp => d2 p ?_, fun p hp => ?_⟩
   ·rcases List.mem_cons.mp hx with rfl | hx
    ·exact ⟨a, b, rfl, by rw [hk]; exact gk_app g1⟩
    ·exact d1 x hx
   ·rcases stp_cases e1 with ⟨rfl, _⟩ | ⟨rfl, _⟩
    ·exact hp
    ·exact List.mem_cons_of_mem _ hp
   ·rcases d3 p hp with z | z
    ·rcases stp_cases e1 with ⟨rfl, _⟩ | ⟨rfl, _⟩
     ·exact .inl z
     ·rw [List.map_append, List.mem_append] at z
      rcases z with z | z
      ·exact .inl z
      ·refine .inr (d2 p ?_)
       rw [List.mem_singleton.mp z]
       exact List.mem_cons_self
    ·exact .inr z
theorem run_done {M1 M2 : List (Option Nat)} : ∀ {f : Nat} {gs : Prs} {st : List Nat} {r : Prs}, (∀ p v, gk gs p = some v → p ∉ st → Done M1 M2 gs p v) → lyRun M1 M2 f gs st = some r → ∀ p v, gk r p = some v → Done M1 M2 r p v
 | 0, gs, [], r, h, e => by cases e; exact fun p v z => h p v z List.not_mem_nil
 | f + 1, gs, [], r, h, e => by cases e; exact fun p v z => h p v z List.not_mem_nil
 | f + 1, gs, p :: st, r, h, e => by
  replace e : (prc (prsL M1 M2 p ((gk gs p).getD 0)) (gs, st)).bind (fun s => lyRun M1 M2 f s.1 s.2) = some r := e
  cases e1 : prc (prsL M1 M2 p ((gk gs p).getD 0)) (gs, st) with
  | none => rw [e1] at e; cases e
  | some s' =>
   rw [e1] at e
   obtain ⟨d1, d2, d3⟩ := prc_done e1
   obtain ⟨k, hk⟩ := prc_pfx e1
   refine run_done (fun p' v z hn => ?_) e
   have hk : s'.1 = gs ++ k := hk
   rcases d3 p' (List.mem_map.mpr ⟨_, gk_some z, rfl⟩) with y | y
   ·obtain ⟨v', hv'⟩ := gk_has y
    have : v' = v := by
     have := gk_app (k := k) hv'
     rw [← hk, z] at this
     cases this; rfl
    subst this
    by_cases c : p' = p
    ·subst c
     intro x hx
     exact d1 x (by rw [hv']; exact hx)
    ·rw [hk]
     refine (h p' v' hv' fun y => ?_).app
     rcases List.mem_cons.mp y with y | y
     ·exact c y
     ·exact hn (d2 p' y)
   ·exact absurd y hn
structure Ly (M1 M2 : List (Option Nat)) (gs : Prs) : Prop where
 nd : (gs.map (·.1)).Nodup
 vd : (gs.map (·.2)).Nodup
 lt : ∀ kv ∈ gs, kv.1 < M1.length ∧ kv.2 < M2.length
 aft : ∀ p v, (p, v) ∈ gs → (aftN p, aftN v) ∈ gs
 mt : ∀ p v, (p, v) ∈ gs → (M1.getD p none = none ∧ M2.getD v none = none) ∨ ∃ a b, M1.getD p none = some a ∧ M2.getD v none = some b ∧ (a, b) ∈ gs
structure Cld (M : List (Option Nat)) (U : Nat → Prop) : Prop where
 a : ∀ p, U p ↔ U (aftN p)
 m : ∀ p m, M.getD p none = some m → (U p ↔ U m)
theorem dd_nd : ∀ (n : Nat) (l : List Int), l.length = n → (dd l).length = l.length → l.Nodup
 | 0, l, h, _ => by rw [List.length_eq_zero_iff.mp h]; exact List.nodup_nil
 | n + 1, l, h, e => by
  have hne : l ≠ [] := fun z => by rw [z] at h; cases h
  have el := List.dropLast_concat_getLast hne
  generalize l.dropLast = l', l.getLast hne = x at el
  subst el
  rw [List.length_append, List.length_singleton] at h e
  rw [dd_snoc] at e
  have := dd_len l'
  split at e
  ·omega
  ·rename_i c
   have ih := dd_nd n l' (by omega) (by omega)
   rw [List.nodup_append]
   exact ⟨ih, by simp, fun a ha b hb z => c (by rw [List.mem_singleton.mp hb] at z; exact z ▸ ha)⟩
theorem dd_of_nd {l : List Int} (h : l.Nodup) : (dd l).length = l.length := Nat.le_antisymm (dd_len l) (h.length_le_of_subset fun x hx => dd_mem.mpr hx)
theorem vI_nd {gs : Prs} : (vI gs).Nodup ↔ (gs.map (·.2)).Nodup := by
 unfold vI List.Nodup
 rw [List.pairwise_map, List.pairwise_map]
 constructor <;> intro h <;> refine h.imp fun {a b} z y => z ?_
 ·exact congrArg (fun (n : Nat) => (n : Int)) y
 ·exact Int.ofNat.inj y
theorem gd_iff {M : List (Option Nat)} {p m : Nat} : M.getD p none = some m ↔ M[p]? = some (some m) := by
 rw [List.getD_eq_getElem?_getD]
 cases e : M[p]? with
 | none => simp
 | some x => simp
structure Tws (M1 M2 : List (Option Nat)) : Prop where
 n1 : ∃ n, M1.length = 3 * n ∧ n ≤ 16
 n2 : ∃ n, M2.length = 3 * n ∧ n ≤ 16
 v1 : ∀ (i j : Nat), M1[i]? = some (some j) → M1[j]? = some (some i)
 v2 : ∀ (i j : Nat), M2[i]? = some (some j) → M2[j]? = some (some i)
theorem Tws.i1 {M1 M2 : List (Option Nat)} (h : Tws M1 M2) : ∀ (i j : Nat), M1[i]? = some (some j) → j < M1.length := fun i j z => (List.getElem?_eq_some_iff.mp (h.v1 i j z)).1
theorem Tws.i2 {M1 M2 : List (Option Nat)} (h : Tws M1 M2) : ∀ (i j : Nat), M2[i]? = some (some j) → j < M2.length := fun i j z => (List.getElem?_eq_some_iff.mp (h.v2 i j z)).1
theorem layR_run {M1 M2 : List (Option Nat)} {s g : Nat} {r : Prs} (h : layR M1 M2 s g = some r) : lyRun M1 M2 200 [(s, g)] [s] = some r ∧ (dd (vI r)).length = r.length := by
 unfold layR at h
 cases e : lyRun M1 M2 200 [(s, g)] [s] with
 | none => rw [e] at h; cases h
 | some gs =>
  rw [e] at h
  replace h : (if (dd (vI gs)).length = gs.length then some gs else none) = some r := h
  split at h
  ·cases h
   exact ⟨rfl, by assumption⟩
  ·cases h
theorem layR_all {M1 M2 : List (Option Nat)} {R : Nat → Nat → Prop} (ha : ∀ p q, R p q → R (aftN p) (aftN q)) (hm : ∀ p q a b, R p q → M1.getD p none = some a → M2.getD q none = some b → R a b) {s g : Nat} {r : Prs} (h0 : R s g) (h : layR M1 M2 s g = some r) : ∀ kv ∈ r, R kv.1 kv.2 :=
 run_all ha hm (fun kv hk => by rw [List.mem_singleton.mp hk]; exact h0) (fun p hp => by rw [List.mem_singleton.mp hp]; exact List.mem_singleton.mpr rfl) (layR_run h).1
theorem layR_c1 {M1 M2 : List (Option Nat)} {U : Nat → Prop} (c : Cld M1 U) {s g : Nat} {r : Prs} (h : layR M1 M2 s g = some r) : ∀ kv ∈ r, (U kv.1 ↔ U s) :=
 layR_all (R := fun p _ => (U p ↔ U s)) (fun p q z => (c.a p).symm.trans z) (fun p q a b z e _ => (c.m p a e).symm.trans z) Iff.rfl h
theorem layR_c2 {M1 M2 : List (Option Nat)} {U : Nat → Prop} (c : Cld M2 U) {s g : Nat} {r : Prs} (h : layR M1 M2 s g = some r) : ∀ kv ∈ r, (U kv.2 ↔ U g) :=
 layR_all (R := fun _ q => (U q ↔ U g)) (fun p q z => (c.a q).symm.trans z) (fun p q a b z _ e => (c.m q b e).symm.trans z) Iff.rfl h
theorem layR_ly {M1 M2 : List (Option Nat)} (t : Tws M1 M2) {s g : Nat} {r : Prs} (hs : s < M1.length) (hg : g < M2.length) (h : layR M1 M2 s g = some r) : Ly M1 M2 r := by
 obtain ⟨h1, h2⟩ := layR_run h
 have ok := layR_lt t.n1 t.n2 t.i1 t.i2 hs hg h
 have dn := run_done (M1 := M1) (M2 := M2) (f := 200) (gs := [(s, g)]) (st := [s]) (fun p v z hn => by
  have := List.mem_singleton.mp (gk_some z)
  cases this
  exact absurd (List.mem_singleton.mpr rfl) hn) h1
 have dn' : ∀ p v, (p, v) ∈ r → Done M1 M2 r p v := fun p v z => dn p v ((gk_mem ok.nd).mpr z)
 have vl : (vI r).length = r.length := by unfold vI; rw [List.length_map]
 refine ⟨ok.nd, vI_nd.mp (dd_nd _ _ rfl (by rw [vl]; exact h2)), ok.lt, fun p v z => ?_, fun p v z => ?_⟩
 ·obtain ⟨a, b, e, g⟩ := dn' p v z (some (aftN p), some (aftN v)) (by unfold prsL; exact List.mem_cons_self)
  cases e
  exact gk_some g
 ·by_cases c : M1.getD p none = none ∧ M2.getD v none = none
  ·exact .inl c
  ·obtain ⟨a, b, e, g⟩ := dn' p v z (M1.getD p none, M2.getD v none) (by unfold prsL; rw [if_neg c]; exact List.mem_cons_of_mem _ (List.mem_singleton.mpr rfl))
   injection e with e1 e2
   exact .inr ⟨a, b, e1, e2, gk_some g⟩
theorem key_of {gs : Prs} {p : Nat} : p ∈ gs.map (·.1) ↔ ∃ v, (p, v) ∈ gs := by
 rw [List.mem_map]
 refine ⟨fun zz7 => ?_, fun ⟨v, h⟩ => ⟨_, h, rfl⟩⟩
 obtain ⟨kv, h, e⟩ := zz7
 exact ⟨kv.2, by rw [← e]; exact h⟩
theorem val_of {gs : Prs} {q : Nat} : q ∈ gs.map (·.2) ↔ ∃ p, (p, q) ∈ gs := by
 rw [List.mem_map]
 refine ⟨fun zz7 => ?_, fun ⟨v, h⟩ => ⟨_, h, rfl⟩⟩
 obtain ⟨kv, h, e⟩ := zz7
 exact ⟨kv.1, by rw [← e]; exact h⟩
theorem Cld.of {M : List (Option Nat)} {U : Nat → Prop} (v : ∀ (i j : Nat), M[i]? = some (some j) → M[j]? = some (some i)) (ha : ∀ p, U p → U (aftN p)) (hm : ∀ p m, M.getD p none = some m → U p → U m) : Cld M U :=
 ⟨fun p => ⟨ha p, fun z => by have := ha _ (ha _ z); rwa [aft3] at this⟩, fun p m e => ⟨hm p m e, hm m p (gd_iff.mpr (v p m (gd_iff.mp e)))⟩⟩
theorem Ly.ck {M1 M2 : List (Option Nat)} {gs : Prs} (h : Ly M1 M2 gs) (t : Tws M1 M2) : Cld M1 fun p => p ∈ gs.map (·.1) :=
 Cld.of t.v1 (fun p z => by obtain ⟨v, z⟩ := key_of.mp z; exact key_of.mpr ⟨_, h.aft p v z⟩) fun p m e z => by
  obtain ⟨v, z⟩ := key_of.mp z
  rcases h.mt p v z with ⟨y, _⟩ | ⟨a, b, e1, e2, y⟩
  ·rw [e] at y; cases y
  ·rw [e] at e1; cases e1; exact key_of.mpr ⟨_, y⟩
theorem Ly.cv {M1 M2 : List (Option Nat)} {gs : Prs} (h : Ly M1 M2 gs) (t : Tws M1 M2) : Cld M2 fun p => p ∈ gs.map (·.2) :=
 Cld.of t.v2 (fun p z => by obtain ⟨v, z⟩ := val_of.mp z; exact val_of.mpr ⟨_, h.aft v p z⟩) fun p m e z => by
  obtain ⟨v, z⟩ := val_of.mp z
  rcases h.mt v p z with ⟨_, y⟩ | ⟨a, b, e1, e2, y⟩
  ·rw [e] at y; cases y
  ·rw [e] at e2; cases e2; exact val_of.mpr ⟨_, y⟩
theorem mrg_app : ∀ {more gs : Prs}, (∀ kv ∈ more, kv.1 ∉ gs.map (·.1)) → (more.map (·.1)).Nodup → mrg gs more = gs ++ more
 | [], gs, _, _ => (List.append_nil _).symm
 | kv :: more, gs, h, nd => by
  show mrg (pput gs kv) more = _
  have e : pput gs kv = gs ++ [kv] := by
   unfold pput
   rw [gk_none.mpr (h kv List.mem_cons_self)]
   rfl
  rw [List.map_cons, List.nodup_cons] at nd
  rw [e, mrg_app (fun kv' hk => ?_) nd.2, List.append_assoc]
  ·rfl
  ·rw [List.map_append, List.mem_append]
   rintro (z | z)
   ·exact h kv' (List.mem_cons_of_mem _ hk) z
   ·have e : kv'.1 = kv.1 := List.mem_singleton.mp z
    exact nd.1 (by rw [← e]; exact List.mem_map.mpr ⟨_, hk, rfl⟩)
theorem Ly.app {M1 M2 : List (Option Nat)} {gs r : Prs} (h : Ly M1 M2 gs) (k : Ly M1 M2 r) (d1 : ∀ kv ∈ r, kv.1 ∉ gs.map (·.1)) (d2 : ∀ kv ∈ r, kv.2 ∉ gs.map (·.2)) : Ly M1 M2 (gs ++ r) := by
 have l : ∀ {x}, x ∈ gs → x ∈ gs ++ r := fun z => List.mem_append_left _ z
 have l' : ∀ {x}, x ∈ r → x ∈ gs ++ r := fun z => List.mem_append_right _ z
 refine ⟨?_, ?_, fun kv z => (List.mem_append.mp z).elim (h.lt kv) (k.lt kv), fun p v z => (List.mem_append.mp z).elim (fun z => l (h.aft p v z)) (fun z => l' (k.aft p v z)), fun p v z => ?_⟩
 ·rw [List.map_append, List.nodup_append]
  refine ⟨h.nd, k.nd, fun a ha b hb z => ?_⟩
  obtain ⟨kv, hk, e⟩ := List.mem_map.mp hb
  exact d1 kv hk (by rw [e, ← z]; exact ha)
 ·rw [List.map_append, List.nodup_append]
  refine ⟨h.vd, k.vd, fun a ha b hb z => ?_⟩
  obtain ⟨kv, hk, e⟩ := List.mem_map.mp hb
  exact d2 kv hk (by rw [e, ← z]; exact ha)
 ·rcases List.mem_append.mp z with z | z
  ·rcases h.mt p v z with y | ⟨a, b, e1, e2, y⟩
   ·exact .inl y
   ·exact .inr ⟨a, b, e1, e2, l y⟩
  ·rcases k.mt p v z with y | ⟨a, b, e1, e2, y⟩
   ·exact .inl y
   ·exact .inr ⟨a, b, e1, e2, l' y⟩
noncomputable def MtOk (M1 M2 : List (Option Nat)) (a : Prs × List Nat) : Prop := Ly M1 M2 a.1 ∧ a.2 = (List.range M2.length).filter fun x => decide (x ∉ a.1.map (·.2))
theorem mt_put {M1 M2 : List (Option Nat)} (t : Tws M1 M2) {a : Prs × List Nat} {s g : Nat} {r : Prs} (h : MtOk M1 M2 a) (hs : s < M1.length) (hn : gk a.1 s = none) (hg : g ∈ a.2) (hr : layR M1 M2 s g = some r) :
  Ly M1 M2 r ∧ (∀ kv ∈ r, kv.1 ∉ a.1.map (·.1)) ∧ (∀ kv ∈ r, kv.2 ∉ a.1.map (·.2)) ∧ mrg a.1 r = a.1 ++ r ∧ MtOk M1 M2 (a.1 ++ r, a.2.filter fun x => decide (x ∉ r.map (·.2))) ∧ g < M2.length := by
 obtain ⟨ly, sp⟩ := h
 rw [sp] at hg
 obtain ⟨g1, g2⟩ := List.mem_filter.mp hg
 have g1 := List.mem_range.mp g1
 have g2 := of_decide_eq_true g2
 have lr := layR_ly t hs g1 hr
 have d1 : ∀ kv ∈ r, kv.1 ∉ a.1.map (·.1) := fun kv hk z => gk_none.mp hn ((layR_c1 (ly.ck t) hr kv hk).mp z)
 have d2 : ∀ kv ∈ r, kv.2 ∉ a.1.map (·.2) := fun kv hk z => g2 ((layR_c2 (ly.cv t) hr kv hk).mp z)
 refine ⟨lr, d1, d2, mrg_app d1 lr.nd, ⟨ly.app lr d1 d2, ?_⟩, g1⟩
 show a.2.filter _ = _
 rw [sp, List.filter_filter]
 apply List.filter_congr
 intro x _
 rw [Bool.eq_iff_iff, Bool.and_eq_true, decide_eq_true_eq, decide_eq_true_eq, decide_eq_true_eq, List.map_append, List.mem_append, not_or]
 exact And.comm
theorem mt_st {M1 M2 : List (Option Nat)} (t : Tws M1 M2) {a a' : Prs × List Nat} {s : Nat} (h : MtOk M1 M2 a) (hs : s < M1.length) (e : mtSt M1 M2 a s = some a') : MtOk M1 M2 a' ∧ s ∈ a'.1.map (·.1) ∧ ∀ p ∈ a.1.map (·.1), p ∈ a'.1.map (·.1) := by
 unfold mtSt at e
 cases g : gk a.1 s with
 | some v =>
  rw [g] at e
  have e : some a = some a' := e
  cases e
  exact ⟨h, List.mem_map.mpr ⟨_, gk_some g, rfl⟩, fun p hp => hp⟩
 | none =>
  rw [g] at e
  replace e : (a.2.findSome? (layR M1 M2 s)).map (fun gs => (mrg a.1 gs, a.2.filter fun x => decide (x ∉ gs.map (·.2)))) = some a' := e
  obtain ⟨r, e1, rfl⟩ := Option.map_eq_some_iff.mp e
  obtain ⟨q, hq, hr⟩ := List.exists_of_findSome?_eq_some e1
  obtain ⟨_, _, _, em, ok, _⟩ := mt_put t h hs g hq hr
  obtain ⟨k', rfl⟩ := layR_head hr
  rw [em]
  refine ⟨ok, ?_, fun p hp => ?_⟩
  ·show s ∈ (a.1 ++ (s, q) :: k').map (·.1)
   rw [List.map_append, List.mem_append]
   exact .inr List.mem_cons_self
  ·show p ∈ (a.1 ++ (s, q) :: k').map (·.1)
   rw [List.map_append, List.mem_append]
   exact .inl hp
theorem mt_run {M1 M2 : List (Option Nat)} (t : Tws M1 M2) : ∀ {l : List Nat} {a a' : Prs × List Nat}, MtOk M1 M2 a → (∀ s ∈ l, s < M1.length) → mtRun M1 M2 l a = some a' → MtOk M1 M2 a' ∧ (∀ s ∈ l, s ∈ a'.1.map (·.1)) ∧ ∀ p ∈ a.1.map (·.1), p ∈ a'.1.map (·.1)
 | [], a, a', h, _, e => by cases e; exact ⟨h, fun s hs => absurd hs List.not_mem_nil, fun p hp => hp⟩
 | s :: l, a, a', h, hl, e => by
  replace e : (mtSt M1 M2 a s).bind (mtRun M1 M2 l) = some a' := e
  cases e1 : mtSt M1 M2 a s with
  | none => rw [e1] at e; cases e
  | some a1 =>
   rw [e1] at e
   obtain ⟨h1, h2, h3⟩ := mt_st t h (hl s List.mem_cons_self) e1
   obtain ⟨k1, k2, k3⟩ := mt_run t (l := l) h1 (fun s hs => hl s (List.mem_cons_of_mem _ hs)) e
   refine ⟨k1, fun x hx => ?_, fun p hp => k3 p (h3 p hp)⟩
   rcases List.mem_cons.mp hx with rfl | hx
   ·exact k3 _ h2
   ·exact k2 x hx
structure Iso (M1 M2 : List (Option Nat)) (f : Nat → Nat) : Prop where
 len : M1.length = M2.length
 lt : ∀ p, p < M1.length → f p < M2.length
 inj : ∀ p q, p < M1.length → q < M1.length → f p = f q → p = q
 aft : ∀ p, p < M1.length → f (aftN p) = aftN (f p)
 mt : ∀ p, p < M1.length → M2.getD (f p) none = (M1.getD p none).map f
theorem mt_start {M1 M2 : List (Option Nat)} : MtOk M1 M2 ([], List.range M2.length) :=
 ⟨⟨List.nodup_nil, List.nodup_nil, fun kv h => absurd h List.not_mem_nil, fun p v h => absurd h List.not_mem_nil, fun p v h => absurd h List.not_mem_nil⟩, (List.filter_eq_self.mpr fun x _ => decide_eq_true List.not_mem_nil).symm⟩
theorem pair_one {l : Prs} (h : (l.map (·.2)).Nodup) {p q v : Nat} (h1 : (p, v) ∈ l) (h2 : (q, v) ∈ l) : p = q := by
 have e : ∀ x, (x, v) ∈ l → (v, x) ∈ l.map fun kv => (kv.2, kv.1) := fun x z => List.mem_map.mpr ⟨_, z, rfl⟩
 have nd : ((l.map fun kv => (kv.2, kv.1)).map (·.1)).Nodup := by rw [List.map_map]; exact h
 have a := (gk_mem nd).mpr (e p h1)
 have b := (gk_mem nd).mpr (e q h2)
 rw [a] at b
 cases b; rfl
theorem pair_one' {l : Prs} (h : (l.map (·.1)).Nodup) {p v w : Nat} (h1 : (p, v) ∈ l) (h2 : (p, w) ∈ l) : v = w := by
 have a := (gk_mem h).mpr h1
 have b := (gk_mem h).mpr h2
 rw [a] at b
 cases b; rfl
theorem matF_iso {M1 M2 : List (Option Nat)} (t : Tws M1 M2) {ls : List Nat} (h : matF M1 M2 = some ls) : ∃ f, Iso M1 M2 f ∧ ls = (List.range M1.length).map f := by
 unfold matF at h
 split at h
 ·rename_i c
  obtain ⟨a, e, rfl⟩ := Option.map_eq_some_iff.mp h
  obtain ⟨⟨ly, _⟩, hk, _⟩ := mt_run t mt_start (fun s hs => List.mem_range.mp hs) e
  have at' : ∀ p, p < M1.length → (p, (gk a.1 p).getD 0) ∈ a.1 := fun p hp => by
   obtain ⟨v, hv⟩ := gk_has (hk p (List.mem_range.mpr hp))
   rw [hv]; exact gk_some hv
  have is : ∀ p v, (p, v) ∈ a.1 → (gk a.1 p).getD 0 = v := fun p v z => by rw [(gk_mem ly.nd).mpr z]; rfl
  refine ⟨fun p => (gk a.1 p).getD 0, ⟨c, fun p hp => (ly.lt _ (at' p hp)).2, fun p q hp hq e => ?_, fun p hp => is _ _ (ly.aft _ _ (at' p hp)), fun p hp => ?_⟩, rfl⟩
  ·have h1 := at' p hp
   have h2 := at' q hq
   have e : (gk a.1 p).getD 0 = (gk a.1 q).getD 0 := e
   rw [e] at h1
   exact pair_one ly.vd h1 h2
  ·rcases ly.mt _ _ (at' p hp) with ⟨e1, e2⟩ | ⟨x, y, e1, e2, z⟩
   ·rw [e1]; exact e2
   ·rw [e1]
    refine e2.trans ?_
    show some y = some ((gk a.1 x).getD 0)
    rw [is x y z]
 ·cases h
end KT
set_option maxHeartbeats 4000000
namespace KT
open PySem L2
theorem prc_some {f : Nat → Nat} : ∀ {l : List (Option Nat × Option Nat)} {s : Prs × List Nat}, (∀ x ∈ l, ∃ a, x = (some a, some (f a))) → (∀ kv ∈ s.1, kv.2 = f kv.1) → ∃ s', prc l s = some s'
 | [], s, _, _ => ⟨s, rfl⟩
 | x :: l, s, hl, h => by
  obtain ⟨a, rfl⟩ := hl x List.mem_cons_self
  have hl' := fun x z => hl x (List.mem_cons_of_mem _ z)
  show ∃ s', (stp s (some a, some (f a))).bind (prc l) = some s'
  rw [stp_eq]
  cases g : gk s.1 a with
  | some v =>
   have hv : v = f a := h _ (gk_some g)
   rw [if_pos (show (some v).getD (f a) = f a from hv)]
   exact prc_some (s := s) hl' h
  | none =>
   rw [if_pos (show (none : Option Nat).getD (f a) = f a from rfl)]
   refine prc_some (s := (s.1 ++ [(a, f a)], a :: s.2)) hl' fun kv hk => ?_
   rcases List.mem_append.mp hk with z | z
   ·exact h kv z
   ·rw [List.mem_singleton.mp z]
theorem prs_iso {M1 M2 : List (Option Nat)} {f : Nat → Nat} (I : Iso M1 M2 f) {p : Nat} (hp : p < M1.length) : ∀ x ∈ prsL M1 M2 p (f p), ∃ a, x = (some a, some (f a)) := fun x hx => by
 unfold prsL at hx
 rw [I.mt p hp] at hx
 rcases List.mem_cons.mp hx with e | hx
 ·exact ⟨aftN p, by rw [I.aft p hp]; exact e⟩
 ·cases e : M1.getD p none with
  | none =>
   rw [e] at hx
   rw [if_pos ⟨rfl, rfl⟩] at hx
   exact absurd hx List.not_mem_nil
  | some m =>
   rw [e] at hx
   rw [if_neg (fun z => by cases z.1)] at hx
   exact ⟨m, List.mem_singleton.mp hx⟩
theorem run_some {M1 M2 : List (Option Nat)} {f : Nat → Nat} (t : Tws M1 M2) (I : Iso M1 M2 f) : ∀ {n : Nat} {gs : Prs} {st : List Nat}, msr M1.length (gs, st) ≤ n → LyOk M1.length M2.length gs st → (∀ kv ∈ gs, kv.2 = f kv.1) → ∃ r, lyRun M1 M2 n gs st = some r
 | n, gs, [], _, _, _ => ⟨gs, by cases n <;> rfl⟩
 | 0, gs, p :: st, h, _, _ => by
  unfold msr at h
  simp only [List.length_cons] at h
  omega
 | n + 1, gs, p :: st, h, ok, hf => by
  obtain ⟨q, hq⟩ := gk_has (ok.has p List.mem_cons_self)
  obtain ⟨hp1, hq1⟩ := ok.lt _ (gk_some hq)
  have eq : q = f p := hf _ (gk_some hq)
  subst eq
  obtain ⟨s', e⟩ := prc_some (l := prsL M1 M2 p (f p)) (s := (gs, st)) (prs_iso I hp1) hf
  obtain ⟨o1, m1, _⟩ := prc_ok (s := (gs, st)) (⟨ok.nd, ok.lt, fun x hx => ok.has x (List.mem_cons_of_mem _ hx)⟩ : LyOk M1.length M2.length gs st) (prs_lt t.n1 t.n2 t.i1 t.i2 hp1 hq1) e
  have hv := (prc_all (R := fun p q => q = f p) (s := (gs, st)) hf (fun x hx => ok.has x (List.mem_cons_of_mem _ hx)) (fun a b z => by
   obtain ⟨c, e⟩ := prs_iso I hp1 _ z
   cases e; rfl) e).1
  have hm : msr M1.length s' ≤ n := by
   have : msr M1.length (gs, p :: st) = msr M1.length (gs, st) + 1 := by unfold msr; simp only [List.length_cons]; omega
   omega
  obtain ⟨r, er⟩ := run_some t I (n := n) hm o1 hv
  refine ⟨r, ?_⟩
  show (prc (prsL M1 M2 p ((gk gs p).getD 0)) (gs, st)).bind (fun s => lyRun M1 M2 n s.1 s.2) = some r
  rw [hq, show (some (f p)).getD 0 = f p from rfl, e]
  exact er
theorem layR_iso {M1 M2 : List (Option Nat)} {f : Nat → Nat} (t : Tws M1 M2) (I : Iso M1 M2 f) {s : Nat} (hs : s < M1.length) : ∃ r, layR M1 M2 s (f s) = some r := by
 have ok : LyOk M1.length M2.length [(s, f s)] [s] := ⟨by simp, fun kv hk => by rw [List.mem_singleton.mp hk]; exact ⟨hs, I.lt s hs⟩, fun p hp => by rw [List.mem_singleton.mp hp]; exact List.mem_singleton.mpr rfl⟩
 have h0 : ∀ kv ∈ [(s, f s)], kv.2 = f kv.1 := fun kv hk => by rw [List.mem_singleton.mp hk]
 have hm : msr M1.length ([(s, f s)], [s]) ≤ 200 := by
  obtain ⟨n, e, h16⟩ := t.n1
  show 3 * (M1.length - 1) + 1 ≤ 200
  omega
 obtain ⟨r, e⟩ := run_some t I hm ok h0
 have hv := run_all (M1 := M1) (M2 := M2) (R := fun p q => (p < M1.length → q = f p) ∧ p < M1.length) (fun p q z => ⟨fun _ => by rw [z.1 z.2, I.aft p z.2], aft_lt t.n1 z.2⟩) (fun p q a b z e1 e2 => by
  have := I.mt p z.2
  rw [← z.1 z.2, e1, e2] at this
  injection this with this
  exact ⟨fun _ => this, t.i1 p a (gd_iff.mp e1)⟩) (fun kv hk => by rw [List.mem_singleton.mp hk]; exact ⟨fun _ => rfl, hs⟩) ok.has e
 have nd : (r.map (·.1)).Nodup := by
  have run : ∀ (n : Nat) (gs : Prs) (st : List Nat), LyOk M1.length M2.length gs st → lyRun M1 M2 n gs st = some r → (r.map (·.1)).Nodup := fun n => by
   induction n with
   | zero =>
    intro gs st ok e
    cases st with
    | nil => cases e; exact ok.nd
    | cons p st => cases e
   | succ n ih =>
    intro gs st ok e
    cases st with
    | nil => cases e; exact ok.nd
    | cons p st =>
     replace e : (prc (prsL M1 M2 p ((gk gs p).getD 0)) (gs, st)).bind (fun s => lyRun M1 M2 n s.1 s.2) = some r := e
     obtain ⟨q, hq⟩ := gk_has (ok.has p List.mem_cons_self)
     obtain ⟨hp1, hq1⟩ := ok.lt _ (gk_some hq)
     rw [show (gk gs p).getD 0 = q by rw [hq]; rfl] at e
     cases e1 : prc (prsL M1 M2 p q) (gs, st) with
     | none => rw [e1] at e; cases e
     | some s' =>
      rw [e1] at e
      obtain ⟨o1, _, _⟩ := prc_ok (s := (gs, st)) (⟨ok.nd, ok.lt, fun x hx => ok.has x (List.mem_cons_of_mem _ hx)⟩ : LyOk M1.length M2.length gs st) (prs_lt t.n1 t.n2 t.i1 t.i2 hp1 hq1) e1
      exact ih s'.1 s'.2 o1 e
  exact run 200 _ _ ok e
 have vd : (r.map (·.2)).Nodup := by
  unfold List.Nodup at nd ⊢
  rw [List.pairwise_map] at nd ⊢
  refine List.Pairwise.imp_of_mem (fun {a b} ha hb z y => ?_) nd
  obtain ⟨a1, a2⟩ := hv a ha
  obtain ⟨b1, b2⟩ := hv b hb
  rw [a1 a2, b1 b2] at y
  exact z (I.inj _ _ a2 b2 y)
 refine ⟨r, ?_⟩
 unfold layR
 rw [e]
 show (if (dd (vI r)).length = r.length then some r else none) = some r
 rw [if_pos]
 rw [dd_of_nd (vI_nd.mpr vd)]
 unfold vI
 rw [List.length_map]
theorem iso_swap {M1 M2 : List (Option Nat)} {f : Nat → Nat} (t : Tws M1 M2) (I : Iso M1 M2 f) {s g : Nat} {r : Prs} (hs : s < M1.length) (hg : g < M2.length) (hr : layR M1 M2 s g = some r) :
  ∃ f', Iso M1 M2 f' ∧ (∀ p v, (p, v) ∈ r → f' p = v) ∧ ∀ p, p < M1.length → p ∉ r.map (·.1) → f p ∉ r.map (·.2) → f' p = f p := by
 have ly := layR_ly t hs hg hr
 have cC := ly.ck t
 have cD := ly.cv t
 have al : ∀ p, p < M1.length ↔ aftN p < M1.length := fun p => ⟨aft_lt t.n1, fun h => by have := aft_lt t.n1 (aft_lt t.n1 h); rwa [aft3] at this⟩
 have mtl : ∀ p m, M1.getD p none = some m → p < M1.length ∧ m < M1.length := fun p m e => ⟨(List.getElem?_eq_some_iff.mp (gd_iff.mp e)).1, t.i1 p m (gd_iff.mp e)⟩
 have star : ∀ c p, c ∈ r.map (·.1) → p < M1.length → p ∉ r.map (·.1) → f p ∈ r.map (·.2) → f c ∉ r.map (·.2) := fun c p hc hp hpC hpD hcD => by
  by_cases c1 : f s ∈ r.map (·.2)
  ·have cU : Cld M2 fun q => ∃ c ∈ r.map (·.1), f c = q := Cld.of t.v2 (fun q ⟨c, h1, h2⟩ => by
     obtain ⟨v, hv⟩ := key_of.mp h1
     refine ⟨aftN c, (cC.a c).mp h1, ?_⟩
     rw [I.aft c (ly.lt _ hv).1, h2]) fun q q' e ⟨c, h1, h2⟩ => by
     obtain ⟨v, hv⟩ := key_of.mp h1
     have := I.mt c (ly.lt _ hv).1
     rw [h2, e] at this
     cases em : M1.getD c none with
     | none => rw [em] at this; cases this
     | some m =>
      rw [em] at this
      injection this with this
      exact ⟨m, (cC.m c m em).mp h1, this.symm⟩
   obtain ⟨k', ek⟩ := layR_head hr
   have sC : s ∈ r.map (·.1) := by rw [ek]; exact List.mem_cons_self
   obtain ⟨x, hx⟩ := val_of.mp c1
   have ug := (layR_c2 cU hr _ hx).mp ⟨s, sC, rfl⟩
   obtain ⟨y, hy⟩ := val_of.mp hpD
   obtain ⟨d, hd, e⟩ := (layR_c2 cU hr _ hy).mpr ug
   obtain ⟨v, hv⟩ := key_of.mp hd
   exact hpC (I.inj d p (ly.lt _ hv).1 hp e ▸ hd)
  ·have cU : Cld M1 fun p => p < M1.length ∧ f p ∈ r.map (·.2) := Cld.of t.v1 (fun p ⟨h1, h2⟩ => ⟨(al p).mp h1, by rw [I.aft p h1]; exact (cD.a _).mp h2⟩) fun p m e ⟨h1, h2⟩ => by
     have := I.mt p h1
     rw [e] at this
     exact ⟨(mtl p m e).2, (cD.m _ _ this).mp h2⟩
   obtain ⟨v, hv⟩ := key_of.mp hc
   exact c1 ((layR_c1 cU hr _ hv).mp ⟨(ly.lt _ hv).1, hcD⟩).2
 have wn : ((r.map fun kv => (kv.2, kv.1)).map (·.1)).Nodup := by rw [List.map_map]; exact ly.vd
 have wm : ∀ {c v}, (c, v) ∈ r → gk (r.map fun kv => (kv.2, kv.1)) v = some c := fun {c v} z => (gk_mem wn).mpr (List.mem_map.mpr ⟨_, z, rfl⟩)
 obtain ⟨f', F1, F2, F3⟩ : ∃ f' : Nat → Nat, (∀ p v, (p, v) ∈ r → f' p = v) ∧ (∀ p c, p ∉ r.map (·.1) → (c, f p) ∈ r → f' p = f c) ∧ ∀ p, p ∉ r.map (·.1) → f p ∉ r.map (·.2) → f' p = f p := by
  refine ⟨fun p => (gk r p).getD (((gk (r.map fun kv => (kv.2, kv.1)) (f p)).map f).getD (f p)), fun p v z => ?_, fun p c hp z => ?_, fun p hp hq => ?_⟩
  ·show (gk r p).getD _ = v
   rw [(gk_mem ly.nd).mpr z]; rfl
  ·show (gk r p).getD _ = f c
   rw [gk_none.mpr hp, wm z]; rfl
  ·show (gk r p).getD _ = f p
   rw [gk_none.mpr hp, gk_none.mpr (by rw [List.map_map]; exact hq)]; rfl
 have kinds : ∀ p, (∃ v, (p, v) ∈ r) ∨ (p ∉ r.map (·.1) ∧ ∃ c, (c, f p) ∈ r) ∨ (p ∉ r.map (·.1) ∧ f p ∉ r.map (·.2)) := fun p => by
  by_cases h1 : p ∈ r.map (·.1)
  ·exact .inl (key_of.mp h1)
  ·by_cases h2 : f p ∈ r.map (·.2)
   ·exact .inr (.inl ⟨h1, val_of.mp h2⟩)
   ·exact .inr (.inr ⟨h1, h2⟩)
 have inD : ∀ {p v}, (p, v) ∈ r → v ∈ r.map (·.2) := fun z => val_of.mpr ⟨_, z⟩
 have inC : ∀ {p v}, (p, v) ∈ r → p ∈ r.map (·.1) := fun z => key_of.mpr ⟨_, z⟩
 have ne12 : ∀ p v q c, q < M1.length → (p, v) ∈ r → q ∉ r.map (·.1) → (c, f q) ∈ r → v ≠ f c := fun p v q c hq h1 h2 h3 z => star c q (inC h3) hq h2 (inD h3) (z ▸ inD h1)
 refine ⟨f', ⟨I.len, fun p hp => ?_, fun p q hp hq e => ?_, fun p hp => ?_, fun p hp => ?_⟩, F1, fun p _ => F3 p⟩
 ·rcases kinds p with ⟨v, z⟩ | ⟨z, c, y⟩ | ⟨z, y⟩
  ·rw [F1 p v z]; exact (ly.lt _ z).2
  ·rw [F2 p c z y]; exact I.lt c (ly.lt _ y).1
  ·rw [F3 p z y]; exact I.lt p hp
 ·rcases kinds p with ⟨v, z⟩ | ⟨z, c, y⟩ | ⟨z, y⟩
  ·rw [F1 p v z] at e
   rcases kinds q with ⟨v', z'⟩ | ⟨z', c', y'⟩ | ⟨z', y'⟩
   ·rw [F1 q v' z'] at e
    subst e
    exact pair_one ly.vd z z'
   ·rw [F2 q c' z' y'] at e
    exact absurd e (ne12 p v q c' hq z z' y')
   ·rw [F3 q z' y'] at e
    exact absurd (e ▸ inD z) y'
  ·rw [F2 p c z y] at e
   rcases kinds q with ⟨v', z'⟩ | ⟨z', c', y'⟩ | ⟨z', y'⟩
   ·rw [F1 q v' z'] at e
    exact absurd e.symm (ne12 q v' p c hp z' z y)
   ·rw [F2 q c' z' y'] at e
    have := I.inj c c' (ly.lt _ y).1 (ly.lt _ y').1 e
    subst this
    exact I.inj p q hp hq (pair_one' ly.nd y y')
   ·rw [F3 q z' y'] at e
    have := I.inj c q (ly.lt _ y).1 hq e
    subst this
    exact absurd (inC y) z'
  ·rw [F3 p z y] at e
   rcases kinds q with ⟨v', z'⟩ | ⟨z', c', y'⟩ | ⟨z', y'⟩
   ·rw [F1 q v' z'] at e
    exact absurd (e ▸ inD z') y
   ·rw [F2 q c' z' y'] at e
    have := I.inj p c' hp (ly.lt _ y').1 e
    subst this
    exact absurd (inC y') z
   ·rw [F3 q z' y'] at e
    exact I.inj p q hp hq e
 ·rcases kinds p with ⟨v, z⟩ | ⟨z, c, y⟩ | ⟨z, y⟩
  ·rw [F1 p v z, F1 _ _ (ly.aft _ _ z)]
  ·have y2 := ly.aft _ _ y
   rw [← I.aft p hp] at y2
   rw [F2 p c z y, F2 (aftN p) (aftN c) (fun w => z ((cC.a p).mpr w)) y2, I.aft c (ly.lt _ y).1]
  ·rw [F3 p z y, F3 (aftN p) (fun w => z ((cC.a p).mpr w)) (fun w => y ((cD.a _).mpr (by rw [← I.aft p hp]; exact w))), I.aft p hp]
 ·rcases kinds p with ⟨v, z⟩ | ⟨z, c, y⟩ | ⟨z, y⟩
  ·rw [F1 p v z]
   rcases ly.mt _ _ z with ⟨e1, e2⟩ | ⟨a, b, e1, e2, w⟩
   ·rw [e1, e2]; rfl
   ·rw [e1, e2, Option.map_some, F1 a b w]
  ·rw [F2 p c z y, I.mt c (ly.lt _ y).1]
   have ip := I.mt p hp
   rcases ly.mt _ _ y with ⟨e1, e2⟩ | ⟨a, b, e1, e2, w⟩
   ·rw [e2] at ip
    cases em : M1.getD p none with
    | none => rw [e1]; rfl
    | some m => rw [em] at ip; cases ip
   ·rw [e2] at ip
    cases em : M1.getD p none with
    | none => rw [em] at ip; cases ip
    | some m =>
     rw [em] at ip
     injection ip with ip
     subst ip
     rw [e1, Option.map_some, Option.map_some, F2 m a (fun w => z ((cC.m p m em).mpr w)) w]
  ·rw [F3 p z y, I.mt p hp]
   cases em : M1.getD p none with
   | none => rfl
   | some m =>
    have ip := I.mt p hp
    rw [em] at ip
    rw [Option.map_some, Option.map_some, F3 m (fun w => z ((cC.m p m em).mpr w)) (fun w => y ((cD.m _ _ ip).mpr w))]
theorem mt_go {M1 M2 : List (Option Nat)} (t : Tws M1 M2) : ∀ {l : List Nat} {a : Prs × List Nat}, MtOk M1 M2 a → (∀ s ∈ l, s < M1.length) → (∃ f, Iso M1 M2 f ∧ ∀ kv ∈ a.1, kv.2 = f kv.1) → ∃ a', mtRun M1 M2 l a = some a'
 | [], a, _, _, _ => ⟨a, rfl⟩
 | s :: l, a, h, hl, ⟨f, I, hf⟩ => by
  have hs := hl s List.mem_cons_self
  have hl' := fun s z => hl s (List.mem_cons_of_mem _ z)
  show ∃ a', (mtSt M1 M2 a s).bind (mtRun M1 M2 l) = some a'
  cases g : gk a.1 s with
  | some v =>
   have e : mtSt M1 M2 a s = some a := by unfold mtSt; rw [g]; rfl
   rw [e]
   exact mt_go t (l := l) h hl' ⟨f, I, hf⟩
  | none =>
   have e : mtSt M1 M2 a s = (a.2.findSome? (layR M1 M2 s)).map (fun gs => (mrg a.1 gs, a.2.filter fun x => decide (x ∉ gs.map (·.2)))) := by unfold mtSt; rw [g]; rfl
   rw [e]
   have hfs : f s ∈ a.2 := by
    rw [h.2]
    refine List.mem_filter.mpr ⟨List.mem_range.mpr (I.lt s hs), decide_eq_true fun z => ?_⟩
    obtain ⟨p, hp⟩ := val_of.mp z
    have := hf _ hp
    have := I.inj s p hs (h.1.lt _ hp).1 this
    subst this
    exact gk_none.mp g (key_of.mpr ⟨_, hp⟩)
   obtain ⟨r0, hr0⟩ := layR_iso t I hs
   cases er : a.2.findSome? (layR M1 M2 s) with
   | none =>
    have := List.findSome?_eq_none_iff.mp er _ hfs
    rw [this] at hr0
    cases hr0
   | some r =>
    obtain ⟨q, hq, hr⟩ := List.exists_of_findSome?_eq_some er
    obtain ⟨lr, d1, d2, em, ok, hqN⟩ := mt_put t h hs g hq hr
    obtain ⟨f', I', F1, F3⟩ := iso_swap t I hs hqN hr
    show ∃ a', mtRun M1 M2 l (mrg a.1 r, _) = some a'
    rw [em]
    refine mt_go t (l := l) ok hl' ⟨f', I', fun kv hk => ?_⟩
    rcases List.mem_append.mp hk with z | z
    ·rw [F3 kv.1 (h.1.lt _ z).1 (fun w => ?_) (fun w => ?_)]
     ·exact hf kv z
     ·obtain ⟨v, hv⟩ := key_of.mp w
      exact d1 _ hv (key_of.mpr ⟨_, z⟩)
     ·rw [← hf kv z] at w
      obtain ⟨v, hv⟩ := val_of.mp w
      exact d2 _ hv (val_of.mpr ⟨_, z⟩)
    ·exact (F1 kv.1 kv.2 z).symm
theorem matF_some {M1 M2 : List (Option Nat)} (t : Tws M1 M2) {f : Nat → Nat} (I : Iso M1 M2 f) : ∃ f', Iso M1 M2 f' ∧ matF M1 M2 = some ((List.range M1.length).map f') := by
 obtain ⟨a, e⟩ := mt_go t (l := List.range M1.length) mt_start (fun s hs => List.mem_range.mp hs) ⟨f, I, fun kv h => absurd h List.not_mem_nil⟩
 have em : matF M1 M2 = some ((List.range M1.length).map fun p => (gk a.1 p).getD 0) := by
  unfold matF
  rw [if_pos I.len, e]
  rfl
 obtain ⟨f', I', ef⟩ := matF_iso t em
 exact ⟨f', I', by rw [em, ef]⟩
noncomputable def sewn (M : List (Option Nat)) : List Nat := (List.range M.length).filter fun p => (M.getD p none).isSome
noncomputable def bare (M : List (Option Nat)) : List Nat := (List.range M.length).filter fun p => !(M.getD p none).isSome
theorem iso_sub {M1 M2 : List (Option Nat)} {f : Nat → Nat} (I : Iso M1 M2 f) : (sewn M1).length ≤ (sewn M2).length ∧ (bare M1).length ≤ (bare M2).length := by
 have key : ∀ (b : Bool → Bool), (((List.range M1.length).filter fun p => b (M1.getD p none).isSome)).length ≤ ((List.range M2.length).filter fun p => b (M2.getD p none).isSome).length := fun b => by
  rw [← List.length_map (f := f)]
  refine List.Nodup.length_le_of_subset ?_ fun x hx => ?_
  ·have nd : ((List.range M1.length).filter fun p => b (M1.getD p none).isSome).Nodup := List.nodup_range.sublist (List.filter_sublist)
   unfold List.Nodup at nd ⊢
   rw [List.pairwise_map]
   exact List.Pairwise.imp_of_mem (fun {p q} hp hq z y => z (I.inj p q (List.mem_range.mp (List.mem_filter.mp hp).1) (List.mem_range.mp (List.mem_filter.mp hq).1) y)) nd
  ·obtain ⟨p, hp, rfl⟩ := List.mem_map.mp hx
   obtain ⟨h1, h2⟩ := List.mem_filter.mp hp
   have h1 := List.mem_range.mp h1
   refine List.mem_filter.mpr ⟨List.mem_range.mpr (I.lt p h1), ?_⟩
   rw [I.mt p h1, Option.isSome_map]
   exact h2
 exact ⟨key id, key (!·)⟩
theorem sewn_bare (M : List (Option Nat)) : (sewn M).length + (bare M).length = M.length := by
 unfold sewn bare
 have : ∀ l : List Nat, (l.filter fun p => (M.getD p none).isSome).length + (l.filter fun p => !(M.getD p none).isSome).length = l.length := fun l => by
  induction l with
  | nil => rfl
  | cons x l ih =>
   rw [List.filter_cons, List.filter_cons]
   cases (M.getD x none).isSome
   ·rw [if_neg (by decide), if_pos (by decide), List.length_cons, List.length_cons]; omega
   ·rw [if_pos rfl, if_neg (by decide), List.length_cons, List.length_cons]; omega
 rw [this, List.length_range]
theorem matF_cut {M1 M2 : List (Option Nat)} {f : Nat → Nat} (I : Iso M1 M2 f) {x y : Nat} (hx : M2[x]? = some (some y)) (t : Tws M1 ((M2.set y none).set x none)) : matF M1 ((M2.set y none).set x none) = none := by
 cases e : matF M1 ((M2.set y none).set x none) with
 | none => rfl
 | some ls =>
  obtain ⟨f', I', _⟩ := matF_iso t e
  have h1 := (iso_sub I').1
  have h2 := (iso_sub I).2
  have s1 := sewn_bare M1
  have s2 := sewn_bare M2
  have hl := I.len
  have hxl : x < M2.length := (List.getElem?_eq_some_iff.mp hx).1
  have h3 : (x :: sewn ((M2.set y none).set x none)).length ≤ (sewn M2).length := by
   refine List.Nodup.length_le_of_subset ?_ fun p hp => ?_
   ·rw [List.nodup_cons]
    refine ⟨fun z => ?_, List.nodup_range.sublist (List.filter_sublist)⟩
    have := (List.mem_filter.mp z).2
    rw [List.getD_eq_getElem?_getD, List.getElem?_set_self (by rw [List.length_set]; exact hxl)] at this
    cases this
   ·rcases List.mem_cons.mp hp with rfl | hp
    ·refine List.mem_filter.mpr ⟨List.mem_range.mpr hxl, ?_⟩
     rw [gd_iff.mpr hx]; rfl
    ·obtain ⟨z1, z2⟩ := List.mem_filter.mp hp
     have z1 := List.mem_range.mp z1
     rw [List.length_set, List.length_set] at z1
     refine List.mem_filter.mpr ⟨List.mem_range.mpr z1, ?_⟩
     rw [List.getD_eq_getElem?_getD, List.getElem?_set] at z2
     split at z2
     ·split at z2 <;> cases z2
     ·rw [List.getElem?_set] at z2
      split at z2
      ·split at z2 <;> cases z2
      ·rw [List.getD_eq_getElem?_getD]; exact z2
  rw [List.length_cons] at h3
  omega
end KT
set_option maxHeartbeats 4000000
namespace KT
open PySem L2
noncomputable def swC (a b z : Nat) : Nat := if z = a then b else if z = b then a else mvN false a b (mvN false a b z)
theorem mvR_at {a b : Nat} (h : a / 3 ≠ b / 3) : mvN false a b (aftN a) = befN a ∧ mvN false a b (befN b) = aftN a ∧ mvN false a b (aftN b) = befN b ∧ mvN false a b (befN a) = aftN b := by
 obtain ⟨h1, h2, h3, h4, h5, h6⟩ := four_apart h
 have e : ∀ {x y : Nat}, mvI false a b (x : Int) = (y : Int) → mvN false a b x = y := fun z => by
  have := mvN_eq false a b _ ▸ z
  exact Int.ofNat.inj this
 refine ⟨e ?_, e ?_, e ?_, e ?_⟩
 ·rw [← aftN_eq, ← befN_eq]
  unfold mvI
  rw [if_pos rfl]; rfl
 ·rw [← befN_eq, ← aftN_eq]
  unfold mvI
  rw [if_neg (Ne.symm h3), if_pos rfl]; rfl
 ·rw [← aftN_eq, ← befN_eq]
  unfold mvI
  rw [if_neg (Ne.symm h2), if_neg h6, if_pos rfl]; rfl
 ·rw [← befN_eq, ← aftN_eq]
  unfold mvI
  rw [if_neg (Ne.symm h1), if_neg h5, if_neg h4, if_pos rfl]; rfl
theorem mvR_other {a b z : Nat} (h1 : z / 3 ≠ a / 3) (h2 : z / 3 ≠ b / 3) : mvN false a b z = z := by
 have : mvI false a b (z : Int) = (z : Int) := by
  have n : ∀ {x y : Nat}, z / 3 ≠ x / 3 → y / 3 = x / 3 → ¬ (z : Int) = (y : Int) := fun p q r => p (by rw [← q]; congr 1; omega)
  unfold mvI
  rw [aftN_eq, befN_eq, aftN_eq, befN_eq, if_neg (n h1 (aftN_div a)), if_neg (n h2 (befN_div b)), if_neg (n h2 (aftN_div b)), if_neg (n h1 (befN_div a))]
 have e := mvN_eq false a b z
 rw [this] at e
 exact Int.ofNat.inj e
theorem cloth3 {a z : Nat} (h : z / 3 = a / 3) : z = a ∨ z = aftN a ∨ z = befN a := by
 unfold aftN befN
 split <;> split <;> omega
theorem ring3 (a : Nat) : aftN (aftN a) = befN a ∧ aftN (befN a) = a ∧ aftN a ≠ a ∧ befN a ≠ a := by
 unfold aftN befN
 refine ⟨?_, ?_, ?_, ?_⟩ <;> (repeat' split) <;> omega
theorem swC_at {a b : Nat} (h : a / 3 ≠ b / 3) : swC a b a = b ∧ swC a b b = a ∧ swC a b (aftN a) = aftN b ∧ swC a b (befN a) = befN b ∧ swC a b (aftN b) = aftN a ∧ swC a b (befN b) = befN a := by
 obtain ⟨r1, r2, r3, r4⟩ := mvR_at h
 obtain ⟨_, _, a3, a4⟩ := ring3 a
 obtain ⟨_, _, b3, b4⟩ := ring3 b
 have d : ∀ {x y : Nat}, x / 3 ≠ y / 3 → x ≠ y := fun p q => p (by rw [q])
 have hab : a ≠ b := d h
 unfold swC
 refine ⟨if_pos rfl, by rw [if_neg (Ne.symm hab), if_pos rfl], ?_, ?_, ?_, ?_⟩
 ·rw [if_neg a3, if_neg (d (by rw [aftN_div]; exact h)), r1, r4]
 ·rw [if_neg a4, if_neg (d (by rw [befN_div]; exact h)), r4, r3]
 ·rw [if_neg (d (by rw [aftN_div]; exact Ne.symm h)), if_neg b3, r3, r2]
 ·rw [if_neg (d (by rw [befN_div]; exact Ne.symm h)), if_neg b4, r2, r1]
theorem iso_ex {M : List (Option Nat)} {ns : List Int} {a b : Nat} (td : TD M ns) (hab : M[a]? = some (some b)) (hc : a / 3 ≠ b / 3) : Iso (exM true a b M) (exM false a b M) (swC a b) := by
 obtain ⟨n, _, _, hn⟩ := td.n
 have hba := (td.inv a b hab).1
 have ha : a < M.length := (List.getElem?_eq_some_iff.mp hab).1
 have hb : b < M.length := (List.getElem?_eq_some_iff.mp hba).1
 obtain ⟨fa, fb⟩ := mv_a (left := false) hc
 obtain ⟨la, lb⟩ := mv_a (left := true) hc
 have lt : ∀ (l : Bool) {z}, z < M.length → mvN l a b z < M.length := fun l z hz => by rw [hn] at ha hb hz ⊢; exact mvN_lt ha hb l hz
 have eL : ∀ {z}, z < M.length → (exM true a b M).getD z none = (M.getD (mvN false a b z) none).map (mvN true a b) := fun {z} hz => by
  rw [List.getD_eq_getElem?_getD, exM_get td ha hb hc true hz, List.getD_eq_getElem?_getD]
  show ((M[mvN false a b z]?).map _).getD none = _
  rw [List.getElem?_eq_getElem (lt false hz)]; rfl
 have eR : ∀ {z}, z < M.length → (exM false a b M).getD z none = (M.getD (mvN true a b z) none).map (mvN false a b) := fun {z} hz => by
  rw [List.getD_eq_getElem?_getD, exM_get td ha hb hc false hz, List.getD_eq_getElem?_getD]
  show ((M[mvN true a b z]?).map _).getD none = _
  rw [List.getElem?_eq_getElem (lt true hz)]; rfl
 obtain ⟨w1, w2, w3, w4, w5, w6⟩ := swC_at hc
 have wo : ∀ z, z ≠ a → z ≠ b → swC a b z = mvN false a b (mvN false a b z) := fun z h1 h2 => by unfold swC; rw [if_neg h1, if_neg h2]
 have inv1 : ∀ z, mvN true a b (mvN false a b z) = z := fun z => mvN_inv hc false z
 have inv2 : ∀ z, mvN false a b (mvN true a b z) = z := fun z => mvN_inv hc true z
 have fne : ∀ z, z ≠ a → mvN false a b z ≠ a := fun z h e => h (by have := congrArg (mvN true a b) e; rwa [inv1, la] at this)
 have fnb : ∀ z, z ≠ b → mvN false a b z ≠ b := fun z h e => h (by have := congrArg (mvN true a b) e; rwa [inv1, lb] at this)
 have gab : M.getD a none = some b := gd_iff.mpr hab
 have gba : M.getD b none = some a := gd_iff.mpr hba
 refine ⟨by rw [exM_len, exM_len], fun z hz => ?_, fun y z hy hz e => ?_, fun z hz => ?_, fun z hz => ?_⟩
 ·rw [exM_len] at hz ⊢
  unfold swC
  split
  ·exact hb
  ·split
   ·exact ha
   ·exact lt false (lt false hz)
 ·by_cases c1 : y = a
  ·subst c1
   rw [w1] at e
   by_cases c2 : z = y
   ·exact c2.symm
   ·by_cases c3 : z = b
    ·subst c3; rw [w2] at e; exact e.symm
    ·rw [wo z c2 c3] at e
     exact absurd e.symm (fnb _ (fnb z c3))
  ·by_cases c2 : y = b
   ·subst c2
    rw [w2] at e
    by_cases c3 : z = a
    ·subst c3; rw [w1] at e; exact e.symm
    ·by_cases c4 : z = y
     ·exact c4.symm
     ·rw [wo z c3 c4] at e
      exact absurd e.symm (fne _ (fne z c3))
   ·rw [wo y c1 c2] at e
    by_cases c3 : z = a
    ·subst c3; rw [w1] at e; exact absurd e (fnb _ (fnb y c2))
    ·by_cases c4 : z = b
     ·subst c4; rw [w2] at e; exact absurd e (fne _ (fne y c1))
     ·rw [wo z c3 c4] at e
      exact mvN_inj hc false (mvN_inj hc false e)
 ·obtain ⟨a1, a2, _, _⟩ := ring3 a
  obtain ⟨b1, b2, _, _⟩ := ring3 b
  by_cases c1 : z / 3 = a / 3
  ·rcases cloth3 c1 with rfl | rfl | rfl
   ·rw [w3, w1]
   ·rw [a1, w4, w3, b1]
   ·rw [a2, w1, w4, b2]
  ·by_cases c2 : z / 3 = b / 3
   ·rcases cloth3 c2 with rfl | rfl | rfl
    ·rw [w5, w2]
    ·rw [b1, w6, w5, a1]
    ·rw [b2, w2, w6, a2]
   ·have d1 : (aftN z) / 3 ≠ a / 3 := by rw [aftN_div]; exact c1
    have d2 : (aftN z) / 3 ≠ b / 3 := by rw [aftN_div]; exact c2
    have ne : ∀ {x y : Nat}, x / 3 ≠ y / 3 → x ≠ y := fun p q => p (by rw [q])
    rw [wo z (ne c1) (ne c2), wo _ (ne d1) (ne d2), mvR_other c1 c2, mvR_other c1 c2, mvR_other d1 d2, mvR_other d1 d2]
 ·rw [exM_len] at hz
  by_cases c1 : z = a
  ·subst c1
   rw [w1, eR hb, eL hz, lb, fa, gba, gab, Option.map_some, Option.map_some, Option.map_some, lb, w2, fa]
  ·by_cases c2 : z = b
   ·subst c2
    rw [w2, eR ha, eL hz, la, fb, gab, gba, Option.map_some, Option.map_some, Option.map_some, la, w1, fb]
   ·rw [wo z c1 c2, eR (lt false (lt false hz)), eL hz, inv1]
    cases em : M.getD (mvN false a b z) none with
    | none => rfl
    | some m =>
     have hm := (td.inv _ _ (gd_iff.mp em)).1
     rw [Option.map_some, Option.map_some, Option.map_some]
     congr 1
     have n1 : mvN true a b m ≠ a := fun e => by
      have e' := congrArg (mvN false a b) e
      rw [inv2, fa] at e'
      rw [e', hab] at hm
      exact fnb z c2 (Option.some.inj (Option.some.inj hm)).symm
     have n2 : mvN true a b m ≠ b := fun e => by
      have e' := congrArg (mvN false a b) e
      rw [inv2, fb] at e'
      rw [e', hba] at hm
      exact fne z c1 (Option.some.inj (Option.some.inj hm)).symm
     rw [wo _ n1 n2, inv2]
theorem Iso.div {M1 M2 : List (Option Nat)} {f : Nat → Nat} (I : Iso M1 M2 f) {p q : Nat} (hp : p < M1.length) (h3 : ∃ n, M1.length = 3 * n ∧ n ≤ 16) (h : q / 3 = p / 3) : f q / 3 = f p / 3 := by
 have e : ∀ x, x < M1.length → f (aftN x) / 3 = f x / 3 := fun x hx => by rw [I.aft x hx, aftN_div]
 obtain ⟨a1, _, _, _⟩ := ring3 p
 rcases cloth3 h with rfl | rfl | rfl
 ·rfl
 ·exact e p hp
 ·rw [← a1, e _ (aft_lt h3 hp), e p hp]
theorem Pl.iso {M1 M2 : List (Option Nat)} {f : Nat → Nat} (I : Iso M1 M2 f) (t : Tws M1 M2) {ws : List Nat} (h : Pl M1 ws) : Pl M2 (ws.map f) := by
 have mt : ∀ {p m}, M1[p]? = some (some m) → M2[f p]? = some (some (f m)) := fun {p m} z => by
  have hp : p < M1.length := (List.getElem?_eq_some_iff.mp z).1
  have := I.mt p hp
  rw [gd_iff.mpr z] at this
  exact gd_iff.mp this
 refine ⟨fun z => h.ne (List.map_eq_nil_iff.mp z), fun q hq => ?_, fun k x y hx hy m hm => ?_⟩
 ·obtain ⟨p, hp, rfl⟩ := List.mem_map.mp hq
  obtain ⟨m, hm⟩ := h.has p hp
  exact ⟨f m, mt hm⟩
 ·rw [List.getElem?_map] at hx hy
  rw [List.length_map] at hy
  obtain ⟨a, ha, rfl⟩ := Option.map_eq_some_iff.mp hx
  obtain ⟨p, hp, rfl⟩ := Option.map_eq_some_iff.mp hy
  obtain ⟨m', hm'⟩ := h.has a (List.mem_of_getElem? ha)
  rw [mt hm'] at hm
  cases hm
  obtain ⟨h1, h2⟩ := h.nxt k a p ha hp m' hm'
  obtain ⟨mp, hmp⟩ := h.has p (List.mem_of_getElem? hp)
  have hpl : p < M1.length := (List.getElem?_eq_some_iff.mp hmp).1
  have hml : m' < M1.length := t.i1 _ _ hm'
  exact ⟨I.div hml t.n1 h1, fun e => h2 (I.inj p m' hpl hml e)⟩
theorem iso_perm {M1 M2 : List (Option Nat)} {f : Nat → Nat} (I : Iso M1 M2 f) : ((List.range M1.length).map f).Perm (List.range M1.length) := by
 have nd : ((List.range M1.length).map f).Nodup := by
  have := List.nodup_range (n := M1.length)
  unfold List.Nodup at this ⊢
  rw [List.pairwise_map]
  exact List.Pairwise.imp_of_mem (fun {p q} hp hq z y => z (I.inj p q (List.mem_range.mp hp) (List.mem_range.mp hq) y)) this
 rw [List.perm_ext_iff_of_nodup nd List.nodup_range]
 intro x
 constructor
 ·intro h
  obtain ⟨p, hp, rfl⟩ := List.mem_map.mp h
  rw [List.mem_range, I.len]
  exact I.lt p (List.mem_range.mp hp)
 ·intro h
  apply Classical.byContradiction
  intro hn
  have : (x :: (List.range M1.length).map f).length ≤ (List.range M1.length).length := by
   refine List.Nodup.length_le_of_subset (List.nodup_cons.mpr ⟨hn, nd⟩) fun y hy => ?_
   rcases List.mem_cons.mp hy with rfl | hy
   ·exact h
   ·obtain ⟨p, hp, rfl⟩ := List.mem_map.mp hy
    rw [List.mem_range, I.len]
    exact I.lt p (List.mem_range.mp hp)
  rw [List.length_cons, List.length_map] at this
  omega
end KT
set_option maxHeartbeats 4000000
namespace KT
open PySem L2
noncomputable def sp_l_renumbered : Sp := fun vs H Q _ => ∃ (a b : Addr) (M : List (Option Nat)) (xs : List Int) (n : Nat), vs = [.ref a, .ref b] ∧ H a = some (.lst (M.map mV)) ∧ M.length = 3 * n ∧ n ≤ 14 ∧ (∀ (i j : Nat), M[i]? = some (some j) → M[j]? = some (some i) ∧ i ≠ j) ∧ H b = some (.lst (xs.map V.int)) ∧ xs.length = 20 ∧ (∀ x ∈ xs, 0 ≤ x ∧ x < 1009) ∧
 ∀ (q g l : Addr) (M' : List (Option Nat)) (H' : Hp), Same H H' → H' q = some (.tup [.ref g, .ref l]) → H l = none → H' l = some (.lst (M'.map mV)) → M'.length = 3 * n → (∀ (i j : Nat), M'[i]? = some (some j) → M'[j]? = some (some i) ∧ i ≠ j) → (∃ f, Iso M M' f) → Q (.ref q) H'
structure Gos (n k : Nat) (rl gl : List Nat) : Prop where
 nd : rl.Nodup
 rn : ∀ x ∈ rl, x < n
 rk : rl.length + k = n
 gn : gl.length = 3 * n
 lt : ∀ p, p < 3 * k → gl.getD p 0 < 3 * n ∧ gl.getD p 0 / 3 ∉ rl
 inj : ∀ p q, p < 3 * k → q < 3 * k → gl.getD p 0 = gl.getD q 0 → p = q
 af : ∀ p, p < 3 * k → gl.getD (aftN p) 0 = aftN (gl.getD p 0)
theorem er_sub {l : List Nat} {i x : Nat} (h : x ∈ l.eraseIdx i) : x ∈ l := List.mem_of_mem_eraseIdx h
theorem er_not {l : List Nat} {i c : Nat} (nd : l.Nodup) (h : l[i]? = some c) : c ∉ l.eraseIdx i := by
 intro z
 rw [List.eraseIdx_eq_take_drop_succ, List.mem_append] at z
 obtain ⟨hl, e⟩ := List.getElem?_eq_some_iff.mp h
 have e1 : l = l.take i ++ (c :: l.drop (i + 1)) := by
  rw [← e, ← List.drop_eq_getElem_cons hl, List.take_append_drop]
 rw [e1, List.nodup_append] at nd
 obtain ⟨_, n2, n3⟩ := nd
 rcases z with z | z
 ·exact n3 c z c List.mem_cons_self rfl
 ·exact (List.nodup_cons.mp n2).1 z
theorem Gos.next {n k c kk x : Nat} {rl gl gl' : List Nat} (h : Gos n k rl gl) (hc : rl[kk]? = some c) (gn : gl'.length = 3 * n) (e1 : ∀ p, p < 3 * k → gl'.getD p 0 = gl.getD p 0) (e2 : ∀ i, i < 3 → gl'.getD (3 * k + i) 0 = 3 * c + (i + x) % 3) : Gos n (k + 1) (rl.eraseIdx kk) gl' := by
 have hcm := List.mem_of_getElem? hc
 have hcn := h.rn c hcm
 have hl := (List.getElem?_eq_some_iff.mp hc).1
 have spl : ∀ p, p < 3 * (k + 1) → p < 3 * k ∨ ∃ i, i < 3 ∧ p = 3 * k + i := fun p hp => by
  rcases Nat.lt_or_ge p (3 * k) with z | z
  ·exact .inl z
  ·exact .inr ⟨p - 3 * k, by omega, by omega⟩
 refine ⟨h.nd.sublist (List.eraseIdx_sublist _ _), fun x hx => h.rn x (er_sub hx), ?_, gn, fun p hp => ?_, fun p q hp hq e => ?_, fun p hp => ?_⟩
 ·rw [List.length_eraseIdx_of_lt hl]
  have := h.rk
  omega
 ·rcases spl p hp with z | ⟨i, hi, rfl⟩
  ·rw [e1 p z]
   obtain ⟨a, b⟩ := h.lt p z
   exact ⟨a, fun z => b (er_sub z)⟩
  ·rw [e2 i hi]
   refine ⟨by omega, ?_⟩
   rw [show (3 * c + (i + x) % 3) / 3 = c by omega]
   exact er_not h.nd hc
 ·rcases spl p hp with z | ⟨i, hi, rfl⟩
  ·rcases spl q hq with y | ⟨j, hj, rfl⟩
   ·rw [e1 p z, e1 q y] at e
    exact h.inj p q z y e
   ·rw [e1 p z, e2 j hj] at e
    have := (h.lt p z).2
    rw [e, show (3 * c + (j + x) % 3) / 3 = c by omega] at this
    exact absurd hcm this
  ·rcases spl q hq with y | ⟨j, hj, rfl⟩
   ·rw [e2 i hi, e1 q y] at e
    have := (h.lt q y).2
    rw [← e, show (3 * c + (i + x) % 3) / 3 = c by omega] at this
    exact absurd hcm this
   ·rw [e2 i hi, e2 j hj] at e
    omega
 ·rcases spl p hp with z | ⟨i, hi, rfl⟩
  ·have : aftN p < 3 * k := by unfold aftN; split <;> omega
   rw [e1 p z, e1 _ this, h.af p z]
  ·have x0 := e2 0 (by decide)
   have x1 := e2 1 (by decide)
   have x2 := e2 2 (by decide)
   obtain rfl | rfl | rfl : i = 0 ∨ i = 1 ∨ i = 2 := by omega
   ·rw [show aftN (3 * k + 0) = 3 * k + 1 by unfold aftN; split <;> omega, x1, x0]
    unfold aftN
    split <;> omega
   ·rw [show aftN (3 * k + 1) = 3 * k + 2 by unfold aftN; split <;> omega, x2, x1]
    unfold aftN
    split <;> omega
   ·rw [show aftN (3 * k + 2) = 3 * k + 0 by unfold aftN; split <;> omega, x0, x2]
    unfold aftN
    split <;> omega
noncomputable def Tys (M : List (Option Nat)) (gl : List Nat) (i : Nat) (tl : List (Option Nat)) : Prop := ∀ x y, tl[x]? = some (some y) ↔ ∃ p m, p < i ∧ M[p]? = some (some m) ∧ gl.getD p 0 = x ∧ gl.getD m 0 = y
theorem Tys.skip {M : List (Option Nat)} {gl : List Nat} {i : Nat} {tl : List (Option Nat)} (h : Tys M gl i tl) (hM : M[i]? = some none) : Tys M gl (i + 1) tl := fun x y => by
 rw [h x y]
 constructor
 ·rintro ⟨p, m, hp, z⟩
  exact ⟨p, m, by omega, z⟩
 ·rintro ⟨p, m, hp, z, z2⟩
  refine ⟨p, m, ?_, z, z2⟩
  have : p ≠ i := fun e => by rw [e, hM] at z; cases z
  omega
theorem Tys.put {M : List (Option Nat)} {gl : List Nat} {i m : Nat} {tl : List (Option Nat)} (h : Tys M gl i tl) (hM : M[i]? = some (some m)) (hl : gl.getD i 0 < tl.length) (inj : ∀ p q, p < M.length → q < M.length → gl.getD p 0 = gl.getD q 0 → p = q) : Tys M gl (i + 1) (tl.set (gl.getD i 0) (some (gl.getD m 0))) := fun x y => by
 have hi := (List.getElem?_eq_some_iff.mp hM).1
 rw [List.getElem?_set]
 by_cases c : gl.getD i 0 = x
 ·rw [if_pos c, if_pos hl]
  constructor
  ·intro z
   cases z
   exact ⟨i, m, by omega, hM, c, rfl⟩
  ·rintro ⟨p, m', hp, hpm, e1, e2⟩
   have : p = i := inj p i (List.getElem?_eq_some_iff.mp hpm).1 hi (e1.trans c.symm)
   subst this
   rw [hM] at hpm
   cases hpm
   rw [e2]
 ·rw [if_neg c, h x y]
  constructor
  ·rintro ⟨p, m', hp, z⟩
   exact ⟨p, m', by omega, z⟩
  ·rintro ⟨p, m', hp, z, e1, e2⟩
   refine ⟨p, m', ?_, z, e1, e2⟩
   have : p ≠ i := fun e => c (by rw [← e]; exact e1)
   omega
section
variable {P : Program} {w : World} {K : PySem.W.Frag} {mg : Str → Option Value} {base : Heap} {t : Adr}
theorem sc_l_renumbered : FnScope ["_law_mates", "_law_nums", "_law_rest", "_law_goals_here", "_law_k", "_law_cloth", "_law_side", "_law_ties", "_law_p"] ["_law_mates", "_law_nums"] (defScope s_l_renumbered) := ⟨rfl, rfl, rfl, by decide +kernel, rfl, by decide +kernel, by decide +kernel⟩
theorem ok_l_renumbered (T : Txt w K mg t) : FnOk P w K mg base (CXr P w) 1 t.f_l_renumbered t.d_l_renumbered ["_law_mates", "_law_nums"] sp_l_renumbered := by
 refine T.p_l_renumbered.F.okR sc_l_renumbered (fun vs H Q E h => ?_) (fun cdv A outer s H vs Q E hr h => ?_)
 ·obtain ⟨a, b, M, xs, n, rfl, _⟩ := h
  rfl
 ·obtain ⟨a, b, M, xs, n, rfl, ha, hn, h14, hinv, hb, hx20, hx, k⟩ := h
  refine ⟨_, (pss_cons (ps_set (i := 2) sc_l_renumbered.nd rfl (Or.inl rfl) (pe_listRange rfl T.n_list rfl T.n_range rfl (pa_cons (pe_op op_fdiv (pe_callB call_len_seq (by rfl) T.n_len PySem.boot_len (pa_cons (pv 0) pa_nil)) pe_int) pa_nil)))
   (pss_cons (ps_set (i := 3) sc_l_renumbered.nd rfl (Or.inl rfl) (pe_op op_rep (pe_lst (pa_cons pe_int pa_nil)) (pe_callB call_len_seq (by rfl) T.n_len PySem.boot_len (pa_cons (pv 0) pa_nil))))
   (pss_cons (ps_for PassesOwn.never rfl (pi_range1 rfl T.n_range (pa_cons (pe_op op_fdiv (pe_callB call_len_seq (by rfl) T.n_len PySem.boot_len (pa_cons (pv 0) pa_nil)) pe_int) pa_nil)) (pg_name (i := 4) sc_l_renumbered.nd rfl (Or.inl rfl)) (pss_cons (ps_set (i := 5) sc_l_renumbered.nd rfl (Or.inl rfl) (pe_bm PySem.F.plainAttrs_list PySem.F.slot_list_pop PySem.F.type_list_pop mt_popAt (pv 2) (pa_cons (pe_op op_mod (pe_op op_fdiv (pe_ix ix_list (pv 1) (pv 4) (fun _ _ => rfl)) pe_int) (pe_callB call_len_seq (by rfl) T.n_len PySem.boot_len (pa_cons (pv 2) pa_nil))) pa_nil)))
   (pss_one (ps_for PassesOwn.never rfl (pi_range1 rfl T.n_range (pa_cons pe_int pa_nil)) (pg_name (i := 6) sc_l_renumbered.nd rfl (Or.inl rfl)) (pss_one (ps_asg (pe_op op_add (pe_op op_mul pe_int (pv 5)) (pe_op op_mod (pe_op op_add (pv 6) (pe_ix ix_list (pv 1) (pv 4) (fun _ _ => rfl))) pe_int)) (pg_sub (pv 3) (pe_op op_add (pe_op op_mul pe_int (pv 4)) (pv 6)) set_list)))))))
   (pss_cons (ps_set (i := 7) sc_l_renumbered.nd rfl (Or.inl rfl) (pe_op op_rep (pe_lst (pa_cons pe_non pa_nil)) (pe_callB call_len_seq (by rfl) T.n_len PySem.boot_len (pa_cons (pv 0) pa_nil))))
   (pss_cons (ps_for PassesOwn.never rfl (pi_range1 rfl T.n_range (pa_cons (pe_callB call_len_seq (by rfl) T.n_len PySem.boot_len (pa_cons (pv 0) pa_nil)) pa_nil)) (pg_name (i := 8) sc_l_renumbered.nd rfl (Or.inl rfl)) (pss_one (ps_if (pt_cmpR op_notN (pe_ix ix_list (pv 0) (pv 8) (fun _ _ => rfl)) pe_non (nomark _)) (pss_one (ps_asg (pe_ix ix_list (pv 3) (pe_ix ix_list (pv 0) (pv 8) (fun _ _ => rfl)) (fun _ _ => rfl)) (pg_sub (pv 7) (pe_ix ix_list (pv 3) (pv 8) (fun _ _ => rfl)) set_list))) pss_nil)))
   (pss_one (ps_ret (pe_tup (pa_cons (pv 3) (pa_cons (pv 7) pa_nil)))))))))), ?_⟩
  have eL : (((M.map mV).length : Nat) : Int) = ((3 * n : Nat) : Int) := by rw [List.length_map, hn]
  have eD : ((((M.map mV).length : Nat) : Int) / 3) = (n : Int) := by rw [eL]; omega
  refine seq_cut fun nxC hnxC => ?_
  refine ⟨_, rfl, a, _, rfl, .inl (SqL.of ha), _, _, rfl, rfl, ⟨by decide, by decide⟩, n, congrArg (fun z => [V.int z]) eD, by omega, fun r hr' => ?_⟩
  refine hnxC _ _ ?_
  try dsimp only [gName]
  have s1 : Same H (upd H r (.lst ((List.range n).map fun (i : Nat) => V.int i))) := Same.new hr'
  have h1 : (upd H r (.lst ((List.range n).map fun (i : Nat) => V.int i))) r = some (.lst ((List.range n).map nV)) := upd_same
  generalize upd H r (.lst ((List.range n).map fun (i : Nat) => V.int i)) = H1 at s1 h1 ⊢
  refine seq_cut fun nxC hnxC => ?_
  refine ⟨(by show 1 ≤ sizeLine; decide), fun q hq => ?_⟩
  have s2 : Same H1 (upd H1 q (.lst [V.int 0])) := Same.new hq
  refine ⟨_, rfl, a, _, rfl, .inl (SqL.of (s2 _ _ (s1 _ _ ha))), q, _, _, rfl, rfl, upd_same, (by rw [eL]; omega), (by rw [eL]; omega), ?_, fun g hg => ?_⟩
  ·rw [eL]
   show 1 * ((3 * n : Nat) : Int).toNat ≤ sizeLine
   rw [Int.toNat_natCast, sizeLine_eq]; omega
  refine hnxC _ _ ?_
  try dsimp only [gName]
  have eG : (List.replicate (((M.map mV).length : Nat) : Int).toNat [V.int 0]).flatten = (List.replicate (3 * n) 0).map nV := by
   rw [eL, Int.toNat_natCast, List.flatten_replicate_singleton, List.map_replicate]
   rfl
  rw [eG]
  generalize upd H1 q (.lst [V.int 0]) = H2 at s2 hg ⊢
  have s3 : Same H1 (upd H2 g (.lst ((List.replicate (3 * n) 0).map nV))) := s2.trans (Same.new hg)
  have h3 : (upd H2 g (.lst ((List.replicate (3 * n) 0).map nV))) g = some (.lst ((List.replicate (3 * n) 0).map nV)) := upd_same
  have hg1 : H1 g = none := s2.free hg
  have hgr : g ≠ r := fun z => by rw [z, h1] at hg1; cases hg1
  have hg0 : H g = none := s1.free hg1
  have r3 := s3 _ _ h1
  have s03 := s1.trans s3
  generalize upd H2 g (.lst ((List.replicate (3 * n) 0).map nV)) = H3 at s3 h3 r3 s03 ⊢
  clear s1 h1 s2 hg s3 hg1 hq eG
  show tSeq (tFor _ _ _) _ _ _ _
  refine seq_post (fun σ H' => ∃ gl rl v2 v4 v5 v6, σ = [some (.ref a), some (.ref b), v2, some (.ref g), v4, v5, v6, none, none] ∧ Same H H' ∧ H' g = some (.lst (gl.map nV)) ∧ Gos n n rl gl) (fun nx hnx => ?_) ?_
  ·refine ⟨_, rfl, a, _, rfl, .inl (SqL.of (s03 _ _ ha)), _, _, rfl, rfl, ⟨by decide, by decide⟩, n, congrArg (fun z => [V.int z]) eD, by omega, by omega, ?_⟩
   rw [Int.toNat_natCast]
   refine for_range (n := n) (fun i σ H' => ∃ gl rl v4 v5 v6, σ = [some (.ref a), some (.ref b), some (.ref r), some (.ref g), v4, v5, v6, none, none] ∧ Same H H' ∧ H' g = some (.lst (gl.map nV)) ∧ H' r = some (.lst (rl.map nV)) ∧ Gos n i rl gl) ⟨_, _, _, _, _, rfl, s03, h3, r3, ⟨List.nodup_range, fun x hx => List.mem_range.mp hx, by rw [List.length_range]; rfl, by rw [List.length_replicate], fun p hp => by omega, fun p q hp => by omega, fun p hp => by omega⟩⟩ ?_ ?_
   ·clear s03 h3 r3
    rintro i σ H4 hi ⟨gl, rl, v4, v5, v6, rfl, s4, g4, r4, go⟩
    rw [Int.zero_add]
    dsimp only [gName]
    have hil : i < xs.length := by omega
    obtain ⟨p0, p1⟩ := hx _ (List.getElem_mem hil)
    have hnm : ∀ {H'}, Same H H' → SqL K H' b (xs.map V.int) ∧ atI (xs.map V.int) (i : Int) = some (V.int xs[i]) := fun s' => ⟨SqL.of (s' _ _ hb), atI_nat (by rw [List.getElem?_map, List.getElem?_eq_getElem hil]; rfl)⟩
    generalize xs[i] = x at p0 p1 hnm
    have rk := go.rk
    have hrl : 0 < rl.length := by omega
    have hF : (0 : Int) < rl.length := by omega
    have k0 := Int.emod_nonneg (x / 3) (show (rl.length : Int) ≠ 0 by omega)
    have k1 := Int.emod_lt_of_pos (x / 3) hF
    obtain ⟨kk, hkk⟩ : ∃ kk : Nat, x / 3 % (rl.length : Int) = kk := ⟨_, (Int.toNat_of_nonneg k0).symm⟩
    have hkl : kk < rl.length := by omega
    obtain ⟨c, hc⟩ : ∃ c, rl[kk]? = some c := ⟨_, List.getElem?_eq_getElem hkl⟩
    have hcn := go.rn c (List.mem_of_getElem? hc)
    refine seq_cut fun nxC hnxC => ?_
    refine ⟨_, rfl, .inl ⟨rfl, _, SqL.of r4⟩, _, rfl, _, rfl, b, _, _, _, rfl, rfl, (hnm s4).1, (hnm s4).2, _, _, rfl, rfl, ⟨by decide, by decide⟩, _, rfl, r, _, rfl, .inl (SqL.of r4), _, _, rfl, rfl, (by rw [List.length_map]; exact hF), r, _, _, kk, nV c, rfl, rfl, r4, ?_, ?_, ?_, ?_, ?_⟩
    ·rw [List.length_map, hkk]; omega
    ·rw [List.length_map, hkk]; omega
    ·rw [List.length_map, hkk]; simp [seqIndex?]; omega
    ·rw [List.getElem?_map, hc]; rfl
    rw [er_map]
    refine hnxC _ _ ?_
    have s5 : Same H (upd H4 r (.lst ((rl.eraseIdx kk).map nV))) := Same.add s4 hr'
    have g5 : (upd H4 r (.lst ((rl.eraseIdx kk).map nV))) g = some (.lst (gl.map nV)) := by rw [upd_ne hgr]; exact g4
    have r5 : (upd H4 r (.lst ((rl.eraseIdx kk).map nV))) r = some (.lst ((rl.eraseIdx kk).map nV)) := upd_same
    generalize upd H4 r (.lst ((rl.eraseIdx kk).map nV)) = H5 at s5 g5 r5 ⊢
    try dsimp only [gName]
    refine ⟨3, rfl, by decide, by decide, ?_⟩
    refine for_range (n := 3) (fun j σ H' => ∃ gl' v6, σ = [some (.ref a), some (.ref b), some (.ref r), some (.ref g), some (.int i), some (nV c), v6, none, none] ∧ Same H H' ∧ H' g = some (.lst (gl'.map nV)) ∧ H' r = some (.lst ((rl.eraseIdx kk).map nV)) ∧ gl'.length = 3 * n ∧ (∀ p, p < 3 * i → gl'.getD p 0 = gl.getD p 0) ∧ ∀ m, m < j → gl'.getD (3 * i + m) 0 = 3 * c + (m + x.toNat) % 3) ⟨gl, _, rfl, s5, g5, r5, go.gn, fun p hp => rfl, fun m hm => by omega⟩ ?_ ?_
    ·rintro j σ H6 hj ⟨gl', v6, rfl, s6, g6, r6, ln6, e1, e2⟩
     rw [Int.zero_add]
     dsimp only [gName]
     have hpl : 3 * i + j < gl'.length := by omega
     refine ⟨_, rfl, _, _, rfl, rfl, .inl ⟨by decide, by decide⟩, _, rfl, _, rfl, _, rfl, b, _, _, _, rfl, rfl, (hnm s6).1, (hnm s6).2, _, _, rfl, rfl, _, _, rfl, rfl, (by show (0 : Int) < 3; decide), _, _, rfl, rfl, _, rfl, _, rfl, _, _, rfl, rfl, .inl ⟨by decide, by decide⟩, _, rfl, _, _, rfl, rfl, g, _, _, 3 * i + j, rfl, rfl, g6, ?_, ?_⟩
     ·rw [List.length_map, show (3 * (i : Int) + (j : Int)) = ((3 * i + j : Nat) : Int) by omega]
      exact ixN_nat hpl
     ·have ev : (V.int (3 * (c : Int) + ((j : Int) + x) % 3)) = nV (3 * c + (j + x.toNat) % 3) := by
       show V.int _ = V.int _
       congr 1
       omega
      show ∃ gl' v6, _
      refine ⟨gl'.set (3 * i + j) (3 * c + (j + x.toNat) % 3), _, rfl, Same.add s6 hg0, ?_, ?_, by rw [List.length_set]; exact ln6, fun p hp => ?_, fun m hm => ?_⟩
      ·rw [upd_same, ← map_set, ← ev]
      ·rw [upd_ne (Ne.symm hgr)]; exact r6
      ·rw [← e1 p hp, List.getD_eq_getElem?_getD, List.getD_eq_getElem?_getD, List.getElem?_set_ne (by omega)]
      ·by_cases z : m = j
       ·subst z
        rw [List.getD_eq_getElem?_getD, List.getElem?_set_self hpl]
        rfl
       ·rw [← e2 m (by omega), List.getD_eq_getElem?_getD, List.getD_eq_getElem?_getD, List.getElem?_set_ne (by omega)]
    ·rintro σ H6 ⟨gl', v6, rfl, s6, g6, r6, ln6, e1, e2⟩
     exact ⟨gl', _, _, _, _, rfl, s6, g6, r6, go.next hc ln6 e1 e2⟩
   ·rintro σ H4 ⟨gl, rl, v4, v5, v6, rfl, s4, g4, r4, go⟩
    exact hnx _ _ ⟨gl, rl, _, _, _, _, rfl, s4, g4, go⟩
  ·clear s03 h3 r3
   rintro σ H4 ⟨gl, rl, v2, v4, v5, v6, rfl, s4, g4, go⟩
   refine seq_cut fun nxC hnxC => ?_
   refine ⟨(by show 1 ≤ sizeLine; decide), fun q hq => ?_⟩
   have s5 : Same H4 (upd H4 q (.lst [V.non])) := Same.new hq
   refine ⟨_, rfl, a, _, rfl, .inl (SqL.of (s5 _ _ (s4 _ _ ha))), q, _, _, rfl, rfl, upd_same, (by rw [eL]; omega), (by rw [eL]; omega), ?_, fun l hl => ?_⟩
   ·rw [eL]
    show 1 * ((3 * n : Nat) : Int).toNat ≤ sizeLine
    rw [Int.toNat_natCast, sizeLine_eq]; omega
   refine hnxC _ _ ?_
   try dsimp only [gName]
   have eT : (List.replicate (((M.map mV).length : Nat) : Int).toNat [V.non]).flatten = (List.replicate (3 * n) (none : Option Nat)).map mV := by
    rw [eL, Int.toNat_natCast, List.flatten_replicate_singleton, List.map_replicate]
    rfl
   rw [eT]
   generalize upd H4 q (.lst [V.non]) = H5 at s5 hl ⊢
   have s6 : Same H4 (upd H5 l (.lst ((List.replicate (3 * n) (none : Option Nat)).map mV))) := s5.trans (Same.new hl)
   have l6 : (upd H5 l (.lst ((List.replicate (3 * n) (none : Option Nat)).map mV))) l = some (.lst ((List.replicate (3 * n) (none : Option Nat)).map mV)) := upd_same
   have hl4 : H4 l = none := s5.free hl
   have hl0 : H l = none := s4.free hl4
   have hlg : l ≠ g := fun z => by rw [z, g4] at hl4; cases hl4
   have g6 := s6 _ _ g4
   have s06 := s4.trans s6
   generalize upd H5 l (.lst ((List.replicate (3 * n) (none : Option Nat)).map mV)) = H6 at s6 l6 g6 s06 ⊢
   clear s5 hl s6 hl4 hq eT s4 g4
   have hMn : ∀ p m, M[p]? = some (some m) → m < 3 * n := fun p m z => by rw [← hn]; exact (List.getElem?_eq_some_iff.mp (hinv p m z).1).1
   have inj : ∀ p q, p < M.length → q < M.length → gl.getD p 0 = gl.getD q 0 → p = q := fun p q hp hq => go.inj p q (by omega) (by omega)
   have gat : ∀ (p : Nat), p < 3 * n → ∀ {H'}, H' g = some (.lst (gl.map nV)) → SqL K H' g (gl.map nV) ∧ atI (gl.map nV) (p : Int) = some (nV (gl.getD p 0)) := fun p hp {H'} z => ⟨SqL.of z, map_at (by rw [List.getD_eq_getElem?_getD, List.getElem?_eq_getElem (by rw [go.gn]; exact hp)]; rfl)⟩
   show tSeq (tFor _ _ _) _ _ _ _
   refine seq_post (fun σ H' => ∃ tl v8, σ = [some (.ref a), some (.ref b), v2, some (.ref g), v4, v5, v6, some (.ref l), v8] ∧ Same H H' ∧ H' l = some (.lst (tl.map mV)) ∧ tl.length = 3 * n ∧ Tys M gl (3 * n) tl) (fun nx hnx => ?_) ?_
   ·refine ⟨_, rfl, a, _, rfl, .inl (SqL.of (s06 _ _ ha)), ((3 * n : Nat) : Int), by rw [eL], by omega, by omega, ?_⟩
    rw [Int.toNat_natCast]
    refine for_range (n := 3 * n) (fun i σ H' => ∃ tl v8, σ = [some (.ref a), some (.ref b), v2, some (.ref g), v4, v5, v6, some (.ref l), v8] ∧ Same H H' ∧ H' g = some (.lst (gl.map nV)) ∧ H' l = some (.lst (tl.map mV)) ∧ tl.length = 3 * n ∧ Tys M gl i tl) ⟨_, _, rfl, s06, g6, l6, by rw [List.length_replicate], fun x y => ?_⟩ ?_ ?_
    ·constructor
     ·intro z
      obtain ⟨_, z⟩ := List.getElem?_eq_some_iff.mp z
      rw [List.getElem_replicate] at z
      cases z
     ·rintro ⟨p, m, hp, _⟩
      omega
    ·rintro i σ H7 hi ⟨tl, v8, rfl, s7, g7, l7, ln7, ty⟩
     rw [Int.zero_add]
     dsimp only [gName]
     have a7 := s7 _ _ ha
     obtain ⟨m, hm⟩ : ∃ m, M[i]? = some m := ⟨_, List.getElem?_eq_getElem (by omega)⟩
     cases m with
     | none =>
      refine ⟨_, rfl, _, rfl, a, _, _, _, rfl, rfl, SqL.of a7, map_at hm, rfl, _, rfl, iteF ⟨tl, _, rfl, s7, g7, l7, ln7, ty.skip hm⟩⟩
     | some m =>
      have hm3 := hMn i m hm
      have hgl := (go.lt i hi).1
      refine ⟨_, rfl, _, rfl, a, _, _, _, rfl, rfl, SqL.of a7, map_at hm, rfl, _, rfl, iteT ?_⟩
      refine ⟨_, rfl, _, rfl, _, rfl, a, _, _, _, rfl, rfl, SqL.of a7, map_at hm, g, _, _, _, rfl, rfl, (gat m hm3 g7).1, (gat m hm3 g7).2, _, rfl, _, rfl, _, rfl, g, _, _, _, rfl, rfl, (gat i hi g7).1, (gat i hi g7).2, l, _, _, gl.getD i 0, rfl, rfl, l7, by rw [List.length_map, ln7]; exact ixN_nat hgl, ?_⟩
      refine ⟨tl.set (gl.getD i 0) (some (gl.getD m 0)), _, rfl, Same.add s7 hl0, ?_, ?_, by rw [List.length_set]; exact ln7, ty.put hm (by rw [ln7]; exact hgl) inj⟩
      ·rw [upd_ne (Ne.symm hlg)]; exact g7
      ·rw [upd_same, ← map_set]; rfl
    ·rintro σ H7 ⟨tl, v8, rfl, s7, g7, l7, ln7, ty⟩
     exact hnx _ _ ⟨tl, _, rfl, s7, l7, ln7, ty⟩
   ·rintro σ H7 ⟨tl, v8, rfl, s7, l7, ln7, ty⟩
    refine ⟨_, rfl, _, rfl, (by show 2 ≤ sizeLine; decide), fun q hq => ?_⟩
    have ismt : ∀ p, p < M.length → tl.getD (gl.getD p 0) none = (M.getD p none).map fun p => gl.getD p 0 := fun p hp => by
     cases em : M.getD p none with
     | some m => exact gd_iff.mpr ((ty _ _).mpr ⟨p, m, by omega, gd_iff.mp em, rfl, rfl⟩)
     | none =>
      cases et : tl.getD (gl.getD p 0) none with
      | none => rfl
      | some y =>
       obtain ⟨p', m, hp', hm, e1, e2⟩ := (ty _ _).mp (gd_iff.mp et)
       have := inj p' p (by omega) hp e1
       subst this
       rw [gd_iff.mpr hm] at em
       cases em
    refine k q g l tl _ (Same.add s7 (s7.free hq)) upd_same hl0 (by rw [upd_ne (ne_of_none l7 hq)]; exact l7) ln7 (fun x y z => ?_) ⟨fun p => gl.getD p 0, by omega, fun p hp => by rw [ln7]; exact (go.lt p (by omega)).1, inj, fun p hp => go.af p (by omega), ismt⟩
    obtain ⟨p, m, hp, hpm, e1, e2⟩ := (ty x y).mp z
    obtain ⟨h1, h2⟩ := hinv p m hpm
    refine ⟨(ty y x).mpr ⟨m, p, hMn p m hpm, h1, e2, e1⟩, fun z => h2 (inj p m (by omega) (by rw [hn]; exact hMn p m hpm) (by rw [e1, e2, z]))⟩
end
end KT
set_option maxHeartbeats 4000000
namespace KT
open PySem L2
noncomputable def carL (ls ws : List Nat) : List Nat := ws.map fun p => ls.getD p 0
noncomputable def sp_carried (C EN : Addr) : Sp := fun vs H Q E => ∃ (p1 p2 a : Addr) (M1 M2 : List (Option Nat)) (ns1 ns2 : List Int) (ws : List Nat), vs = [.ref p1, .ref p2, .ref a] ∧ Tw C H p1 p2 M1 M2 ns1 ns2 ∧ H a = some (.lst (ws.map nV)) ∧ ws.length ≤ 900 ∧ (∀ x ∈ ws, x < M1.length) ∧
 (matF M1 M2 = none → ∀ H', Same H H' → E (.ref EN) none H') ∧ ∀ ls, matF M1 M2 = some ls → ∀ (l : Addr) (H' : Hp), Same H H' → H' l = some (.lst ((carL ls ws).map nV)) → Q (.ref l) H'
noncomputable def sp_l_found (C : Addr) : Sp := fun vs H Q _ => ∃ (p1 p2 a : Addr) (M1 M2 : List (Option Nat)) (ns1 ns2 : List Int) (ws : List Nat), vs = [.ref p1, .ref p2, .ref a] ∧ Tw C H p1 p2 M1 M2 ns1 ns2 ∧ H a = some (.lst (ws.map nV)) ∧ ws.length ≤ 900 ∧ (∀ x ∈ ws, x < M1.length) ∧
 (matF M1 M2 = none → ∀ (l : Addr) (H' : Hp), Same H H' → H' l = some (.lst [.str (Str.ofString "not alike")]) → Q (.ref l) H') ∧ ∀ ls, matF M1 M2 = some ls → ∀ (l : Addr) (H' : Hp), Same H H' → H' l = some (.lst ((carL ls ws).map nV)) → Q (.ref l) H'
noncomputable def sp_l_lays : Sp := fun vs H Q _ => ∃ (a b c : Addr) (M1 M2 : List (Option Nat)) (f : Nat → Nat), vs = [.ref a, .ref b, .ref c] ∧ H a = some (.lst (M1.map mV)) ∧ H b = some (.lst (M2.map mV)) ∧ H c = some (.lst (((List.range M1.length).map f).map nV)) ∧ Iso M1 M2 f ∧ Tws M1 M2 ∧ ∀ H', Same H H' → Q (.bl true) H'
theorem matF_len {M1 M2 : List (Option Nat)} {ls : List Nat} (h : matF M1 M2 = some ls) : ls.length = M1.length := by
 unfold matF at h
 split at h
 ·obtain ⟨a, _, rfl⟩ := Option.map_eq_some_iff.mp h
  rw [List.length_map, List.length_range]
 ·cases h
section
variable {P : Program} {w : World} {K : PySem.W.Frag} {mg : Str → Option Value} {base : Heap} {t : Adr}
theorem sc_carried : FnScope ["one", "other", "word", "goals", "place"] ["one", "other", "word"] (defScope s_carried) := ⟨rfl, rfl, rfl, by decide +kernel, rfl, by decide +kernel, by decide +kernel⟩
theorem ok_carried (T : Txt w K mg t) : FnOk P w K mg base (CXr P w) 8 t.f_carried t.d_carried ["one", "other", "word"] (sp_carried t.C_Tent t.E_NotAlike) := by
 refine T.p_carried.F.okX sc_carried (fun vs H Q E h => ?_) (fun cdv A outer s H vs Q E hr h => ?_)
 ·obtain ⟨p1, p2, a, M1, M2, ns1, ns2, ws, rfl, _⟩ := h
  rfl
 ·obtain ⟨p1, p2, a, M1, M2, ns1, ns2, ws, rfl, tw, ha, hl, hws, kN, kS⟩ := h
  refine ⟨_, (pssx_cons (psx_of (ps_set (i := 3) sc_carried.nd rfl (Or.inr rfl) (pe_call (ok_matched T) (hr.mono (by decide)) rfl T.p_matched.g T.p_matched.F.kp T.p_matched.b .nil passR (pa_cons (pv 0) (pa_cons (pv 1) pa_nil)))))
   (pssx_cons (psx_if (pt_cmpR op_isN (pv 3) pe_non (nomark _)) (pssx_one (psx_raise T.x_NotAlike FBV rfl T.gx_NotAlike rfl (pa_cons pe_str pa_nil))) pssx_nil)
   (pssx_cons (psx_of (ps_for PassesOwn.never rfl (pi_list (pv 2)) (pg_name (i := 4) sc_carried.nd rfl (Or.inl rfl)) (pss_one (ps_expr (pe_meth (pv 0) T.cl_Tent T.p_Tent_look_place.m (ok_Tent_look_place T) (hr.mono (by decide)) T.p_Tent_look_place.b .nil passR (pa_cons (pv 4) pa_nil))))))
   (pssx_one (psx_of (ps_ret (pe_compG (ts := ["place"]) (fv := [("goals", 3)]) ⟨rfl, by decide +kernel, by decide +kernel, blkFree (by rfl), ⟨⟨rfl, rfl, Or.inl rfl⟩, trivial⟩⟩ rfl (pi_list (pv 2)) (fun _ _ _ _ => (pg_name (i := 0) (show List.Nodup (["place", "goals"] : List Str) from by decide +kernel) rfl (Or.inl rfl) (Or.inr rfl))) (fun _ _ _ _ => pts_nil) (fun _ _ _ => rfl) (fun _ _ _ _ _ _ => pb_emit (pe_ix (ix_listK K) (pv 1) (pv 0) (fun _ _ => rfl)))))))))), ?_⟩
  refine ⟨_, rfl, _, rfl, p1, p2, M1, M2, ns1, ns2, rfl, tw, fun e H1 s1 => ?_, fun ls e g H1 s1 h1 => ?_⟩
  ·refine ⟨_, rfl, rfl, _, rfl, iteT ?_⟩
   exact ⟨by decide, kN e H1 s1⟩
  ·refine ⟨_, rfl, rfl, _, rfl, iteF ?_⟩
   have hml := matF_len e
   refine ⟨_, rfl, a, rfl, ⟨_, SqL.of (s1 _ _ ha)⟩, ?_⟩
   refine for_list (xs := ws.map nV) (fun i σ H' => ∃ v4, σ = [some (.ref p1), some (.ref p2), some (.ref a), some (.ref g), v4] ∧ H' = H1) ⟨_, rfl, rfl⟩ ?_ ?_ ?_
   ·rintro i σ H' _ ⟨v4, rfl, rfl⟩
    exact SqL.of (s1 _ _ ha)
   ·rintro i x σ H' hx ⟨v4, rfl, rfl⟩
    obtain ⟨p, hp, rfl⟩ := map_some hx
    have hpl := hws p (List.mem_of_getElem? hp)
    obtain ⟨d1, _, _, _, _, _, _, b1⟩ := id (tw.same s1).t1
    dsimp only [gName]
    refine ⟨_, rfl, p1, d1, _, rfl, b1.ins, fl_none _ _ _ _, _, rfl, p1, M1, ns1, p, rfl, (tw.same s1).t1, fun _ => ⟨_, rfl, rfl⟩, fun z => absurd ⟨by omega, by have := tw.l1; omega⟩ z⟩
   ·rintro σ H' ⟨v4, rfl, rfl⟩
    refine ⟨_, rfl, a, rfl, ⟨_, SqL.of (s1 _ _ ha)⟩, fun D hD => ?_⟩
    refine loop_list (xs := ws.map nV) (fun i σ H6 => ∃ v, σ = [v, some (.ref g)] ∧ Same H' H6 ∧ H6 D = some (.lst ((carL ls (ws.take i)).map nV))) ⟨none, rfl, Same.new hD, upd_same⟩ ?_ ?_ ?_
    ·rintro i σ H6 _ ⟨v, rfl, s6, _⟩
     exact SqL.of (s6 _ _ (s1 _ _ ha))
    ·rintro i x σ H6 hx ⟨v, rfl, s6, h6⟩
     obtain ⟨p, hp, rfl⟩ := map_some hx
     have hpl := hws p (List.mem_of_getElem? hp)
     have hil : i < ws.length := (List.getElem?_eq_some_iff.mp hp).1
     have hg : ls[p]? = some (ls.getD p 0) := by rw [List.getD_eq_getElem?_getD, List.getElem?_eq_getElem (by omega)]; rfl
     dsimp only [gName, tYes]
     rw [if_pos rfl]
     refine ⟨_, rfl, _, rfl, g, _, _, _, rfl, rfl, SqL.of (s6 _ _ h1), map_at hg, _, h6, by unfold carL; rw [List.length_map, List.length_map, List.length_take]; exact small1000 (by omega), _, rfl, Same.add s6 hD, ?_⟩
     unfold carL
     rw [upd_same, List.take_add_one, hp, List.map_append, List.map_append]
     rfl
    ·rintro σ H6 ⟨v, rfl, s6, h6⟩
     rw [List.length_map, List.take_length] at h6
     exact kS ls e D H6 (s1.trans s6) h6
theorem sc_l_found : FnScope ["_law_one", "_law_other", "_law_word", "_law_told"] ["_law_one", "_law_other", "_law_word"] (defScope s_l_found) := ⟨rfl, rfl, rfl, by decide +kernel, rfl, by decide +kernel, by decide +kernel⟩
theorem ok_l_found (T : Txt w K mg t) : FnOk P w K mg base (CXr P w) 9 t.f_l_found t.d_l_found ["_law_one", "_law_other", "_law_word"] (sp_l_found t.C_Tent) := by
 refine T.p_l_found.F.okR sc_l_found (fun vs H Q E h => ?_) (fun cdv A outer s H vs Q E hr h => ?_)
 ·obtain ⟨p1, p2, a, M1, M2, ns1, ns2, ws, rfl, _⟩ := h
  rfl
 ·obtain ⟨p1, p2, a, M1, M2, ns1, ns2, ws, rfl, tw, ha, hl, hws, kN, kS⟩ := h
  refine ⟨_, (pss_cons (ps_set (i := 3) sc_l_found.nd rfl (Or.inl rfl) (pe_lst pa_nil))
   (pss_cons (ps_try1 T.x_NotAlike FBV.hasBase rfl T.gx_NotAlike (pssx_one (psx_set (i := 3) sc_l_found.nd rfl (Or.inl rfl) (pex_call (ok_carried T) (hr.mono (by decide)) rfl T.p_carried.g T.p_carried.F.kp T.p_carried.b .nil (pa_cons (pv 0) (pa_cons (pv 1) (pa_cons (pv 2) pa_nil)))))) (fun _ => (pss_one (ps_set (i := 3) sc_l_found.nd rfl (Or.inl rfl) (pe_lst (pa_cons pe_str pa_nil))))))
   (pss_one (ps_ret (pv 3))))), ?_⟩
  refine ⟨Nat.zero_le _, fun l hl' => ?_⟩
  have s0 : Same H (upd H l (.lst [])) := Same.new hl'
  generalize upd H l (.lst []) = H0 at s0
  dsimp only [gName]
  refine ⟨_, rfl, _, rfl, _, rfl, p1, p2, a, M1, M2, ns1, ns2, ws, rfl, tw.same s0, s0 _ _ ha, hl, hws, fun e H1 s1 => ⟨rfl, ?_⟩, fun ls e l' H1 s1 h1 => ?_⟩
  ·refine ⟨(by show 1 ≤ sizeLine; rw [sizeLine_eq]; decide), fun l' hl' => ?_⟩
   exact ⟨_, rfl, kN e l' _ ((s0.trans s1).trans (Same.new hl')) upd_same⟩
  ·exact ⟨_, rfl, kS ls e l' H1 (s0.trans s1) h1⟩
theorem sc_l_lays : FnScope ["_law_ties", "_law_others", "_law_spots", "_law_p", "_law_near", "_law_far"] ["_law_ties", "_law_others", "_law_spots"] (defScope s_l_lays) := ⟨rfl, rfl, rfl, by decide +kernel, rfl, by decide +kernel, by decide +kernel⟩
theorem ok_l_lays (T : Txt w K mg t) : FnOk P w K mg base (CXr P w) 3 t.f_l_lays t.d_l_lays ["_law_ties", "_law_others", "_law_spots"] sp_l_lays := by
 refine T.p_l_lays.F.okR sc_l_lays (fun vs H Q E h => ?_) (fun cdv A outer s H vs Q E hr h => ?_)
 ·obtain ⟨a, b, c, M1, M2, f, rfl, _⟩ := h
  rfl
 ·obtain ⟨a, b, c, M1, M2, f, rfl, ha, hb, hc, I, tw, k⟩ := h
  have hu := hu_of hr
  refine ⟨_, (pss_cons (ps_if (PW.pt (pw_or (pt_not (pt_val (pe_call (ok_l_list T) (hr.mono (by decide)) rfl T.p_l_list.g T.p_l_list.F.kp T.p_l_list.b .nil passR (pa_cons (pv 2) (pa_cons (pe_callTy call_list_of (by rfl) T.n_list PySem.Pv.boot_list (pa_cons (pv 2) pa_nil)) pa_nil))))) (pw_or (pt_cmpR (op_neL hr.units) (pe_callB call_sortedL (by rfl) T.n_sorted PyProof.Rows.boot_sorted (pa_cons (pv 2) pa_nil)) (pe_listRange rfl T.n_list rfl T.n_range rfl (pa_cons (pe_callB call_len_seq (by rfl) T.n_len PySem.boot_len (pa_cons (pv 0) pa_nil)) pa_nil)) (nomark _)) (pw_or1 (pt_cmpR op_ne (pe_callB call_len_seq (by rfl) T.n_len PySem.boot_len (pa_cons (pv 0) pa_nil)) (pe_callB call_len_seq (by rfl) T.n_len PySem.boot_len (pa_cons (pv 1) pa_nil)) (nomark _)))))) (pss_one (ps_ret pe_bl)) pss_nil)
   (pss_cons (ps_for PassesOwn.never rfl (pi_range1 rfl T.n_range (pa_cons (pe_callB call_len_seq (by rfl) T.n_len PySem.boot_len (pa_cons (pv 0) pa_nil)) pa_nil)) (pg_name (i := 3) sc_l_lays.nd rfl (Or.inl rfl)) (pss_cons (ps_set (i := 4) sc_l_lays.nd rfl (Or.inl rfl) (pe_op op_add (pe_op op_sub (pv 3) (pe_op op_mod (pv 3) pe_int)) (pe_op op_mod (pe_op op_add (pv 3) pe_int) pe_int)))
   (pss_cons (ps_set (i := 5) sc_l_lays.nd rfl (Or.inl rfl) (pe_op op_add (pe_op op_sub (pe_ix ix_list (pv 2) (pv 3) (fun _ _ => rfl)) (pe_op op_mod (pe_ix ix_list (pv 2) (pv 3) (fun _ _ => rfl)) pe_int)) (pe_op op_mod (pe_op op_add (pe_ix ix_list (pv 2) (pv 3) (fun _ _ => rfl)) pe_int) pe_int)))
   (pss_cons (ps_if (PW.pt (pw_or (pt_cmpR op_ne (pe_ix ix_list (pv 2) (pv 4) (fun _ _ => rfl)) (pv 5) (nomark _)) (pw_or1 (pt_cmpR op_ne (pe_cmpR op_isN (pe_ix ix_list (pv 0) (pv 3) (fun _ _ => rfl)) pe_non (nomark _)) (pe_cmpR op_isN (pe_ix ix_list (pv 1) (pe_ix ix_list (pv 2) (pv 3) (fun _ _ => rfl)) (fun _ _ => rfl)) pe_non (nomark _)) (nomark _))))) (pss_one (ps_ret pe_bl)) pss_nil)
   (pss_one (ps_if (PW.pt (pw_and (pt_cmpR op_notN (pe_ix ix_list (pv 0) (pv 3) (fun _ _ => rfl)) pe_non (nomark _)) (pw_and1 (pt_cmpR op_ne (pe_ix ix_list (pv 2) (pe_ix ix_list (pv 0) (pv 3) (fun _ _ => rfl)) (fun _ _ => rfl)) (pe_ix ix_list (pv 1) (pe_ix ix_list (pv 2) (pv 3) (fun _ _ => rfl)) (fun _ _ => rfl)) (nomark _))))) (pss_one (ps_ret pe_bl)) pss_nil))))))
   (pss_one (ps_ret pe_bl)))), ?_⟩
  obtain ⟨n, hn, h16⟩ := tw.n1
  have hlen : ((List.range M1.length).map f).length = M1.length := by rw [List.length_map, List.length_range]
  have hfat : ∀ p, p < M1.length → ((List.range M1.length).map f)[p]? = some (f p) := fun p hp => by rw [List.getElem?_map, List.getElem?_range hp]; rfl
  refine seq_cut fun nxC hnxC => ?_
  refine ⟨_, rfl, _, rfl, c, _, rfl, .inl (SqL.of hc), fun l hl => ?_⟩
  have s1 : Same H (upd H l (.lst (((List.range M1.length).map f).map nV))) := Same.new hl
  have h1 : (upd H l (.lst (((List.range M1.length).map f).map nV))) l = some (.lst (((List.range M1.length).map f).map nV)) := upd_same
  generalize upd H l (.lst (((List.range M1.length).map f).map nV)) = H1 at s1 h1
  refine ⟨c, l, wI ((List.range M1.length).map f), rfl, by rw [← nv_wI]; exact s1 _ _ hc, by rw [← nv_wI]; exact h1, by rw [wI_len, hlen]; omega, _, rfl, iteF ?_⟩
  refine ⟨_, rfl, c, wI ((List.range M1.length).map f), rfl, by rw [← nv_wI]; exact SqL.of (s1 _ _ hc), by rw [wI_len, hlen]; omega, fun q out hq hperm hsort => ?_⟩
  have s2 : Same H1 (upd H1 q (.lst (out.map V.int))) := Same.new hq
  have h2 : (upd H1 q (.lst (out.map V.int))) q = some (.lst (out.map V.int)) := upd_same
  generalize upd H1 q (.lst (out.map V.int)) = H2 at s2 h2
  have s02 := s1.trans s2
  refine ⟨_, rfl, a, _, rfl, .inl (SqL.of (s02 _ _ ha)), M1.length, by rw [List.length_map], by omega, fun d hd => ?_⟩
  have s3 : Same H2 (upd H2 d (.lst ((List.range M1.length).map fun (i : Nat) => V.int i))) := Same.new hd
  have h3 : (upd H2 d (.lst ((List.range M1.length).map fun (i : Nat) => V.int i))) d = some (.lst ((wI (List.range M1.length)).map V.int)) := by rw [upd_same, ← nv_wI]; rfl
  generalize upd H2 d (.lst ((List.range M1.length).map fun (i : Nat) => V.int i)) = H3 at s3 h3
  have hso : (wI (List.range M1.length)).Pairwise (· ≤ ·) := by
   rw [List.pairwise_map]
   exact List.Pairwise.imp (R := fun a b : Nat => a < b) (fun h => by omega) List.pairwise_lt_range
  have eo : out = wI (List.range M1.length) := sorted_eq hperm ((iso_perm I).symm.map _) hsort hso
  refine ⟨q, d, out, wI (List.range M1.length), rfl, rfl, SqL.of (s3 _ _ h2), SqL.of h3, _, rfl, ?_⟩
  rw [decide_eq_true eo]
  refine iteF ?_
  have s03 := s02.trans s3
  refine ⟨_, rfl, a, _, rfl, .inl (SqL.of (s03 _ _ ha)), _, rfl, b, _, rfl, .inl (SqL.of (s03 _ _ hb)), rfl, _, rfl, ?_⟩
  rw [List.length_map, List.length_map, I.len, show (!decide (V.int (M2.length : Int) = V.int (M2.length : Int))) = false by simp]
  refine iteF ?_
  try dsimp only [tNext]
  refine hnxC _ _ ?_
  clear s1 h1 s2 h2 s3 h3 hperm hsort eo hso s02
  have ha := s03 _ _ ha
  have hb := s03 _ _ hb
  have hc := s03 _ _ hc
  show tSeq (tFor _ _ _) _ _ _ _
  refine seq_post (fun σ H' => H' = H3) (fun nx hnx => ?_) ?_
  ·refine ⟨_, rfl, a, _, rfl, .inl (SqL.of ha), (M1.length : Int), by rw [List.length_map], by omega, by omega, ?_⟩
   rw [Int.toNat_natCast]
   refine for_range (n := M1.length) (fun i σ H' => ∃ v3 v4 v5, σ = [some (.ref a), some (.ref b), some (.ref c), v3, v4, v5] ∧ H' = H3) ⟨_, _, _, rfl, rfl⟩ ?_ ?_
   ·rintro i σ H' hi ⟨v3, v4, v5, rfl, rfl⟩
    rw [Int.zero_add]
    dsimp only [gName]
    have sc := SqL.of (K := K) hc
    have sa := SqL.of (K := K) ha
    have sb := SqL.of (K := K) hb
    have fi := map_at (f := nV) (hfat i hi)
    have hfi := I.lt i hi
    have haf : aftN i < M1.length := aft_lt tw.n1 hi
    refine seq_cut fun nxC hnxC => ?_
    refine ⟨_, rfl, _, rfl, _, _, rfl, rfl, (by show (0 : Int) < 3; decide), _, _, rfl, rfl, _, rfl, _, _, rfl, rfl, _, _, rfl, rfl, (by show (0 : Int) < 3; decide), _, _, rfl, rfl, ?_⟩
    refine hnxC _ _ ?_
    refine seq_cut fun nxC hnxC => ?_
    refine ⟨_, rfl, _, rfl, c, _, _, _, rfl, rfl, sc, fi, _, rfl, _, rfl, c, _, _, _, rfl, rfl, sc, fi, _, _, rfl, rfl, (by show (0 : Int) < 3; decide), _, _, rfl, rfl, _, rfl, _, rfl, c, _, _, _, rfl, rfl, sc, fi, _, _, rfl, rfl, _, _, rfl, rfl, (by show (0 : Int) < 3; decide), _, _, rfl, rfl, ?_⟩
    refine hnxC _ _ ?_
    show tSeq _ _ _ [some (.ref a), some (.ref b), some (.ref c), some (.int i), some (.int ((i : Int) - (i : Int) % 3 + ((i : Int) + 1) % 3)), some (.int ((f i : Int) - (f i : Int) % 3 + ((f i : Int) + 1) % 3))] _
    have aft_sd : ∀ i : Nat, (i : Int) - (i : Int) % 3 + ((i : Int) + 1) % 3 = (aftN i : Int) := fun i => by unfold aftN; split <;> omega
    rw [aft_sd, aft_sd]
    have faf := map_at (f := nV) (hfat (aftN i) haf)
    rw [I.aft i hi] at faf
    obtain ⟨m1, hm1⟩ : ∃ z, M1[i]? = some z := ⟨_, List.getElem?_eq_getElem hi⟩
    have hm2 : M2[f i]? = some (m1.map f) := by
     have := I.mt i hi
     rw [List.getD_eq_getElem?_getD, List.getD_eq_getElem?_getD, hm1, List.getElem?_eq_getElem hfi] at this
     rw [List.getElem?_eq_getElem hfi]
     exact congrArg some this
    have en : decide (mV m1 = V.non) = decide (mV (m1.map f) = V.non) := by cases m1 <;> rfl
    refine seq_cut fun nxC hnxC => ?_
    refine ⟨_, rfl, _, rfl, c, _, _, _, rfl, rfl, sc, faf, _, rfl, rfl, _, rfl, ?_⟩
    rw [show (!decide (nV (aftN (f i)) = V.int (aftN (f i) : Int))) = false by show (!decide (V.int (aftN (f i) : Int) = V.int (aftN (f i) : Int))) = false; simp]
    refine iteF ?_
    refine ⟨_, rfl, _, rfl, a, _, _, _, rfl, rfl, sa, map_at hm1, rfl, _, rfl, _, rfl, _, rfl, c, _, _, _, rfl, rfl, sc, fi, b, _, _, _, rfl, rfl, sb, map_at hm2, rfl, rfl, _, rfl, ?_⟩
    rw [en, show (!decide (V.bl (decide (mV (m1.map f) = V.non)) = V.bl (decide (mV (m1.map f) = V.non)))) = false by simp]
    refine iteF ?_
    try dsimp only [tNext]
    refine hnxC _ _ ?_
    cases m1 with
    | none =>
     refine ⟨_, rfl, _, rfl, a, _, _, _, rfl, rfl, sa, map_at hm1, rfl, _, rfl, iteF ?_⟩
     exact iteF ⟨_, _, _, rfl, rfl⟩
    | some m =>
     have hml := tw.i1 i m hm1
     refine ⟨_, rfl, _, rfl, a, _, _, _, rfl, rfl, sa, map_at hm1, rfl, _, rfl, iteT ?_⟩
     refine ⟨_, rfl, _, rfl, _, rfl, a, _, _, _, rfl, rfl, sa, map_at hm1, c, _, _, _, rfl, rfl, sc, map_at (hfat m hml), _, rfl, _, rfl, _, rfl, c, _, _, _, rfl, rfl, sc, fi, b, _, _, _, rfl, rfl, sb, map_at hm2, rfl, _, rfl, ?_⟩
     rw [show (!decide (nV (f m) = mV ((some m).map f))) = false by show (!decide (V.int (f m : Int) = V.int (f m : Int))) = false; simp]
     exact iteF ⟨_, _, _, rfl, rfl⟩
   ·rintro σ H' ⟨v3, v4, v5, rfl, rfl⟩
    exact hnx _ _ rfl
  ·rintro σ H' rfl
   exact k _ s03
end
end KT
set_option maxHeartbeats 4000000
namespace KT
open PySem L2
theorem inv_cut {M : List (Option Nat)} {f j : Nat} (hinv : ∀ (i j : Nat), M[i]? = some (some j) → M[j]? = some (some i) ∧ i ≠ j) (hf : M[f]? = some (some j)) : ∀ (i k : Nat), ((M.set j none).set f none)[i]? = some (some k) → ((M.set j none).set f none)[k]? = some (some i) ∧ i ≠ k := fun i k h => by
 rw [List.getElem?_set] at h
 by_cases c1 : f = i
 ·rw [if_pos c1] at h
  split at h <;> cases h
 rw [if_neg c1, List.getElem?_set] at h
 by_cases c2 : j = i
 ·rw [if_pos c2] at h
  split at h <;> cases h
 rw [if_neg c2] at h
 obtain ⟨h1, h2⟩ := hinv i k h
 have k1 : f ≠ k := fun z => by
  subst z
  rw [hf] at h1
  cases h1
  exact c2 rfl
 have k2 : j ≠ k := fun z => by
  subst z
  rw [(hinv f j hf).1] at h1
  cases h1
  exact c1 rfl
 rw [List.getElem?_set, if_neg k1, List.getElem?_set, if_neg k2]
 exact ⟨h1, h2⟩
theorem td_more {M : List (Option Nat)} {n : Nat} (hn : M.length = 3 * n) (n1 : 1 ≤ n) (n14 : n ≤ 14) (hinv : ∀ (i j : Nat), M[i]? = some (some j) → M[j]? = some (some i) ∧ i ≠ j) : TD (M ++ [none, none, none]) (flat M 5 7 ++ [9999, 9998, 9997]) := by
 have td : TD M (flat M 5 7) := td_flat16 n1 (by omega) hn hinv (by decide)
 have hl := td.len
 have small : ∀ (i : Nat) (x : Int), (flat M 5 7)[i]? = some x → 0 ≤ x ∧ x ≤ 400 := fun i x h => by
  obtain ⟨h1, rfl⟩ := flat_get h
  have := rep_lt (M := M) h1
  unfold nm
  rw [Int.emod_eq_of_lt (by omega) (by omega)]
  omega
 have last : ∀ (i : Nat) (x : Int), (flat M 5 7 ++ [9999, 9998, 9997])[i]? = some x → (flat M 5 7)[i]? = some x ∨ (i = M.length ∧ x = 9999) ∨ (i = M.length + 1 ∧ x = 9998) ∨ (i = M.length + 2 ∧ x = 9997) := fun i x h => by
  rw [List.getElem?_append] at h
  split at h
  ·exact .inl h
  ·rename_i c
   rw [hl] at h c
   obtain ⟨d, rfl⟩ : ∃ d, i = M.length + d := ⟨i - M.length, by omega⟩
   rw [Nat.add_sub_cancel_left] at h
   match d, h with
   | 0, h => cases h; exact .inr (.inl ⟨rfl, rfl⟩)
   | 1, h => cases h; exact .inr (.inr (.inl ⟨rfl, rfl⟩))
   | 2, h => cases h; exact .inr (.inr (.inr ⟨rfl, rfl⟩))
   | d + 3, h => cases h
 have mts : ∀ (i j : Nat), (M ++ [none, none, none])[i]? = some (some j) → M[i]? = some (some j) := fun i j h => by
  rw [List.getElem?_append] at h
  split at h
  ·exact h
  ·generalize i - M.length = d at h
   match d, h with
   | 0, h => cases h
   | 1, h => cases h
   | 2, h => cases h
   | d + 3, h => cases h
 have mup : ∀ (i j : Nat), M[i]? = some (some j) → (M ++ [none, none, none])[i]? = some (some j) := fun i j h => by
  rw [List.getElem?_append_left (List.getElem?_eq_some_iff.mp h).1]; exact h
 refine ⟨⟨n + 1, by omega, by omega, by rw [List.length_append, hn]; show 3 * n + 3 = _; omega⟩, by rw [List.length_append, List.length_append, hl]; rfl, fun i j h => ?_, fun i x h => ?_, fun i j x hi hj => ?_, fun i j h => ?_⟩
 ·obtain ⟨a, b⟩ := hinv i j (mts i j h)
  exact ⟨mup _ _ a, b⟩
 ·rcases last i x h with z | ⟨_, rfl⟩ | ⟨_, rfl⟩ | ⟨_, rfl⟩
  ·exact td.rng i x z
  ·decide
  ·decide
  ·decide
 ·rcases last i x hi with z | ⟨a, b⟩ | ⟨a, b⟩ | ⟨a, b⟩ <;> rcases last j x hj with y | ⟨c, d⟩ | ⟨c, d⟩ | ⟨c, d⟩ <;> first
   | exact (td.eqv i j x z y).elim .inl (fun w => .inr (mup _ _ w))
   | (have := small i x z; omega)
   | (have := small j x y; omega)
   | omega
 ·have h := mts i j h
  have e := td.eqm i j h
  have hi : i < (flat M 5 7).length := by rw [hl]; exact (List.getElem?_eq_some_iff.mp h).1
  have hj : j < (flat M 5 7).length := by rw [hl]; exact (List.getElem?_eq_some_iff.mp (hinv i j h).1).1
  rw [List.getElem?_append_left hi, List.getElem?_append_left hj, e]
theorem row3_app {ns ms : List Int} {k : Nat} (h : 3 * k + 2 < ns.length) : row3 (ns ++ ms) k = row3 ns k := by
 have g : ∀ i, i < ns.length → (ns ++ ms).getD i 0 = ns.getD i 0 := fun i hi => by rw [List.getD_eq_getElem?_getD, List.getD_eq_getElem?_getD, List.getElem?_append_left hi]
 unfold row3
 rw [g _ (by omega), g _ (by omega), g _ h]
theorem row3_last {ns : List Int} {k : Nat} {x y z : Int} (h : ns.length = 3 * k) : row3 (ns ++ [x, y, z]) k = [.int x, .int y, .int z] := by
 have g : ∀ i, (ns ++ [x, y, z]).getD (3 * k + i) 0 = [x, y, z].getD i 0 := fun i => by rw [List.getD_eq_getElem?_getD, List.getD_eq_getElem?_getD, ← h, List.getElem?_append_right (by omega), Nat.add_sub_cancel_left]
 unfold row3
 rw [g 1, g 2]
 have := g 0
 rw [Nat.add_zero] at this
 rw [this]
 rfl
theorem carL_iso {f : Nat → Nat} {N : Nat} {ws : List Nat} (h : ∀ x ∈ ws, x < N) : carL ((List.range N).map f) ws = ws.map f := by
 unfold carL
 apply List.map_congr_left
 intro x hx
 rw [List.getD_eq_getElem?_getD, List.getElem?_map, List.getElem?_range (h x hx)]
 rfl
theorem loop_spots {K : PySem.W.Frag} {sp w0 D : Addr} {ls vs : List Nat} {HX : Hp} {R : St → Hp → Prop} (e1 : HX sp = some (.lst (ls.map nV))) (e2 : HX w0 = some (.lst (vs.map nV))) (e3 : vs.length ≤ 900) (e4 : ∀ x ∈ vs, x < ls.length) (hD : HX D = none) (hR : ∀ σ HY, Same HX HY → HY D = some (.lst ((carL ls vs).map nV)) → R σ HY) :
  LoopR (Itl K w0) (gName 0) tYes (tEmit (tOp (rIxL K) (tVar 1) (tVar 0)) D) R [none, some (.ref sp)] (upd HX D (.lst [])) := by
 refine loop_list (xs := vs.map nV) (fun i σ H6 => ∃ v, σ = [v, some (.ref sp)] ∧ Same HX H6 ∧ H6 D = some (.lst ((carL ls (vs.take i)).map nV))) ⟨none, rfl, Same.new hD, upd_same⟩ ?_ ?_ ?_
 ·rintro i σ H6 _ ⟨v, rfl, s6, _⟩
  exact SqL.of (s6 _ _ e2)
 ·rintro i x σ H6 hx ⟨v, rfl, s6, h6⟩
  obtain ⟨p, hp, rfl⟩ := map_some hx
  have hpl := e4 p (List.mem_of_getElem? hp)
  have hil : i < vs.length := (List.getElem?_eq_some_iff.mp hp).1
  have hg : ls[p]? = some (ls.getD p 0) := by rw [List.getD_eq_getElem?_getD, List.getElem?_eq_getElem hpl]; rfl
  dsimp only [gName, tYes]
  rw [if_pos rfl]
  refine ⟨_, rfl, _, rfl, sp, _, _, _, rfl, rfl, SqL.of (s6 _ _ e1), map_at hg, _, h6, by unfold carL; rw [List.length_map, List.length_map, List.length_take]; exact small1000 (by omega), _, rfl, Same.add s6 hD, ?_⟩
  unfold carL
  rw [upd_same, List.take_add_one, hp, List.map_append, List.map_append]
  rfl
 ·rintro σ H6 ⟨v, rfl, s6, h6⟩
  rw [List.length_map, List.take_length] at h6
  exact hR _ H6 s6 h6
theorem carL_len {ls ws : List Nat} : (carL ls ws).length = ws.length := by unfold carL; rw [List.length_map]
section
variable {P : Program} {w : World} {K : PySem.W.Frag} {mg : Str → Option Value} {base : Heap} {t : Adr}
theorem sc_law : FnScope ["_law_script", "_law_mates", "_law_rows_here", "_law_goals_here", "_law_ties", "_law_pick", "_law_far", "_law_whole_here", "_law_one", "_law_other", "_law_word", "_law_row", "_law_spots", "_law_handed", "_law_found_here", "_law_third", "_law_free_here", "_law_place", "_law_left", "_law_right", "_law_seam_here"] ["_law_script"] (defScope s_law) := ⟨rfl, rfl, rfl, by decide +kernel, rfl, by decide +kernel, by decide +kernel⟩
theorem ok_law (T : Txt w K mg t) : FnOk P w K mg base (CXr P w) 10 t.f_law t.d_law ["_law_script"] (sp_law K) := by
  refine T.p_law.F.okR sc_law (fun vs H Q E h => ?_) (fun cdv A outer s H vs Q E hr h => ?_)
  · obtain ⟨a, ns, rfl, _⟩ := h
    rfl
  · obtain ⟨a, sc, rfl, hS, hl, k⟩ := h
    have hu := hu_of hr
    refine ⟨_, (pss_cons (ps_asg (pe_call (ok_l_tent T) (hr.mono (by decide)) rfl T.p_l_tent.g T.p_l_tent.F.kp T.p_l_tent.b .nil passR (pa_cons (pv 0) pa_nil)) (pg_tup rfl (pgs_cons (pg_name (i := 1) sc_law.nd rfl (Or.inr rfl)) (pgs_cons (pg_name (i := 2) sc_law.nd rfl (Or.inl rfl)) pgs_nil))))
      (pss_cons (ps_asg (pe_call (ok_l_renumbered T) (hr.mono (by decide)) rfl T.p_l_renumbered.g T.p_l_renumbered.F.kp T.p_l_renumbered.b .nil passR (pa_cons (pv 1) (pa_cons (pe_call (ok_l_numbers T) (hr.mono (by decide)) rfl T.p_l_numbers.g T.p_l_numbers.F.kp T.p_l_numbers.b .nil passR (pa_cons (pe_call (ok_l_cell T) (hr.mono (by decide)) rfl T.p_l_cell.g T.p_l_cell.F.kp T.p_l_cell.b .nil passR (pa_cons (pv 0) (pa_cons pe_int pa_nil))) (pa_cons pe_int pa_nil))) pa_nil))) (pg_tup rfl (pgs_cons (pg_name (i := 3) sc_law.nd rfl (Or.inl rfl)) (pgs_cons (pg_name (i := 4) sc_law.nd rfl (Or.inl rfl)) pgs_nil))))
      (pss_cons (ps_set (i := 5) sc_law.nd rfl (Or.inl rfl) (pe_call (ok_l_cell T) (hr.mono (by decide)) rfl T.p_l_cell.g T.p_l_cell.F.kp T.p_l_cell.b .nil passR (pa_cons (pv 0) (pa_cons pe_int pa_nil))))
      (pss_cons (ps_set (i := 6) sc_law.nd rfl (Or.inl rfl) (pe_op op_mod (pe_op op_fdiv (pv 5) pe_int) (pe_callB call_len_seq (by rfl) T.n_len PySem.boot_len (pa_cons (pv 4) pa_nil))))
      (pss_cons (ps_set (i := 7) sc_law.nd rfl (Or.inl rfl) pe_bl)
      (pss_cons (ps_if (PW.pt (pw_and (pt_cmpR op_eq (pe_op op_mod (pv 5) pe_int) pe_int (nomark _)) (pw_and1 (pt_cmpR op_notN (pe_ix ix_list (pv 4) (pv 6) (fun _ _ => rfl)) pe_non (nomark _))))) (pss_cons (ps_asg pe_non (pg_sub (pv 4) (pe_ix ix_list (pv 4) (pv 6) (fun _ _ => rfl)) set_list))
      (pss_cons (ps_asg pe_non (pg_sub (pv 4) (pv 6) set_list))
      (pss_one (ps_set (i := 7) sc_law.nd rfl (Or.inl rfl) pe_bl)))) pss_nil)
      (pss_cons (ps_set (i := 8) sc_law.nd rfl (Or.inl rfl) (pe_make T.mk_Tent (ok_Tent_init T) (hr.mono (by decide)) rfl T.gC_Tent T.p_Tent_init.b .nil passR (pa_cons (pe_callTy call_list_of (by rfl) T.n_list PySem.Pv.boot_list (pa_cons (pv 2) pa_nil)) pa_nil)))
      (pss_cons (ps_set (i := 9) sc_law.nd rfl (Or.inl rfl) (pe_make T.mk_Tent (ok_Tent_init T) (hr.mono (by decide)) rfl T.gC_Tent T.p_Tent_init.b .nil passR (pa_cons (pe_call (ok_l_rows T) (hr.mono (by decide)) rfl T.p_l_rows.g T.p_l_rows.F.kp T.p_l_rows.b .nil passR (pa_cons (pv 4) (pa_cons pe_int (pa_cons pe_int pa_nil)))) pa_nil)))
      (pss_cons (ps_set (i := 10) sc_law.nd rfl (Or.inl rfl) (pe_call (ok_l_thread T) (hr.mono (by decide)) rfl T.p_l_thread.g T.p_l_thread.F.kp T.p_l_thread.b .nil passR (pa_cons (pv 0) (pa_cons pe_int (pa_cons (pv 1) pa_nil)))))
      (pss_cons (ps_setCompG (ts := ["_law_num"]) (fv := [("_law_mates", 1)]) (i := 11) ⟨rfl, by decide +kernel, by decide +kernel, blkFree (by rfl), ⟨⟨rfl, rfl, Or.inl rfl⟩, trivial⟩⟩ rfl sc_law.nd rfl rfl (by rfl) (pi_list (pe_call (ok_l_numbers T) (hr.mono (by decide)) rfl T.p_l_numbers.g T.p_l_numbers.F.kp T.p_l_numbers.b .nil passR (pa_cons (pe_call (ok_l_cell T) (hr.mono (by decide)) rfl T.p_l_cell.g T.p_l_cell.F.kp T.p_l_cell.b .nil passR (pa_cons (pv 0) (pa_cons pe_int pa_nil))) (pa_cons pe_int pa_nil)))) (fun _ _ _ _ => (pg_name (i := 0) (show List.Nodup (["_law_num", "_law_mates"] : List Str) from by decide +kernel) rfl (Or.inl rfl) (Or.inr rfl))) (fun _ _ _ _ => pts_nil) (fun _ _ _ => rfl) (fun _ _ _ _ _ _ => pb_emit (pe_op op_mod (pv 0) (pe_callB (call_len_seqK K) (by rfl) T.n_len PySem.boot_len (pa_cons (pv 1) pa_nil)))))
      (pss_cons (ps_if (pt_not (pt_val (pv 7))) (pss_one (ps_ret (pe_and (pe_cmpR (op_eqS1 hr.units) (pe_call (ok_l_found T) (hr.mono (by decide)) rfl T.p_l_found.g T.p_l_found.F.kp T.p_l_found.b .nil passR (pa_cons (pv 8) (pa_cons (pv 9) (pa_cons (pv 10) pa_nil)))) (pe_lst (pa_cons pe_str pa_nil)) (nomark _)) (pe_one (pe_cmpR op_isN (pe_call (ok_matched T) (hr.mono (by decide)) rfl T.p_matched.g T.p_matched.F.kp T.p_matched.b .nil passR (pa_cons (pv 8) (pa_cons (pv 9) pa_nil))) pe_non (nomark _)))))) pss_nil)
      (pss_cons (ps_set (i := 12) sc_law.nd rfl (Or.inr rfl) (pe_call (ok_matched T) (hr.mono (by decide)) rfl T.p_matched.g T.p_matched.F.kp T.p_matched.b .nil passR (pa_cons (pv 8) (pa_cons (pv 9) pa_nil))))
      (pss_cons (ps_if (PW.pt (pw_or (pt_cmpR op_isN (pv 12) pe_non (nomark _)) (pw_or1 (pt_not (pt_val (pe_call (ok_l_lays T) (hr.mono (by decide)) rfl T.p_l_lays.g T.p_l_lays.F.kp T.p_l_lays.b .nil passR (pa_cons (pv 1) (pa_cons (pv 4) (pa_cons (pv 12) pa_nil))))))))) (pss_one (ps_ret pe_bl)) pss_nil)
      (pss_cons (ps_set (i := 13) sc_law.nd rfl (Or.inl rfl) (pe_callTy call_list_of (by rfl) T.n_list PySem.Pv.boot_list (pa_cons (pv 11) pa_nil)))
      (pss_cons (ps_if (PW.pt (pw_or (pt_not (pt_val (pe_call (ok_l_list T) (hr.mono (by decide)) rfl T.p_l_list.g T.p_l_list.F.kp T.p_l_list.b .nil passR (pa_cons (pe_call (ok_l_found T) (hr.mono (by decide)) rfl T.p_l_found.g T.p_l_found.F.kp T.p_l_found.b .nil passR (pa_cons (pv 8) (pa_cons (pv 9) (pa_cons (pv 13) pa_nil)))) (pa_cons (pe_compG (ts := ["_law_p"]) (fv := [("_law_spots", 12)]) ⟨rfl, by decide +kernel, by decide +kernel, blkFree (by rfl), ⟨⟨rfl, rfl, Or.inl rfl⟩, trivial⟩⟩ rfl (pi_list (pv 11)) (fun _ _ _ _ => (pg_name (i := 0) (show List.Nodup (["_law_p", "_law_spots"] : List Str) from by decide +kernel) rfl (Or.inl rfl) (Or.inr rfl))) (fun _ _ _ _ => pts_nil) (fun _ _ _ => rfl) (fun _ _ _ _ _ _ => pb_emit (pe_ix (ix_listK K) (pv 1) (pv 0) (fun _ _ => rfl)))) pa_nil))))) (pw_or1 (pt_cmpR (op_neL hr.units) (pv 13) (pv 11) (nomark _))))) (pss_one (ps_ret pe_bl)) pss_nil)
      (pss_cons (ps_set (i := 14) sc_law.nd rfl (Or.inl rfl) (pe_call (ok_l_found T) (hr.mono (by decide)) rfl T.p_l_found.g T.p_l_found.F.kp T.p_l_found.b .nil passR (pa_cons (pv 8) (pa_cons (pv 9) (pa_cons (pe_callTy call_list_of (by rfl) T.n_list PySem.Pv.boot_list (pa_cons (pv 10) pa_nil)) pa_nil)))))
      (pss_cons (ps_if (PW.pt (pw_or (pt_not (pt_val (pe_call (ok_l_list T) (hr.mono (by decide)) rfl T.p_l_list.g T.p_l_list.F.kp T.p_l_list.b .nil passR (pa_cons (pv 14) (pa_cons (pe_compG (ts := ["_law_p"]) (fv := [("_law_spots", 12)]) ⟨rfl, by decide +kernel, by decide +kernel, blkFree (by rfl), ⟨⟨rfl, rfl, Or.inl rfl⟩, trivial⟩⟩ rfl (pi_list (pv 10)) (fun _ _ _ _ => (pg_name (i := 0) (show List.Nodup (["_law_p", "_law_spots"] : List Str) from by decide +kernel) rfl (Or.inl rfl) (Or.inr rfl))) (fun _ _ _ _ => pts_nil) (fun _ _ _ => rfl) (fun _ _ _ _ _ _ => pb_emit (pe_ix (ix_listK K) (pv 1) (pv 0) (fun _ _ => rfl)))) pa_nil))))) (pw_or1 (PW.pt (pw_and (pt_cmpR op_gt (pe_callB call_len_seq (by rfl) T.n_len PySem.boot_len (pa_cons (pv 10) pa_nil)) pe_int (nomark _)) (pw_and1 (pt_not (pt_val (pe_call (ok_l_plain T) (hr.mono (by decide)) rfl T.p_l_plain.g T.p_l_plain.F.kp T.p_l_plain.b .nil passR (pa_cons (pv 4) (pa_cons (pv 14) pa_nil))))))))))) (pss_one (ps_ret pe_bl)) pss_nil)
      (pss_cons (ps_set (i := 15) sc_law.nd rfl (Or.inl rfl) (pe_make T.mk_Tent (ok_Tent_init T) (hr.mono (by decide)) rfl T.gC_Tent T.p_Tent_init.b .nil passR (pa_cons (pe_op op_cat (pe_call (ok_l_rows T) (hr.mono (by decide)) rfl T.p_l_rows.g T.p_l_rows.F.kp T.p_l_rows.b .nil passR (pa_cons (pv 4) (pa_cons pe_int (pa_cons pe_int pa_nil)))) (pe_lst (pa_cons (pe_tup (pa_cons pe_int (pa_cons pe_int (pa_cons pe_int pa_nil)))) pa_nil))) pa_nil)))
      (pss_cons (ps_if (PW.pt (pw_or (pt_cmpR (op_neS1 hr.units) (pe_call (ok_l_found T) (hr.mono (by decide)) rfl T.p_l_found.g T.p_l_found.F.kp T.p_l_found.b .nil passR (pa_cons (pv 8) (pa_cons (pv 15) (pa_cons (pe_callTy call_list_of (by rfl) T.n_list PySem.Pv.boot_list (pa_cons (pv 10) pa_nil)) pa_nil)))) (pe_lst (pa_cons pe_str pa_nil)) (nomark _)) (pw_or1 (pt_not (pt_val (pe_call (ok_l_list T) (hr.mono (by decide)) rfl T.p_l_list.g T.p_l_list.F.kp T.p_l_list.b .nil passR (pa_cons (pe_call (ok_l_found T) (hr.mono (by decide)) rfl T.p_l_found.g T.p_l_found.F.kp T.p_l_found.b .nil passR (pa_cons (pv 8) (pa_cons (pv 9) (pa_cons (pe_callTy call_list_of (by rfl) T.n_list PySem.Pv.boot_list (pa_cons (pv 10) pa_nil)) pa_nil)))) (pa_cons (pv 14) pa_nil)))))))) (pss_one (ps_ret pe_bl)) pss_nil)
      (pss_cons (ps_set (i := 16) sc_law.nd rfl (Or.inl rfl) (pe_call (ok_l_free T) (hr.mono (by decide)) rfl T.p_l_free.g T.p_l_free.F.kp T.p_l_free.b .nil passR (pa_cons (pv 1) pa_nil)))
      (pss_cons (ps_if (pt_cmpR op_eq (pe_callB call_len_seq (by rfl) T.n_len PySem.boot_len (pa_cons (pv 16) pa_nil)) pe_int (nomark _)) (pss_one (ps_ret pe_bl)) pss_nil)
      (pss_cons (ps_set (i := 17) sc_law.nd rfl (Or.inl rfl) (pe_ix ix_list (pv 16) (pe_op op_mod (pe_op op_fdiv (pv 5) pe_int) (pe_callB call_len_seq (by rfl) T.n_len PySem.boot_len (pa_cons (pv 16) pa_nil))) (fun _ _ => rfl)))
      (pss_cons (ps_set (i := 18) sc_law.nd rfl (Or.inl rfl) (pe_call (ok_l_shift T) (hr.mono (by decide)) rfl T.p_l_shift.g T.p_l_shift.F.kp T.p_l_shift.b .nil passR (pa_cons (pv 1) (pa_cons (pv 2) (pa_cons (pe_call (ok_l_goals T) (hr.mono (by decide)) rfl T.p_l_goals.g T.p_l_goals.F.kp T.p_l_goals.b .nil passR (pa_cons (pv 1) (pa_cons (pv 17) (pa_cons pe_bl pa_nil)))) pa_nil)))))
      (pss_cons (ps_set (i := 19) sc_law.nd rfl (Or.inl rfl) (pe_call (ok_l_shift T) (hr.mono (by decide)) rfl T.p_l_shift.g T.p_l_shift.F.kp T.p_l_shift.b .nil passR (pa_cons (pv 1) (pa_cons (pv 2) (pa_cons (pe_call (ok_l_goals T) (hr.mono (by decide)) rfl T.p_l_goals.g T.p_l_goals.F.kp T.p_l_goals.b .nil passR (pa_cons (pv 1) (pa_cons (pv 17) (pa_cons pe_bl pa_nil)))) pa_nil)))))
      (pss_cons (ps_set (i := 20) sc_law.nd rfl (Or.inl rfl) (pe_call (ok_l_seam T) (hr.mono (by decide)) rfl T.p_l_seam.g T.p_l_seam.F.kp T.p_l_seam.b .nil passR (pa_cons (pv 2) (pa_cons (pv 17) pa_nil))))
      (pss_cons (ps_set (i := 12) sc_law.nd rfl (Or.inr rfl) (pe_call (ok_matched T) (hr.mono (by decide)) rfl T.p_matched.g T.p_matched.F.kp T.p_matched.b .nil passR (pa_cons (pe_call (ok_exchanged T) (hr.mono (by decide)) rfl T.p_exchanged.g T.p_exchanged.F.kp T.p_exchanged.b .nil passR (pa_cons (pv 8) (pa_cons (pv 20) (pa_cons pe_str pa_nil)))) (pa_cons (pe_call (ok_exchanged T) (hr.mono (by decide)) rfl T.p_exchanged.g T.p_exchanged.F.kp T.p_exchanged.b .nil passR (pa_cons (pv 8) (pa_cons (pv 20) (pa_cons pe_str pa_nil)))) pa_nil))))
      (pss_one (ps_ret (pe_and (pe_cmpR op_notN (pv 12) pe_non (nomark _)) (pe_one (pe_call (ok_l_lays T) (hr.mono (by decide)) rfl T.p_l_lays.g T.p_l_lays.F.kp T.p_l_lays.b .nil passR (pa_cons (pe_ix ix_tup (pv 18) pe_int (fun _ _ => rfl)) (pa_cons (pe_ix ix_tup (pv 19) pe_int (fun _ _ => rfl)) (pa_cons (pv 12) pa_nil)))))))))))))))))))))))))))))))))), ?_⟩
    refine seq_cut fun nxC hnxC => ?_
    refine ⟨_, rfl, a, sc, rfl, hS, hl, fun p m r M ns H1 sm1 hp hm hr1 td h42 hm0 hr0 => ?_⟩
    refine ⟨p, _, rfl, SqT.of hp, rfl, _, _, rfl, _, _, rfl, rfl, ?_⟩
    refine hnxC _ _ ?_
    obtain ⟨n, n1, n40, hn⟩ := td.n
    have n14 : n ≤ 14 := by omega
    clear hp
    refine seq_cut fun nxC hnxC => ?_
    refine ⟨_, rfl, _, rfl, a, sc, 4, rfl, sm1.seq hS, hl, by decide, by decide, _, 20, rfl, by decide, fun nm xs H2 s2 hnm h2 hxl hxs => ?_⟩
    have s02 := sm1.trans s2
    have hm2 := s2 _ _ hm
    have hr2 := hr1.same s2
    refine ⟨m, nm, M, xs, n, rfl, hm2, hn, n14, td.inv, h2, hxl, hxs, fun q g l M2 H3 s3 hq hl2 hl3 hn3 inv3 iso3 => ?_⟩
    refine ⟨q, _, rfl, SqT.of hq, rfl, _, _, rfl, _, _, rfl, rfl, ?_⟩
    refine hnxC _ _ ?_
    try dsimp only [gName]
    clear h2 hxl hxs hnm hq
    refine seq_cut fun nxC hnxC => ?_
    refine ⟨_, rfl, a, sc, 5, rfl, (s02.trans s3).seq hS, hl, by decide, by decide, ?_⟩
    refine hnxC _ _ ?_
    generalize cell sc 5 = pick
    try dsimp only [gName]
    have eL : (((M2.map mV).length : Nat) : Int) = ((3 * n : Nat) : Int) := by rw [List.length_map, hn3]
    have k0 := Int.emod_nonneg (pick / 4) (show ((3 * n : Nat) : Int) ≠ 0 by omega)
    have k1 := Int.emod_lt_of_pos (pick / 4) (show (0 : Int) < ((3 * n : Nat) : Int) by omega)
    obtain ⟨f, hf⟩ : ∃ f : Nat, pick / 4 % ((3 * n : Nat) : Int) = f := ⟨_, (Int.toNat_of_nonneg k0).symm⟩
    have hfl : f < M2.length := by omega
    obtain ⟨z, hz⟩ : ∃ z, M2[f]? = some z := ⟨_, List.getElem?_eq_getElem hfl⟩
    refine seq_cut fun nxC hnxC => ?_
    refine ⟨_, rfl, _, _, rfl, rfl, ⟨by decide, by decide⟩, _, rfl, l, _, rfl, .inl (SqL.of hl3), _, _, rfl, rfl, (by show (0 : Int) < _; rw [eL]; omega), ?_⟩
    show nxC (List.set _ _ (some (V.int (pick / 4 % (((M2.map mV).length : Nat) : Int))))) _
    rw [eL, hf]
    refine hnxC _ _ ?_
    refine seq_cut fun nxC hnxC => ?_
    refine hnxC _ _ ?_
    try dsimp only [gName]
    obtain ⟨fI, I3⟩ := iso3
    refine seq_post (fun σ H' => ∃ (M2 : List (Option Nat)) (b : Bool), σ = [some (.ref a), some (.ref m), some (.ref r), some (.ref g), some (.ref l), some (.int pick), some (.int f), some (.bl b), none, none, none, none, none, none, none, none, none, none, none, none, none] ∧ Same H2 H' ∧ H' l = some (.lst (M2.map mV)) ∧ M2.length = 3 * n ∧ (∀ (i j : Nat), M2[i]? = some (some j) → M2[j]? = some (some i) ∧ i ≠ j) ∧ (b = true → ∃ f, Iso M M2 f) ∧ (b = false → matF M M2 = none)) (fun nx hnx => ?_) ?_
    · have done : nx [some (.ref a), some (.ref m), some (.ref r), some (.ref g), some (.ref l), some (.int pick), some (.int f), some (.bl true), none, none, none, none, none, none, none, none, none, none, none, none, none] H3 := hnx _ _ ⟨M2, true, rfl, s3, hl3, hn3, inv3, fun _ => ⟨fI, I3⟩, fun z => by cases z⟩
      refine ⟨_, rfl, _, _, rfl, rfl, (by show (0 : Int) < 4; decide), rfl, _, rfl, ?_⟩
      refine ite2 (fun _ => ?_) (fun _ => iteF done)
      cases z with
      | none =>
        refine ⟨_, rfl, _, rfl, l, _, _, _, rfl, rfl, SqL.of hl3, map_at hz, rfl, _, rfl, iteF done⟩
      | some j =>
        obtain ⟨hj, hne⟩ := inv3 f j hz
        have hjl := (List.getElem?_eq_some_iff.mp hj).1
        refine ⟨_, rfl, _, rfl, l, _, _, _, rfl, rfl, SqL.of hl3, map_at hz, rfl, _, rfl, iteT ?_⟩
        refine seq_cut fun nxC hnxC => ?_
        refine ⟨_, rfl, _, rfl, _, rfl, l, _, _, _, rfl, rfl, SqL.of hl3, map_at hz, l, _, _, j, rfl, rfl, hl3, by rw [List.length_map]; exact ixN_nat hjl, ?_⟩
        refine hnxC _ _ ?_
        refine seq_cut fun nxC hnxC => ?_
        refine ⟨_, rfl, _, rfl, l, _, _, f, rfl, rfl, upd_same, by rw [List.length_set, List.length_map]; exact ixN_nat hfl, ?_⟩
        refine hnxC _ _ ?_
        have hn4 : ((M2.set j none).set f none).length = 3 * n := by rw [List.length_set, List.length_set]; exact hn3
        have inv4 := inv_cut inv3 hz
        refine hnx _ _ ⟨(M2.set j none).set f none, false, rfl, Same.add (Same.add s3 hl2) hl2, ?_, hn4, inv4, (fun z => by cases z), fun _ => matF_cut I3 hz ⟨⟨n, hn, by omega⟩, ⟨n, hn4, by omega⟩, fun i j z => (td.inv i j z).1, fun i j z => (inv4 i j z).1⟩⟩
        rw [upd_same]
        show some (HO.lst (((M2.map mV).set j (mV none)).set f (mV none))) = _
        rw [map_set, map_set]
    clear s3 hl3 hn3 inv3 I3 hz hfl eL hf k0 k1 hl2
    clear M2 H3
    rintro σ H3 ⟨M2, b, rfl, s3, hl3, hn3, inv3, hI, hN⟩
    have hr3 := hr2.same s3
    have hm3 := s3 _ _ hm2
    have s03 := s02.trans s3
    clear hr2 hm2 s3 s02 s2 sm1 hr1 hm hm0 hr0
    have tws : Tws M M2 := ⟨⟨n, hn, by omega⟩, ⟨n, hn3, by omega⟩, fun i j z => (td.inv i j z).1, fun i j z => (inv3 i j z).1⟩
    obtain ⟨ts, g1, g2, g3⟩ := id hr3
    refine seq_cut fun nxC hnxC => ?_
    refine ⟨_, rfl, r, _, rfl, .inl (SqL.of g1), fun lc hl1 => ?_⟩
    intro x dx hx hdx hne
    obtain ⟨rl2, s2⟩ := tent_new (C := t.C_Tent) g1 g2 g3 hl1 hx hdx
    refine ⟨x, lc, dx, M, ns, rfl, upd_same, rl2, td, by rw [td.len]; omega, fun H4 old ta => ⟨rfl, ?_⟩⟩
    have s4 : Same H3 H4 := fun b u e => old b u (ne_of_none ((Same.new hl1) b u e) hx) (s2 b u ((Same.new hl1) b u e))
    refine hnxC _ _ ?_
    try dsimp only [gName]
    clear old rl2 s2 hx hdx hne hl1 g1 g2 g3
    have hm4 := s4 _ _ hm3
    have hl4 := s4 _ _ hl3
    have hr4 := hr3.same s4
    have s04 := s03.trans s4
    clear hm3 hl3 hr3 s4 s03
    refine seq_cut fun nxC hnxC => ?_
    refine ⟨_, rfl, l, M2, n, 5, 7, rfl, hl4, hn3, n1, by omega, inv3, by decide, fun r2 H6 s6 hr2 hrow => ?_⟩
    have td2 : TD M2 (flat M2 5 7) := td_flat16 n1 (by omega) hn3 inv3 (by decide)
    intro y dy hy hdy hne
    have s7 : Same H6 (upd (upd H6 dy (.own y)) y (.ins t.C_Tent dy [])) := Same.add (Same.new hdy) hy
    refine ⟨y, r2, dy, M2, flat M2 5 7, rfl, upd_same, hrow.same s7, td2, by rw [td2.len]; omega, fun H7 old tb => ⟨rfl, ?_⟩⟩
    have s47 : Same H4 H7 := fun b u e => old b u (ne_of_none (s6 _ _ e) hy) (s7 _ _ (s6 _ _ e))
    refine hnxC _ _ ?_
    try dsimp only [gName]
    have ta7 := ta.same s47
    have hm7 := s47 _ _ hm4
    have hl7 := s47 _ _ hl4
    have hr7 := hr4.same s47
    have s07 := s04.trans s47
    clear old s7 hy hdy hne hrow s6 ta hm4 hl4 s47 hr4 s04
    refine seq_cut fun nxC hnxC => ?_
    refine ⟨_, rfl, _, rfl, a, m, sc, 3, M, rfl, s07.seq hS, hl, by decide, by decide, hm7, h42, ⟨_, hn⟩, td.inv, fun wd ws H8 s8 hwd h8 hw60 hpl => ?_⟩
    refine hnxC _ _ ?_
    try dsimp only [gName]
    have hwl : ∀ x ∈ ws, x < M.length := fun x hx => by
      rcases hpl with rfl | hP
      · exact absurd hx List.not_mem_nil
      · obtain ⟨m', hm'⟩ := hP.has x hx
        exact (List.getElem?_eq_some_iff.mp hm').1
    have ta8 := ta7.same s8
    have tb8 := tb.same s8
    have hm8 := s8 _ _ hm7
    have hl8 := s8 _ _ hl7
    have hr8 := hr7.same s8
    have s08 := s07.trans s8
    clear ta7 tb hm7 hl7 hr7 s07 s8 hwd
    refine seq_cut fun nxC hnxC => ?_
    refine ⟨_, rfl, a, sc, 6, rfl, s08.seq hS, hl, by decide, by decide, _, 9, rfl, by decide, fun nb ys H9 s9 hnb h9 hyl hys => ?_⟩
    refine ⟨nb, rfl, ⟨_, SqL.of h9⟩, fun D hD => ?_⟩
    refine loop_list (xs := ys.map V.int) (fun i σ HA => ∃ v rw', σ = [v, some (.ref m)] ∧ Same H9 HA ∧ HA D = some (.lst (rw'.map nV)) ∧ rw'.length = i ∧ ∀ x ∈ rw', x < M.length) ⟨none, [], rfl, Same.new hD, upd_same, rfl, fun x hx => absurd hx List.not_mem_nil⟩ ?_ ?_ ?_
    · rintro i σ HA _ ⟨v, rw', rfl, sA, _⟩
      exact SqL.of (sA _ _ h9)
    · rintro i x0 σ HA hx0 ⟨v, rw', rfl, sA, hA, lA, bA⟩
      have hil : i < ys.length := by have := (List.getElem?_eq_some_iff.mp hx0).1; rwa [List.length_map] at this
      rw [List.getElem?_map, List.getElem?_eq_getElem hil] at hx0
      cases hx0
      dsimp only [gName, tYes]
      rw [if_pos rfl]
      have eM : (((M.map mV).length : Nat) : Int) = ((3 * n : Nat) : Int) := by rw [List.length_map, hn]
      have k0 := Int.emod_nonneg ys[i] (show ((3 * n : Nat) : Int) ≠ 0 by omega)
      have k1 := Int.emod_lt_of_pos ys[i] (show (0 : Int) < ((3 * n : Nat) : Int) by omega)
      obtain ⟨e, he⟩ : ∃ e : Nat, ys[i] % ((3 * n : Nat) : Int) = e := ⟨_, (Int.toNat_of_nonneg k0).symm⟩
      refine ⟨_, rfl, _, rfl, m, _, rfl, .inl (SqL.of (sA _ _ (s9 _ _ hm8))), _, _, rfl, rfl, (by show (0 : Int) < _; rw [eM]; omega), _, hA, by rw [List.length_map, lA]; exact small1000 (by omega), _, rw' ++ [e], rfl, Same.add sA hD, ?_, by rw [List.length_append, lA]; rfl, fun x hx => ?_⟩
      · rw [upd_same, List.map_append]
        show some (HO.lst (rw'.map nV ++ [V.int (ys[i] % (((M.map mV).length : Nat) : Int))])) = _
        rw [eM, he]
        rfl
      · rcases List.mem_append.mp hx with z | z
        · exact bA x z
        · rw [List.mem_singleton.mp z]; omega
    rintro σ HA ⟨v, rws, rfl, sA, hA, lA, bA⟩
    rw [List.length_map, hyl] at lA
    refine hnxC _ _ ?_
    try dsimp only [gName]
    have s8A := s9.trans sA
    have taA := ta8.same s8A
    have tbA := tb8.same s8A
    have hmA := s8A _ _ hm8
    have hlA := s8A _ _ hl8
    have hwA := s8A _ _ h8
    have hrA := hr8.same s8A
    have i1 : ∀ (i j : Nat), M[i]? = some (some j) → j < M.length := tws.i1
    have i2 : ∀ (i j : Nat), M2[i]? = some (some j) → j < M2.length := tws.i2
    have twA : Tw t.C_Tent HA x y M M2 ns (flat M2 5 7) := ⟨taA, td.len.symm, tbA, td2.len.symm, tws.n1, tws.n2, i1, i2⟩
    clear ta8 tb8 hm8 hl8 h8 s8A s9 sA h9 hyl hys hnb hr8 s08 taA tbA
    refine seq_cut fun nxC hnxC => ?_
    refine ⟨_, rfl, _, rfl, ?_⟩
    cases b with
    | false =>
      have hN := hN rfl
      refine iteT ?_
      refine ⟨_, rfl, _, rfl, _, rfl, x, y, wd, M, M2, ns, flat M2 5 7, ws, rfl, twA, hwA, by omega, hwl, fun _ l1 HB sB hB => ?_, fun ls e => by rw [hN] at e; cases e⟩
      refine ⟨(by show 1 ≤ sizeLine; rw [sizeLine_eq]; decide), fun l2 hl2 => ?_⟩
      refine ⟨l1, l2, _, _, rfl, rfl, SqL.of ((Same.new hl2) _ _ hB), SqL.of upd_same, by decide +kernel, by decide +kernel, _, rfl, ?_⟩
      rw [show (Str.ofString "not alike" == Str.ofString "not alike") = true by decide +kernel]
      refine iteT ?_
      refine ⟨_, rfl, _, rfl, x, y, M, M2, ns, flat M2 5 7, rfl, twA.same (sB.trans (Same.new hl2)), fun _ HC sC => ⟨rfl, k _⟩, fun ls e => by rw [hN] at e; cases e⟩
    | true =>
    obtain ⟨f0, I0⟩ := hI rfl
    obtain ⟨φ, I, em⟩ := matF_some tws I0
    clear hN hI I0 f0
    refine iteF ?_
    try dsimp only [tNext]
    refine hnxC _ _ ?_
    refine seq_cut fun nxC hnxC => ?_
    refine ⟨_, rfl, _, rfl, x, y, M, M2, ns, flat M2 5 7, rfl, twA, (fun e => by rw [em] at e; cases e), fun ls e sp HB sB hB => ?_⟩
    rw [em] at e
    cases e
    refine hnxC _ _ ?_
    try dsimp only [gName]
    refine seq_cut fun nxC hnxC => ?_
    refine ⟨_, rfl, rfl, _, rfl, iteF ?_⟩
    refine ⟨_, rfl, _, rfl, _, rfl, m, l, sp, M, M2, φ, rfl, sB _ _ hmA, sB _ _ hlA, hB, I, tws, fun HC sC => ⟨_, rfl, iteF ?_⟩⟩
    try dsimp only [tNext]
    refine hnxC _ _ ?_
    have sAC := sB.trans sC
    have twC := twA.same sAC
    have hmC := sAC _ _ hmA
    have hlC := sAC _ _ hlA
    have hwC := sAC _ _ hwA
    have hDC := sAC _ _ hA
    have hpC := sC _ _ hB
    have hrC := hrA.same sAC
    clear twA hmA hlA hwA hA hB sAC sB sC hrA
    refine seq_cut fun nxC hnxC => ?_
    refine ⟨_, rfl, D, _, rfl, .inl (SqL.of hDC), fun hd hhd => ?_⟩
    refine hnxC _ _ ?_
    try dsimp only [gName]
    have s1 : Same HC (upd HC hd (.lst (rws.map nV))) := Same.new hhd
    have h1 : (upd HC hd (.lst (rws.map nV))) hd = some (.lst (rws.map nV)) := upd_same
    generalize upd HC hd (.lst (rws.map nV)) = HD at s1 h1 ⊢
    have twD := twC.same s1
    have hlsl : ((List.range M.length).map φ).length = M.length := by rw [List.length_map, List.length_range]
    have eC : ∀ {vs : List Nat}, (∀ x ∈ vs, x < M.length) → ∀ x ∈ vs, x < ((List.range M.length).map φ).length := fun h x hx => by rw [hlsl]; exact h x hx
    refine seq_cut fun nxC hnxC => ?_
    refine ⟨_, rfl, _, rfl, _, rfl, x, y, hd, M, M2, ns, flat M2 5 7, rws, rfl, twD, h1, by omega, bA, (fun e => by rw [em] at e; cases e), fun ls e fl HE sE hE => ?_⟩
    rw [em] at e
    cases e
    refine ⟨_, rfl, D, rfl, ⟨_, SqL.of (sE _ _ (s1 _ _ hDC))⟩, fun D2 hD2 => ?_⟩
    refine loop_spots (sE _ _ (s1 _ _ hpC)) (sE _ _ (s1 _ _ hDC)) (by omega) (eC bA) hD2 fun σ HF sF hF => ?_
    refine ⟨fl, D2, wI (carL ((List.range M.length).map φ) rws), rfl, by rw [← nv_wI]; exact sF _ _ hE, by rw [← nv_wI]; exact hF, by rw [wI_len, carL_len]; omega, _, rfl, iteF ?_⟩
    have sCF := s1.trans (sE.trans sF)
    refine ⟨_, rfl, _, rfl, hd, D, wI rws, wI rws, rfl, rfl, by rw [← nv_wI]; exact SqL.of ((sE.trans sF) _ _ h1), by rw [← nv_wI]; exact SqL.of (sCF _ _ hDC), _, rfl, ?_⟩
    rw [decide_eq_true rfl]
    refine iteF ?_
    try dsimp only [tNext]
    refine hnxC _ _ ?_
    have twF := twC.same sCF
    have hmF := sCF _ _ hmC
    have hlF := sCF _ _ hlC
    have hwF := sCF _ _ hwC
    have hpF := sCF _ _ hpC
    have hrF := hrC.same sCF
    clear twC hmC hlC hwC hDC hpC hrC twD s1 h1 sE hE sF hF sCF
    refine seq_cut fun nxC hnxC => ?_
    refine ⟨_, rfl, _, rfl, _, rfl, wd, _, rfl, .inl (SqL.of hwF), fun w1 hw1 => ?_⟩
    refine ⟨x, y, w1, M, M2, ns, flat M2 5 7, ws, rfl, twF.same (Same.new hw1), upd_same, by omega, hwl, (fun e => by rw [em] at e; cases e), fun ls e fh HG sG' hG => ?_⟩
    have sG := (Same.new hw1).trans sG'
    clear sG'
    rw [em] at e
    cases e
    refine hnxC _ _ ?_
    try dsimp only [gName]
    have hfh : (carL ((List.range M.length).map φ) ws) = ws.map φ := carL_iso hwl
    rw [hfh] at hG
    have twG := twF.same sG
    have hmG := sG _ _ hmF
    have hlG := sG _ _ hlF
    have hwG := sG _ _ hwF
    have hpG := sG _ _ hpF
    have hrG := hrF.same sG
    clear twF hmF hlF hwF hpF hrF sG
    refine seq_post (fun σ H' => σ = [some (.ref a), some (.ref m), some (.ref r), some (.ref g), some (.ref l), some (.int pick), some (.int f), some (.bl true), some (.ref x), some (.ref y), some (.ref wd), some (.ref D), some (.ref sp), some (.ref hd), some (.ref fh), none, none, none, none, none, none] ∧ Same HG H') (fun nx hnx => ?_) ?_
    · refine ⟨_, rfl, _, rfl, wd, rfl, ⟨_, SqL.of hwG⟩, fun D3 hD3 => ?_⟩
      refine loop_spots hpG hwG (by omega) (eC hwl) hD3 fun σ HH sH hH => ?_
      rw [hfh] at hH
      refine ⟨fh, D3, wI (ws.map φ), rfl, by rw [← nv_wI]; exact sH _ _ hG, by rw [← nv_wI]; exact hH, by rw [wI_len, List.length_map]; omega, _, rfl, iteF ?_⟩
      refine ⟨_, rfl, wd, _, rfl, .inl (SqL.of (sH _ _ hwG)), _, _, rfl, rfl, _, rfl, ?_⟩
      refine ite2 (fun z => ?_) (fun z => iteF (hnx _ _ ⟨rfl, sH⟩))
      rcases hpl with rfl | hP
      · exact absurd (of_decide_eq_true z) (by simp)
      · refine ⟨_, rfl, _, rfl, l, fh, M2, ws.map φ, rfl, sH _ _ hlG, sH _ _ hG, by rw [List.length_map]; omega, hP.iso I tws, _, rfl, iteF (hnx _ _ ⟨rfl, sH⟩)⟩
    rintro σ HH ⟨rfl, sH⟩
    have twH := twG.same sH
    have hmH := sH _ _ hmG
    have hlH := sH _ _ hlG
    have hwH := sH _ _ hwG
    have hfH := sH _ _ hG
    have hrH := hrG.same sH
    clear twG hmG hlG hwG hpG hrG sH hG
    refine seq_cut fun nxC hnxC => ?_
    refine ⟨_, rfl, l, M2, n, 5, 7, rfl, hlH, hn3, n1, by omega, inv3, by decide, fun r3 HI sI hr3 hrow3 => ?_⟩
    obtain ⟨ts3, q1, q2, q3⟩ := id hrow3
    have hts3 : ts3.length = n := by rw [td2.len, hn3] at q2; omega
    refine ⟨(by show 3 ≤ sizeLine; decide), fun t3 ht3 => ?_⟩
    refine ⟨(by show 1 ≤ sizeLine; decide), fun l3 hl3' => ?_⟩
    have s1 : Same HI (upd (upd HI t3 (.tup [V.int 9999, V.int 9998, V.int 9997])) l3 (.lst [V.ref t3])) := (Same.new ht3).trans (Same.new hl3')
    have e1 : (upd (upd HI t3 (.tup [V.int 9999, V.int 9998, V.int 9997])) l3 (.lst [V.ref t3])) t3 = some (.tup [V.int 9999, V.int 9998, V.int 9997]) := (Same.new hl3') _ _ upd_same
    have e2 : (upd (upd HI t3 (.tup [V.int 9999, V.int 9998, V.int 9997])) l3 (.lst [V.ref t3])) l3 = some (.lst [V.ref t3]) := upd_same
    generalize upd (upd HI t3 (.tup [V.int 9999, V.int 9998, V.int 9997])) l3 (.lst [V.ref t3]) = HJ at s1 e1 e2 ⊢
    refine ⟨r3, l3, _, _, rfl, rfl, s1 _ _ q1, e2, by rw [List.length_map, hts3, sizeLine_eq]; show n + 1 ≤ _; omega, fun p3 hp3 => ?_⟩
    have s2 : Same HJ (upd HJ p3 (.lst (ts3.map V.ref ++ [V.ref t3]))) := Same.new hp3
    have rows3 : RowsAt (upd HJ p3 (.lst (ts3.map V.ref ++ [V.ref t3]))) p3 (flat M2 5 7 ++ [9999, 9998, 9997]) := by
      refine ⟨ts3 ++ [t3], by rw [upd_same, List.map_append]; rfl, by rw [List.length_append, List.length_append, q2]; show 3 * ts3.length + 3 = 3 * (ts3.length + 1); omega, fun kk tt ht => ?_⟩
      rw [List.getElem?_append] at ht
      split at ht
      · rename_i hk
        rw [row3_app (by omega)]
        exact s2 _ _ (s1 _ _ (q3 kk tt ht))
      · rename_i hk
        have : kk = ts3.length := by
          have := (List.getElem?_eq_some_iff.mp ht).1
          rw [List.length_singleton] at this
          omega
        subst this
        rw [Nat.sub_self] at ht
        cases ht
        rw [row3_last q2]
        exact s2 _ _ e1
    generalize upd HJ p3 (.lst (ts3.map V.ref ++ [V.ref t3])) = HK at s2 rows3 ⊢
    intro y3 dy3 hy3 hdy3 hne3
    have s7 : Same HK (upd (upd HK dy3 (.own y3)) y3 (.ins t.C_Tent dy3 [])) := Same.add (Same.new hdy3) hy3
    have td3 := td_more hn3 n1 n14 inv3
    refine ⟨y3, p3, dy3, M2 ++ [none, none, none], flat M2 5 7 ++ [9999, 9998, 9997], rfl, upd_same, rows3.same s7, td3, by rw [td3.len, List.length_append, hn3]; show 3 * n + 3 ≤ 120; omega, fun HL old tc => ⟨rfl, ?_⟩⟩
    have sKL : Same HK HL := fun b u e => old b u (ne_of_none e hy3) (s7 _ _ e)
    refine hnxC _ _ ?_
    try dsimp only [gName]
    have sHL := ((sI.trans s1).trans s2).trans sKL
    have twL := twH.same sHL
    have hmL := sHL _ _ hmH
    have hwL := sHL _ _ hwH
    have hfL := sHL _ _ hfH
    have hrL := hrH.same sHL
    clear twH hmH hlH hwH hfH hrH sHL sKL s7 s2 s1 sI rows3 old q1 q3 e1 e2 hrow3 hy3 hdy3 hne3
    have l3n : (M2 ++ [none, none, none]).length = 3 * (n + 1) := by rw [List.length_append, hn3]; show 3 * n + 3 = _; omega
    have em3 : matF M (M2 ++ [none, none, none]) = none := by
      unfold matF
      rw [if_neg (by rw [l3n]; omega)]
    have tw3 : Tw t.C_Tent HL x y3 M (M2 ++ [none, none, none]) ns (flat M2 5 7 ++ [9999, 9998, 9997]) := ⟨twL.t1, td.len.symm, tc, td3.len.symm, tws.n1, ⟨n + 1, l3n, by omega⟩, i1, fun i j z => (List.getElem?_eq_some_iff.mp (td3.inv i j z).1).1⟩
    refine seq_cut fun nxC hnxC => ?_
    refine ⟨_, rfl, _, rfl, _, rfl, wd, _, rfl, .inl (SqL.of hwL), fun w2 hw2 => ?_⟩
    refine ⟨x, y3, w2, M, M2 ++ [none, none, none], ns, flat M2 5 7 ++ [9999, 9998, 9997], ws, rfl, tw3.same (Same.new hw2), upd_same, by omega, hwl, fun _ l5 HN sN' hN5 => ?_, fun ls e => by rw [em3] at e; cases e⟩
    have sN := (Same.new hw2).trans sN'
    clear sN'
    refine ⟨(by show 1 ≤ sizeLine; rw [sizeLine_eq]; decide), fun l6 hl6 => ?_⟩
    refine ⟨l5, l6, _, _, rfl, rfl, SqL.of ((Same.new hl6) _ _ hN5), SqL.of upd_same, by decide +kernel, by decide +kernel, _, rfl, ?_⟩
    rw [show (!(Str.ofString "not alike" == Str.ofString "not alike")) = false by decide +kernel]
    refine iteF ?_
    have sLN : Same HL (upd HN l6 (.lst [V.str (Str.ofString "not alike")])) := sN.trans (Same.new hl6)
    generalize upd HN l6 (.lst [V.str (Str.ofString "not alike")]) = HO1 at sLN ⊢
    refine ⟨_, rfl, _, rfl, _, rfl, wd, _, rfl, .inl (SqL.of (sLN _ _ hwL)), fun w3 hw3 => ?_⟩
    refine ⟨x, y, w3, M, M2, ns, flat M2 5 7, ws, rfl, (twL.same sLN).same (Same.new hw3), upd_same, by omega, hwl, (fun e => by rw [em] at e; cases e), fun ls e l7 HQ sQ' hQ => ?_⟩
    have sLQ := (sLN.trans (Same.new hw3)).trans sQ'
    clear sQ'
    rw [em] at e
    cases e
    rw [hfh] at hQ
    refine ⟨_, rfl, l7, fh, wI (ws.map φ), rfl, by rw [← nv_wI]; exact hQ, by rw [← nv_wI]; exact sLQ _ _ hfL, by rw [wI_len, List.length_map]; omega, _, rfl, iteF ?_⟩
    try dsimp only [tNext]
    refine hnxC _ _ ?_
    have taQ := (twL.same sLQ).t1
    have hmQ := sLQ _ _ hmL
    have hrQ := hrL.same sLQ
    clear twL tw3 hmL hwL hfL hrL sLQ sLN sN hN5 hl6 hQ td3 l3n em3 tc
    refine seq_cut fun nxC hnxC => ?_
    refine ⟨_, rfl, m, M, rfl, hmQ, by omega, td.inv, fun fl HR sR hfl hR => ?_⟩
    refine hnxC _ _ ?_
    try dsimp only [gName]
    have taR := taQ.same sR
    have hmR := sR _ _ hmQ
    have hrR := hrQ.same sR
    clear taQ hmQ hrQ sR hfl
    refine seq_cut fun nxC hnxC => ?_
    refine ⟨_, rfl, fl, _, rfl, .inl (SqL.of hR), rfl, _, rfl, ?_⟩
    refine ite2 (fun z => k _) (fun z => ?_)
    have hne0 : (freeL M).length ≠ 0 := by
      intro y
      exact z (by rw [List.length_map, y]; rfl)
    dsimp only [tNext]
    refine hnxC _ _ ?_
    have k0 := Int.emod_nonneg (pick / 16) (show ((freeL M).length : Int) ≠ 0 by omega)
    have k1 := Int.emod_lt_of_pos (pick / 16) (show (0 : Int) < (freeL M).length by omega)
    obtain ⟨kk, hkk⟩ : ∃ kk : Nat, pick / 16 % ((freeL M).length : Int) = kk := ⟨_, (Int.toNat_of_nonneg k0).symm⟩
    have hkl : kk < (freeL M).length := by omega
    have hget := List.getElem?_eq_getElem hkl
    refine seq_cut fun nxC hnxC => ?_
    refine ⟨_, rfl, _, rfl, _, _, rfl, rfl, ⟨by decide, by decide⟩, _, rfl, fl, _, rfl, .inl (SqL.of hR), _, _, rfl, rfl, (by rw [List.length_map]; omega), fl, _, _, _, rfl, rfl, SqL.of hR, (by rw [List.length_map, hkk]; exact map_at hget), ?_⟩
    refine hnxC _ _ ?_
    try dsimp only [gName]
    obtain ⟨j, hj, hqj, hcl⟩ := free_mem (List.getElem_mem hkl)
    generalize (freeL M)[kk] = q at hj hqj hcl ⊢
    have hqM : q < M.length := (List.getElem?_eq_some_iff.mp hj).1
    have hjM : j < M.length := (List.getElem?_eq_some_iff.mp (td.inv q j hj).1).1
    have hqn : q < ns.length := by rw [td.len]; exact hqM
    obtain ⟨nmq, hnm⟩ : ∃ z, ns[q]? = some z := ⟨_, List.getElem?_eq_getElem hqn⟩
    obtain ⟨hk, hpl2⟩ := pl_two td hj hqj hnm
    refine seq_cut fun nxC hnxC => ?_
    refine ⟨_, rfl, _, rfl, _, rfl, _, rfl, m, M, n, q, j, true, rfl, hmR, hn, n40, hj, (td.inv q j hj).1, hcl, fun gl HS sS hgl hS1 => ?_⟩
    refine ⟨m, r, gl, M, ns, q, j, true, rfl, sS _ _ hmR, hrR.same sS, hS1, td, hqM, hjM, hcl, fun p9 m9 r9 HT sT hp9 hm9 hr9 => ?_⟩
    refine hnxC _ _ ?_
    try dsimp only [gName]
    have sRT := sS.trans sT
    have taT := taR.same sRT
    have hmT := sRT _ _ hmR
    have hrT := hrR.same sRT
    clear taR hmR hrR sRT sS sT hS1 hgl hr9
    refine seq_cut fun nxC hnxC => ?_
    refine ⟨_, rfl, _, rfl, _, rfl, _, rfl, m, M, n, q, j, false, rfl, hmT, hn, n40, hj, (td.inv q j hj).1, hcl, fun gl2 HU sU hgl2 hU1 => ?_⟩
    refine ⟨m, r, gl2, M, ns, q, j, false, rfl, sU _ _ hmT, hrT.same sU, hU1, td, hqM, hjM, hcl, fun p8 m8 r8 HV sV hp8 hm8 hr8 => ?_⟩
    refine hnxC _ _ ?_
    try dsimp only [gName]
    have sTV := sU.trans sV
    have taV := taT.same sTV
    have hrV := hrT.same sTV
    have hp9 := sTV _ _ hp9
    have hm9 := sTV _ _ hm9
    clear taT hmT hrT sTV sU sV hU1 hgl2 hr8
    refine seq_cut fun nxC hnxC => ?_
    refine ⟨_, rfl, _, rfl, r, ns, q, nmq, rfl, hrV, hnm, ?_⟩
    refine hnxC _ _ ?_
    try dsimp only [gName]
    have tdL : TD (exM true q j M) (exN true q j ns) := td.ex hqM hjM hcl true
    have tdR : TD (exM false q j M) (exN false q j ns) := td.ex hqM hjM hcl false
    have lL : (exM true q j M).length = 3 * n := by rw [exM_len]; exact hn
    have lR : (exM false q j M).length = 3 * n := by rw [exM_len]; exact hn
    have twsX : Tws (exM true q j M) (exM false q j M) := ⟨⟨n, lL, by omega⟩, ⟨n, lR, by omega⟩, fun i j z => (tdL.inv i j z).1, fun i j z => (tdR.inv i j z).1⟩
    obtain ⟨ψ, J, emX⟩ := matF_some twsX (iso_ex td hj hcl)
    refine seq_cut fun nxC hnxC => ?_
    refine ⟨_, rfl, _, rfl, x, M, ns, nmq, wayS true, rfl, taV, td, Wrong.free td hk hpl2 hcl fun HW sW x1 hx1 ta1 => ?_⟩
    rw [way_isL] at ta1
    refine ⟨_, rfl, _, rfl, x, M, ns, nmq, wayS false, rfl, taV.same sW, td, Wrong.free td hk hpl2 hcl fun HX sX x2 hx2 ta2 => ?_⟩
    rw [way_isL] at ta2
    refine ⟨x1, x2, exM true q j M, exM false q j M, exN true q j ns, exN false q j ns, rfl, ⟨ta1.same sX, tdL.len.symm, ta2, tdR.len.symm, twsX.n1, twsX.n2, twsX.i1, twsX.i2⟩, (fun e => by rw [emX] at e; cases e), fun ls e sp2 HY sY hY => ?_⟩
    rw [emX] at e
    cases e
    refine hnxC _ _ ?_
    try dsimp only [gName]
    have sVY := sW.trans (sX.trans sY)
    refine ⟨_, rfl, rfl, _, rfl, iteT ?_⟩
    refine ⟨_, rfl, p9, _, _, _, rfl, rfl, SqT.of (sVY _ _ hp9), rfl, _, rfl, p8, _, _, _, rfl, rfl, SqT.of (sVY _ _ hp8), rfl, _, rfl, m9, m8, sp2, exM true q j M, exM false q j M, ψ, rfl, sVY _ _ hm9, sVY _ _ hm8, hY, J, twsX, fun HZ sZ => k _⟩
end
end KT
set_option maxHeartbeats 4000000
open PySem PySem.W PyProof.Rows
namespace PySem.W.Fast
def tw12788228171023065441 := 0
def tw13628325190743176600 := 0
def tw6306574695182921853 := 0
def tw17184612295038172455 := 0
def tw2546334850823695464 := 0
def tw4622926499158713322 := 0
def tw16417713083888676900 := 0
def tw4872131365840511082 := 0
def tw5505384979514190482 := 0
def tw1487698729254702374 := 0
def tw17029961048243056443 := 0
def tw6895147463273004774 := 0
def tw16120139977188356344 := 0
def tw9423931332225901867 := 0
def tw7107932420867596700 := 0
def tw2739406163964174927 := 0
def tw10280916041651621865 := 0
def tw18058299459133179064 := 0
def tw14737419960953915121 := 0
def tw11975437432110579951 := 0
def tw1884054121822867816 := 0
def tw4977458824288506761 := 0
def tw8339193190655218083 := 0
def tw3274149171633852779 := 0
def tw11555102080879867386 := 0
def tw3200070444072679267 := 0
def tw13064696953384708168 := 0
def tw4053088515989389670 := 0
def tw15078497371188453102 := 0
def tw2195870473174208262 := 0
def tw10055157023445813900 := 0
def tw9014145352630370932 := 0
def tw8716179830751988363 := 0
def tw3813795898799357483 := 0
def tw3506165986392292702 := 0
def tw14341719730602984869 := 0
def tw3889320348833500924 := 0
def tw10506597601962147597 := 0
def tw5553300188934994116 := 0
def tw3780289752773266725 := 0
def tw36892154540947104 := 0
def tw904762115707620969 := 0
def tw9677550817572377533 := 0
def tw11651884971482152291 := 0
def tw12594355263168125730 := 0
def tw4474586479631902720 := 0
def tw17029891669066500858 := 0
def tw2855389591624824046 := 0
def tw12259184314889039205 := 0
def tw8519884902140561808 := 0
def tw14557305171657686003 := 0
def tw11682083585298670145 := 0
def tw7976072949313139625 := 0
def tw16291867005730030177 := 0
def tw3235066389278686331 := 0
def tw4584805764844508151 := 0
def tw3485500193430100847 := 0
def tw7094823378690018079 := 0
def tw8278389400011726874 := 0
def tw10029092459545847173 := 0
def tw14526228176917217531 := 0
def tw9802567809811642888 := 0
def tw118276778777984903 := 0
def tw15163130063176969671 := 0
def tw14724508180307898941 := 0
def tw9084462342062549866 := 0
def tw11623018992961502777 := 0
def tw13876614118998405185 := 0
def tw4747888452906768817 := 0
def tw2682284918479892009 := 0
def tw13821428901849720198 := 0
def tw6488226750925215036 := 0
def tw14836504999132172552 := 0
def tw17365684741171121735 := 0
def tw1081431814876496816 := 0
def tw4887595631206630165 := 0
def tw13619466552906892136 := 0
def tw9814098509739621206 := 0
def tw5681925204383471485 := 0
def tw3155871325210723164 := 0
def tw357701310276169773 := 0
def tw15476116875816398578 := 0
def tw15771929734367803576 := 0
def tw277883682845898586 := 0
def tw1511021563167181838 := 0
def tw1464681538340813617 := 0
def tw13320343048141248306 := 0
def tw16289497837467098546 := 0
def tw17596628641610032733 := 0
def tw3651659068961690061 := 0
def tw13614307909974775149 := 0
def tw13844895883676134759 := 0
def tw4650987413208395466 := 0
def tw3693210264503011103 := 0
def tw5378871595250686480 := 0
def tw2795687858905626589 := 0
def tw12401552191164950691 := 0
def tw14795029205526214912 := 0
def tw5913749413455139311 := 0
def tw4356027637085320601 := 0
def tw10587106770561395539 := 0
def tw14471969356697399286 := 0
def tw8527398385322005715 := 0
def tw10574759693177618167 := 0
def tw9115174108230765820 := 0
def tw14623082633872437332 := 0
def tw17548480563070889177 := 0
def tw11359033001225731773 := 0
def tw16735843573539194868 := 0
def tw7707540371934723251 := 0
def tw385405823075415869 := 0
def tw13792355121118021080 := 0
def tw2604063333920126958 := 0
def tw15129952837260820416 := 0
def tw10551920259245899472 := 0
def tw575378408884421025 := 0
def tw2810674768947591842 := 0
def tw16923277352170762747 := 0
def tw16898907654638340936 := 0
def tw3448452996993287206 := 0
def tw2478909599266729560 := 0
def tw18158261188227525165 := 0
def tw13235568200350122808 := 0
def tw3233149792640805448 := 0
def tw8727837921326689673 := 0
def tw6708924864256533484 := 0
def tw6843714241143554342 := 0
def tw9739843405389307670 := 0
def tw261454921070759992 := 0
def tw12716772127840206828 := 0
def tw18139814955987498614 := 0
def tw17675651802244815749 := 0
def tw18183587525472571738 := 0
def tw2952193104056611264 := 0
def tw2658755884947296940 := 0
def tw11434261260377092766 := 0
def tw2726145493047089624 := 0
def tw830331110840325936 := 0
def tw12478485365364630101 := 0
def tw6286039393957715788 := 0
def tw6514627034523148163 := 0
def tw8354288247856633593 := 0
def tw9769527418733384299 := 0
def tw15132707660017940632 := 0
def tw8205352865680231929 := 0
def tw16421865038728044885 := 0
def tw14626030697714162541 := 0
def tw16827670353000119242 := 0
def tw15098496440015058753 := 0
def tw1711936779241271973 := 0
def tw5458011471638864968 := 0
def tw4041359189713670806 := 0
def tw3086422161619358986 := 0
def tw11621521500011143409 := 0
def tw1971986065801767932 := 0
def tw17011511436276558552 := 0
def tw1353015860695913080 := 0
def tw1174818658849801453 := 0
def tw14213371221175891313 := 0
def tw620814763423099262 := 0
def tw2157979028725704151 := 0
def tw14726990322405483595 := 0
def tw7046479259272638200 := 0
def tw3502252192446880165 := 0
def tw15936833399349945184 := 0
def tw11938807567320195625 := 0
def tw9901485822947397046 := 0
def tw4915824725395155473 := 0
def tw13365584361504411142 := 0
def tw15163612211821407230 := 0
def tw5080697141801465722 := 0
def tw10644325933052161376 := 0
def tw13481777134921598704 := 0
def tw11904148639182068722 := 0
def tw9913772453518359594 := 0
def tw5222907346964811123 := 0
def tw10783799885595542093 := 0
def tw13757144855818143864 := 0
def tw955461134115379949 := 0
def tw6728629059316708198 := 0
def tw10319485538968726944 := 0
def tw17948447219158944653 := 0
def tw6196530123360149675 := 0
def tw1585389662123523952 := 0
def tw6255692355065402289 := 0
def tw16575295316401368440 := 0
def tw14098770286736184831 := 0
def tw10183089164020034094 := 0
def tw16521113774517830931 := 0
def tw16123667763110918859 := 0
def tw10607719787911146197 := 0
def tw8186304536305031805 := 0
def tw4308142555177050367 := 0
def tw6107726229735125226 := 0
def tw15590026605380517600 := 0
def tw6661762166750060333 := 0
def tw13554891524569267953 := 0
def tw7489136838752157444 := 0
def tw10994998400673708127 := 0
def tw17270041896253485324 := 0
def tw10246928573436074600 := 0
def tw13576071830912138063 := 0
def tw5555613158991782137 := 0
def tw93638752290851179 := 0
def tw5952361987805621092 := 0
def tw17153839797657131160 := 0
def tw824201636515023474 := 0
def tw15120132244590661400 := 0
def tw17150776571656701295 := 0
def tw13131340191546082432 := 0
def tw3327007493381463267 := 0
def tw8996845180216936154 := 0
def tw1192045809500016268 := 0
def tw4984418019314243134 := 0
def tw8874049089499992862 := 0
def tw7520124190919899495 := 0
def tw6292846334708938142 := 0
def tw15127264363768061912 := 0
def tw11521335121868479634 := 0
def tw9981494931396138779 := 0
def tw9046743117012608017 := 0
def tw17253708796528387275 := 0
def tw17241160928121402688 := 0
def tw14705880731167818772 := 0
def tw2807111053599172342 := 0
def tw14906609975450600903 := 0
def tw18424567067409179096 := 0
def tw15663214671321513547 := 0
def tw3653366920018381598 := 0
def tw5980840716387875026 := 0
def tw4537885101111446289 := 0
def tw5714012589577318749 := 0
def tw9443110193198313475 := 0
def tw1738479681220594150 := 0
def tw10243045458812602121 := 0
def tw6849003383745123378 := 0
def tw9853685441246156561 := 0
def tw12864292708604141229 := 0
def tw1925778566879554912 := 0
def tw14268504387535825989 := 0
def tw12890319845235123405 := 0
def tw9695415910817200430 := 0
def tw18346553628795029996 := 0
def tw7458227388435107425 := 0
def tw4686636731567357118 := 0
def tw12644647020058728845 := 0
def tw14959695499351534862 := 0
def tw11765913637744531833 := 0
def tw1731376449160347465 := 0
def tw9126485797693903313 := 0
def tw2790717232005942899 := 0
def tw4373833232705159963 := 0
def tw976725096161973121 := 0
def tw2879004192934409617 := 0
def tw7346322579915644107 := 0
def tw9466772295673053533 := 0
def tw9070385802046295691 := 0
def tw3881554304275702929 := 0
def tw4944674236104165461 := 0
def tw13069934658945442879 := 0
def tw2547480890985874684 := 0
def tw5435929403683325193 := 0
def tw3572248810508007445 := 0
def tw16729581425932534918 := 0
def tw10040139266549278673 := 0
def tw11648144571844858117 := 0
def tw11418456228884186576 := 0
def tw13643590279069607943 := 0
def tw5647123826443985295 := 0
def tw5151022513575847745 := 0
def tw17097353018592454411 := 0
def tw3933769271664934992 := 0
def tw16530861565268519050 := 0
def tw7767684282074354039 := 0
def tw2250935578410441578 := 0
def tw15991334660211998860 := 0
def tw4541953808443666608 := 0
def tw1930153449500165652 := 0
def tw12487419820876108793 := 0
def tw368789376578562911 := 0
def tw12668426122189510308 := 0
def tw11524897012202698393 := 0
def tw4501795628022675247 := 0
def tw14782579565892096574 := 0
def tw7029162222830249457 := 0
def tw17769599443154081354 := 0
def tw14646008062692589054 := 0
def tw9934321932122727854 := 0
def tw17654688307121096633 := 0
def tw14119234733728766977 := 0
def tw11537017619205591003 := 0
def tw15113034588425172253 := 0
def tw10400073137867233641 := 0
def tw608627913463931376 := 0
def tw17114284774702780094 := 0
def tw7679633629813550100 := 0
def tw17892093866835426489 := 0
def tw14250687787019136593 := 0
def tw12246817055519135484 := 0
def tw13420924098314092430 := 0
def tw5641069269360715419 := 0
def tw8662222424757277919 := 0
def tw5426329510536939146 := 0
def tw166838363082843841 := 0
def tw12002211237309662191 := 0
def tw6890471566484426754 := 0
def tw6864563312518174540 := 0
def tw6128926204712561446 := 0
def tw2702308883499045345 := 0
def tw10417023087616725414 := 0
def tw1371336100142538790 := 0
def tw16242247586149684099 := 0
def tw15201355586053998925 := 0
def tw6525184061431569224 := 0
def tw13112830517019897041 := 0
def tw18145912888692334102 := 0
def tw3724226572870704448 := 0
def tw7254140726836705293 := 0
def tw1028772148359721612 := 0
def tw9252925151205213187 := 0
def tw4703231762534860213 := 0
def tw12389213973718192919 := 0
def tw9752921042695617805 := 0
def tw16681144969228609239 := 0
def tw10868738159376272272 := 0
def tw9151174243856614055 := 0
def tw1936058795628675891 := 0
def tw12452749313892883018 := 0
def tw13183653123065397396 := 0
def tw9569010597965737464 := 0
def tw1970325986822608019 := 0
def tw14266845420618538665 := 0
def tw5831245739268853075 := 0
def tw13143401361691497630 := 0
def tw12176984325760734296 := 0
def tw941176738993085341 := 0
def tw16197400434432237547 := 0
def tw4618824949030491844 := 0
def tw6479746776764440802 := 0
def tw5631479209843556222 := 0
def tw7675915876164929346 := 0
def tw10972300025513187576 := 0
def tw2618582389184300192 := 0
def tw13398186376412194671 := 0
def tw14084771480122412262 := 0
def tw2315658147477167881 := 0
def tw16902106421168666607 := 0
def tw10418250516940577537 := 0
def tw10070741972033648469 := 0
def tw1209999200698098872 := 0
def tw11072368852427718763 := 0
def tw14638836843512330403 := 0
def tw11285683485061726986 := 0
def tw8329276650355710557 := 0
def tw5124446996283615881 := 0
def tw10528307044492712420 := 0
def tw15947430050735262837 := 0
def tw3036433154986474498 := 0
def tw9745641085862411672 := 0
def tw1126434454296059591 := 0
def tw7285136504648622857 := 0
def tw95536872892359778 := 0
def tw9998348815241725868 := 0
def tw11165793446703436633 := 0
def tw16541106224663022473 := 0
def tw17918259031310642047 := 0
def tw6506568492082343445 := 0
def tw3723817238636269734 := 0
def tw10049517560005576210 := 0
def tw4020477496379175338 := 0
def tw17561260085849453434 := 0
def tw10165474199239081638 := 0
def tw2352559954842944769 := 0
def tw4478433680407605804 := 0
def tw13380826976627222348 := 0
def tw11635842575110389327 := 0
def tw1852085735188860538 := 0
def tw10186077565140453492 := 0
def tw16423001745062097999 := 0
def tw10858338954183473125 := 0
def tw449587983712380536 := 0
def tw16654172845056725712 := 0
def tw3131177787465425889 := 0
def tw215059470583069117 := 0
def tw16979457178824720923 := 0
def tw5854171167564583544 := 0
def tw16100827833772507326 := 0
def tw1306038910887098763 := 0
def tw4630975511141442988 := 0
def tw14873401406555148420 := 0
def tw3216705206087676902 := 0
def tw18113561438732801315 := 0
def tw12792681809748874589 := 0
def tw2541110918817246822 := 0
def tw7645949632624420153 := 0
def tw17562071968544505307 := 0
def tw11892491976644580864 := 0
def tw18327598379347794742 := 0
def tw10677292300916532904 := 0
def tw12111031159453369349 := 0
def tw5927811159616695237 := 0
def tw673471098525220105 := 0
def tw16584040845146593645 := 0
def tw15503819050721873701 := 0
def tw15879529767873691904 := 0
def tw11093621691592385494 := 0
def tw2156808106085137731 := 0
def tw3905634284854111863 := 0
def tw7836716845701158873 := 0
def tw4025197506692182283 := 0
def tw2562474852135453351 := 0
end PySem.W.Fast
set_option maxRecDepth 100000 in
set_option maxHeartbeats 0 in
theorem PySem.Challenge.cw_tentloops_k49_carried_threads_holds : PySem.Challenge.rw_tentloops_k49_carried_threads.Holds := by
 w_on; o_law; k_head; (case hw => w_witness2)
 k_fill
 refine L2.walk_r (l := PySem.Challenge.rw_tentloops_k49_carried_threads) (k := 10) (spl := KT.sp_law) rfl rfl ⟨rfl, by decide, by decide⟩ (fun w h Y => PySem.W.kIn_of Y) (fun K H a ns hl hS => KT.sp_law_start hl hS) ?F
 case F =>
  intro w mg fa h KX G hmg
  have T : ∃ t, KT.Txt w (L2.KOf KX) mg t := by
   dsimp only [L2.KOf]
   refine' ⟨⟨_, _, _, _, _, _, _, _, _, _, _, _, _, _, _, _, _, _, _, _, _, _, _, _, _, _, _, _, _, _, _, _, _, _, _, _, _, _, _, _, _, _, _, _, _, _, _, _, _, _, _, _, _, _, _, _, _, _, _, _, _, _, _, _, _, _, _, _, _, _, _, _, _, _, _, _, _, _, _, _, _, _, _, _, _, _, _, _, _, _, _, _, _, _, _, _, _⟩, ⟨mg_of KX G ?_, ⟨?_, ?_, ?_, ?_⟩, ?_, ?_, ?_, ?_, KT.FT.of KX G (KT.ba1 (fun _ _ _ _ _ _ _ _ => rfl) rfl) ?_ ?_ ?_ ?_, KT.FT.of KX G (KT.ba1 (fun _ _ _ _ _ _ _ _ => rfl) rfl) ?_ ?_ ?_ ?_, KT.FT.of KX G (KT.ba1 (fun _ _ _ _ _ _ _ _ => rfl) rfl) ?_ ?_ ?_ ?_, KT.FT.of KX G (KT.ba1 (fun _ _ _ _ _ _ _ _ => rfl) rfl) ?_ ?_ ?_ ?_, KT.FT.of KX G (KT.ba2 (fun _ _ _ _ _ _ _ _ _ => rfl) rfl) ?_ ?_ ?_ ?_, KT.FM.of (KT.ba2 (fun _ _ _ _ _ _ _ _ _ => rfl) rfl) ?_ ?_ ?_ ?_ ?_, KT.FM.of (KT.ba1 (fun _ _ _ _ _ _ _ _ => rfl) rfl) ?_ ?_ ?_ ?_ ?_, KT.FM.of (KT.ba1 (fun _ _ _ _ _ _ _ _ => rfl) rfl) ?_ ?_ ?_ ?_ ?_, KT.FM.of (KT.ba1 (fun _ _ _ _ _ _ _ _ => rfl) rfl) ?_ ?_ ?_ ?_ ?_, KT.FM.of (KT.ba2 (fun _ _ _ _ _ _ _ _ _ => rfl) rfl) ?_ ?_ ?_ ?_ ?_, KT.FM.of (KT.ba2 (fun _ _ _ _ _ _ _ _ _ => rfl) rfl) ?_ ?_ ?_ ?_ ?_, KT.FM.of (KT.ba2 (fun _ _ _ _ _ _ _ _ _ => rfl) rfl) ?_ ?_ ?_ ?_ ?_, KT.FM.of (KT.ba2 (fun _ _ _ _ _ _ _ _ _ => rfl) rfl) ?_ ?_ ?_ ?_ ?_, KT.FM.of (KT.ba2 (fun _ _ _ _ _ _ _ _ _ => rfl) rfl) ?_ ?_ ?_ ?_ ?_, KT.FM.of (KT.ba2 (fun _ _ _ _ _ _ _ _ _ => rfl) rfl) ?_ ?_ ?_ ?_ ?_, KT.FT.of KX G (KT.ba4 (fun _ _ _ _ _ _ _ _ _ _ _ => rfl) rfl) ?_ ?_ ?_ ?_, KT.FT.of KX G (KT.ba4 (fun _ _ _ _ _ _ _ _ _ _ _ => rfl) rfl) ?_ ?_ ?_ ?_, KT.FT.of KX G (KT.ba4 (fun _ _ _ _ _ _ _ _ _ _ _ => rfl) rfl) ?_ ?_ ?_ ?_, KT.FT.of KX G (KT.ba2 (fun _ _ _ _ _ _ _ _ _ => rfl) rfl) ?_ ?_ ?_ ?_, KT.FT.of KX G (KT.ba3 (fun _ _ _ _ _ _ _ _ _ _ => rfl) rfl) ?_ ?_ ?_ ?_, KT.FT.of KX G (KT.ba1 (fun _ _ _ _ _ _ _ _ => rfl) rfl) ?_ ?_ ?_ ?_, KT.FT.of KX G (KT.ba2 (fun _ _ _ _ _ _ _ _ _ => rfl) rfl) ?_ ?_ ?_ ?_, KT.FT.of KX G (KT.ba2 (fun _ _ _ _ _ _ _ _ _ => rfl) rfl) ?_ ?_ ?_ ?_, KT.FT.of KX G (KT.ba3 (fun _ _ _ _ _ _ _ _ _ _ => rfl) rfl) ?_ ?_ ?_ ?_, KT.FT.of KX G (KT.ba3 (fun _ _ _ _ _ _ _ _ _ _ => rfl) rfl) ?_ ?_ ?_ ?_, KT.FT.of KX G (KT.ba1 (fun _ _ _ _ _ _ _ _ => rfl) rfl) ?_ ?_ ?_ ?_, KT.FT.of KX G (KT.ba2 (fun _ _ _ _ _ _ _ _ _ => rfl) rfl) ?_ ?_ ?_ ?_, KT.FT.of KX G (KT.ba2 (fun _ _ _ _ _ _ _ _ _ => rfl) rfl) ?_ ?_ ?_ ?_, KT.FT.of KX G (KT.ba2 (fun _ _ _ _ _ _ _ _ _ => rfl) rfl) ?_ ?_ ?_ ?_, KT.FT.of KX G (KT.ba3 (fun _ _ _ _ _ _ _ _ _ _ => rfl) rfl) ?_ ?_ ?_ ?_, KT.FT.of KX G (KT.ba3 (fun _ _ _ _ _ _ _ _ _ _ => rfl) rfl) ?_ ?_ ?_ ?_, KT.FT.of KX G (KT.ba1 (fun _ _ _ _ _ _ _ _ => rfl) rfl) ?_ ?_ ?_ ?_, KT.FT.of KX G (KT.ba2 (fun _ _ _ _ _ _ _ _ _ => rfl) rfl) ?_ ?_ ?_ ?_, KT.FT.of KX G (KT.ba2 (fun _ _ _ _ _ _ _ _ _ => rfl) rfl) ?_ ?_ ?_ ?_, KT.FT.of KX G (KT.ba3 (fun _ _ _ _ _ _ _ _ _ _ => rfl) rfl) ?_ ?_ ?_ ?_, KT.FT.of KX G (KT.ba2 (fun _ _ _ _ _ _ _ _ _ => rfl) rfl) ?_ ?_ ?_ ?_, KT.FT.of KX G (KT.ba1 (fun _ _ _ _ _ _ _ _ => rfl) rfl) ?_ ?_ ?_ ?_, KT.FT.of KX G (KT.ba3 (fun _ _ _ _ _ _ _ _ _ _ => rfl) rfl) ?_ ?_ ?_ ?_, KT.FT.of KX G (KT.ba2 (fun _ _ _ _ _ _ _ _ _ => rfl) rfl) ?_ ?_ ?_ ?_, KT.FT.of KX G (KT.ba3 (fun _ _ _ _ _ _ _ _ _ _ => rfl) rfl) ?_ ?_ ?_ ?_, KT.FT.of KX G (KT.ba2 (fun _ _ _ _ _ _ _ _ _ => rfl) rfl) ?_ ?_ ?_ ?_, KT.FT.of KX G (KT.ba3 (fun _ _ _ _ _ _ _ _ _ _ => rfl) rfl) ?_ ?_ ?_ ?_, KT.FT.of KX G (KT.ba3 (fun _ _ _ _ _ _ _ _ _ _ => rfl) rfl) ?_ ?_ ?_ ?_, KT.FT.of KX G (KT.ba1 (fun _ _ _ _ _ _ _ _ => rfl) rfl) ?_ ?_ ?_ ?_, ⟨?_, ?_, ?_, ?_⟩, mg_of KX G ?_, mg_of KX G ?_, L2.kdict_mk2 ?_ ?_ ?_ (by decide) ?_, fun s u => .of_eq rfl, mg_none_of KX G ?_, mg_none_of KX G ?_, mg_none_of KX G ?_, mg_none_of KX G ?_, mg_none_of KX G ?_, mg_none_of KX G ?_, mg_none_of KX G ?_, mg_none_of KX G ?_, mg_none_of KX G ?_, mg_none_of KX G ?_, mg_of KX G ?_, ⟨?_⟩, mg_of KX G ?_, ⟨?_⟩, mg_of KX G ?_, ⟨?_⟩, mg_of KX G ?_, ⟨?_⟩, mg_of KX G ?_, ⟨?_⟩, mg_of KX G ?_, ⟨?_⟩⟩⟩
   any_goals first | k_is | k_exc | rfl | kernel_rfl
  obtain ⟨t, T⟩ := T
  have e0 := hmg.symm.trans T.p_law.g
  cases e0
  refine' ⟨_, ?b, fun base kb nb => KT.ok_law T⟩
  exact T.bl
#print axioms PySem.Challenge.cw_tentloops_k49_carried_threads_holds
