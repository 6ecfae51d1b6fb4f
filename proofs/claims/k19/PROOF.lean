import PyProof.Rows.All
import Wide.All
import OpenK.AllK
import Wide.FinOn
import Lean
import PyProof.EqAt
import PyProof.EqKinds
import PyProof.TupleCall
import PySem.Challenge.RW_tentloops_k19_long_threads
set_option Elab.async false
set_option linter.all false
set_option maxRecDepth 100000
namespace L2
open PySem PySem.Spec PyProof.Rows
abbrev Key := Sum Int Str
def keyIs : Key → Value → Bool
 | .inl k, v => Value.isInt k v
 | .inr x, v => Value.isStrOf x v
def keyH (w : World) : Key → Int
 | .inl k => hashInt k
 | .inr x => hashStr w x
theorem keyIs_shape : ∀ {k : Key} {v : Value}, keyIs k v = true → (∃ i t, k = Sum.inl i ∧ v = Value.int i t) ∨ (∃ x t, k = Sum.inr x ∧ v = Value.str x t)
 | .inl i, v, h => by
  obtain ⟨t, e⟩ := Value.isInt_shape (k := i) (v := v) h
  exact .inl ⟨i, t, rfl, e⟩
 | .inr x, v, h => by
  obtain ⟨t, e⟩ := Value.isStrOf_shape (x := x) (v := v) h
  exact .inr ⟨x, t, rfl, e⟩
theorem keyIs_int (i : Int) (t : Tok) : keyIs (.inl i) (.int i t) = true := by simp [keyIs, Value.isInt]
theorem keyIs_str (x : Str) (t : Tok) : keyIs (.inr x) (.str x t) = true := by simp [keyIs, Value.isStrOf]
theorem key_ll (a b : Int) : decide ((Sum.inl a : Key) = Sum.inl b) = (a == b) := by
 by_cases e : a = b
 ·subst e; simp
 ·have h : ¬ (Sum.inl a : Key) = Sum.inl b := fun q => e (Sum.inl.inj q)
  rw [decide_eq_false h]
  exact (beq_eq_false_iff_ne.mpr e).symm
theorem key_rr (a b : Str) : decide ((Sum.inr a : Key) = Sum.inr b) = decide (a = b) := by
 by_cases e : a = b
 ·subst e; simp
 ·have h : ¬ (Sum.inr a : Key) = Sum.inr b := fun q => e (Sum.inr.inj q)
  rw [decide_eq_false h, decide_eq_false e]
theorem key_lr (a : Int) (b : Str) : decide ((Sum.inl a : Key) = Sum.inr b) = false := decide_eq_false (fun q => nomatch q)
theorem key_rl (a : Str) (b : Int) : decide ((Sum.inr a : Key) = Sum.inl b) = false := decide_eq_false (fun q => nomatch q)
def mixKind (prog : Program) (w : World) : PySem.KeyKind prog w Key where
 is := keyIs
 hash := keyH w
 inj := fun v a b ha hb => by
  rcases keyIs_shape ha with ⟨i, t, rfl, rfl⟩ | ⟨x, t, rfl, rfl⟩
  ·rcases keyIs_shape hb with ⟨j, u, rfl, e⟩ | ⟨y, u, rfl, e⟩
   ·injection e with e1 _; rw [e1]
   ·exact nomatch e
  ·rcases keyIs_shape hb with ⟨j, u, rfl, e⟩ | ⟨y, u, rfl, e⟩
   ·exact nomatch e
   ·injection e with e1 _; rw [e1]
 byValue := fun k v h => by
  rcases keyIs_shape h with ⟨i, t, rfl, rfl⟩ | ⟨x, t, rfl, rfl⟩ <;> rfl
 pyHash := fun hv h => by
  rcases keyIs_shape hv with ⟨i, t, rfl, rfl⟩ | ⟨x, t, rfl, rfl⟩
  ·exact wpAny_pyHash_int h
  ·exact wpAny_pyHash_str h
 eqBool := fun hu hv h => by
  rcases keyIs_shape hu with ⟨i, t, rfl, rfl⟩ | ⟨x, t, rfl, rfl⟩
  ·rcases keyIs_shape hv with ⟨j, u, rfl, rfl⟩ | ⟨y, u, rfl, rfl⟩
   ·rw [key_ll] at h; exact wpAny_eqBool_int h
   ·rw [key_lr] at h; exact SeqAt.EqAt.int_str i t y u _ _ _ _ h
  ·rcases keyIs_shape hv with ⟨j, u, rfl, rfl⟩ | ⟨y, u, rfl, rfl⟩
   ·rw [key_rl] at h; exact SeqAt.EqAt.str_int x t j u _ _ _ _ h
   ·rw [key_rr] at h; exact wpAny_eqBool_str h
 «strs» := fun k x t v h => by
  rcases keyIs_shape h with ⟨i, u, rfl, e⟩ | ⟨y, u, rfl, e⟩
  ·exact nomatch e
  ·injection e with e1 _
   subst e1
   cases v <;> rfl
theorem mixKind_int (prog : Program) (w : World) (i : Int) (t : Tok) : (mixKind prog w).is (.inl i) (.int i t) = true := keyIs_int i t
theorem mixKind_str (prog : Program) (w : World) (x : Str) (t : Tok) : (mixKind prog w).is (.inr x) (.str x t) = true := keyIs_str x t
end L2
namespace L2
open PySem PySem.Spec PyProof.Rows
inductive V where
 | non | bl (b : Bool) | int (i : Int) | str (x : Str) | byt (b : Array UInt8) | flt (b : UInt64) | ref (a : Addr) | ty (n : String)
 deriving DecidableEq
set_option genInjectivity false
set_option genSizeOf false
def RelV : V → Value → Prop
 | .non, u => u = Value.none
 | .bl b, u => u = Value.bool b
 | .int i, u => ∃ t, u = Value.int i t
 | .str x, u => ∃ t, u = Value.str x t
 | .byt b, u => ∃ t, u = Value.bytes b t
 | .flt b, u => ∃ t, u = Value.float b t
 | .ref a, u => u = Value.ref a
 | .ty n, u => u = Value.type n
abbrev Vals : List V → List Value → Prop := Paired RelV
theorem Vals.length {xs : List V} {us : List Value} (r : Vals xs us) : xs.length = us.length := Paired.length r
theorem Vals.get : ∀ {xs : List V} {us : List Value} {i : Nat} {x : V}, Vals xs us → xs[i]? = some x → ∃ u, us[i]? = some u ∧ RelV x u
 | _, _, _, _, .nil, e => by simp at e
 | _, _, 0, _, .cons r _, e => by simp at e; subst e; exact ⟨_, rfl, r⟩
 | _, _, i + 1, x, .cons _ t, e => by
  obtain ⟨u, h1, h2⟩ := Vals.get (i := i) (x := x) t (by simpa using e)
  exact ⟨u, by simpa using h1, h2⟩
theorem Vals.set {x : V} {u : Value} (r : RelV x u) : ∀ {xs : List V} {us : List Value} (i : Nat), Vals xs us → Vals (xs.set i x) (us.set i u)
 | _, _, _, .nil => .nil
 | _, _, 0, .cons _ t => .cons r t
 | _, _, i + 1, .cons q t => .cons q (Vals.set r i t)
theorem Vals.append : ∀ {xs ys : List V} {us ws : List Value}, Vals xs us → Vals ys ws → Vals (xs ++ ys) (us ++ ws)
 | _, _, _, _, .nil, s => s
 | _, _, _, _, .cons r t, s => .cons r (Vals.append t s)
theorem Vals.take : ∀ {xs : List V} {us : List Value} (n : Nat), Vals xs us → Vals (xs.take n) (us.take n)
 | _, _, 0, _ => .nil
 | _, _, _ + 1, .nil => .nil
 | _, _, n + 1, .cons r t => .cons r (Vals.take n t)
theorem Vals.drop : ∀ {xs : List V} {us : List Value} (n : Nat), Vals xs us → Vals (xs.drop n) (us.drop n)
 | _, _, 0, r => r
 | _, _, _ + 1, .nil => .nil
 | _, _, n + 1, .cons _ t => Vals.drop n t
def RelO : Option V → Option Value → Prop
 | some v, some u => RelV v u
 | none, none => True
 | _, _ => False
def KV {κ : Type} : List (κ × V) → List (κ × Value) → Prop := Paired fun (p : κ × V) (q : κ × Value) => p.1 = q.1 ∧ RelV p.2 q.2
def kV : Key → V
 | .inl i => .int i
 | .inr x => .str x
inductive HO where
 /-- a list -/
 | lst (xs : List V)
 /-- a tuple (never changes) -/
 | tup (xs : List V)
 /-- a dict whose keys are ints and texts; one whose keys are tuples of ints and texts (the empty one is both) -/
 | dK (kvs : List (Key × V)) | dT (kvs : List (List Key × V))
 /-- a set of ints: its members, its size -/
 | set (S : Int → Bool) (n : Nat)
 /-- an instance of the class at C, its dict at dx, its attributes -/
 | ins (C dx : Addr) (fs : List (Str × V))
 /-- the dict of the instance at x -/
 | own (x : Addr)
 /-- the dict of an exception -/
 | xd (fs : List (Str × V))
 /-- a bound method, f of x -/
 | met (f x : Addr)
 /-- a range object lo, lo + 1, .. below hi -/
 | rng (lo hi : Int)
 /-- a thing that is known to the object (the script; a dict while a loop walks it): read, never written while it is so -/
 | frz (o : Obj) (u : HO)
 /-- a code object's table -/
 | tbl (ps : Array Value)
 /-- any other thing, by what is true of its one object (a def of one's own: SetO a S n := HO.ext fun h => ..) -/
 | ext (φ : Heap → Prop)
abbrev Hp := Addr → Option HO
def upd (H : Hp) (a : Addr) (o : HO) : Hp := fun b => if b = a then some o else H b
theorem upd_same {H : Hp} {a : Addr} {o : HO} : upd H a o a = some o := by unfold upd; rw [if_pos rfl]
theorem upd_ne {H : Hp} {a b : Addr} {o : HO} (h : b ≠ a) : upd H a o b = H b := by unfold upd; rw [if_neg h]
theorem ne_of {H : Hp} {a b : Addr} {o u : HO} (h : H a = some o) (h' : H b = some u) (d : o ≠ u) : a ≠ b := by
 intro e; subst e; rw [h] at h'; exact d (Option.some.inj h')
theorem ne_of_none {H : Hp} {a b : Addr} {o : HO} (h : H a = some o) (h' : H b = none) : a ≠ b := by
 intro e; subst e; rw [h] at h'; cases h'
section
variable (P : Program) (w : World)
def ObjOk (H : Hp) (h : Heap) (a : Addr) : HO → Prop
 | .lst xs => xs.length ≤ sizeLine ∧ ∃ (its : List Value) (n : Nat), Vals xs its ∧ h.get? a = some { cls := .type "list", data := .seq its.toArray n }
 | .tup xs => xs.length ≤ sizeLine ∧ ∃ its : List Value, Vals xs its ∧ IsTup h a its.toArray
 | .dK kvs => kvs.length ≤ sizeLine ∧ (a == sysModules) = false ∧ ∃ vs, KV kvs vs ∧ h.DictOf (mixKind P w) a vs
 | .dT kvs => kvs.length ≤ sizeLine ∧ (a == sysModules) = false ∧ ∃ xs : List (List Key × Addr × Value),
   Paired (fun (p : List Key × V) (q : List Key × Addr × Value) => p.1 = q.1 ∧ H q.2.1 = some (.tup (p.1.map kV)) ∧ RelV p.2 q.2.2) kvs xs ∧
   ∃ o es ep, h.get? a = some o ∧ o.ExactDict ∧ o.data = .dict es ep ∧ es.toList = xs.map (entryOfKey (tupleKind (mixKind P w))) ∧ (xs.map (·.1)).Nodup
 | .set S n => h.SetOf (intKind P w) a S n
 | .ins C dx fs => H dx = some (.own a) ∧ fs.length ≤ 1000 ∧ dx ≠ a ∧ h.get? a = some (PySem.W.instObj C dx) ∧
   ∃ mA, h.Ns1 dx mA ∧ (∀ f, RelO (fs.lookup f) (mA f)) ∧ PySem.Within mA (fs.map (·.1))
 | .own _ => ∃ o, h.get? a = some o
 | .xd fs => ∃ mA, h.Ns1 a mA ∧ ∀ f, RelO (fs.lookup f) (mA f)
 | .rng lo hi => ∃ t u v, h.get? a = some { cls := .type "range", data := .fields #[.int lo t, .int hi u, .int 1 v] }
 | .frz o u => h.get? a = some o ∧ ObjOk H h a u
 | .tbl ps => h.get? a = some { cls := .none, data := .fields ps }
 | .met f x => h.get? a = some (PySem.W.methodObj (.ref f) (.ref x))
 | .ext φ => φ h ∧ (∃ o, h.get? a = some o) ∧ ∀ h1 h2 : Heap, φ h1 → (∀ o, h1.get? a = some o → h2.get? a = some o) → φ h2
def HOk (H : Hp) (h : Heap) : Prop := ∀ a o, H a = some o → ObjOk P w H h a o
end
section
variable {P : Program} {w : World} {H H' : Hp} {h h' : Heap} {a : Addr} {o : HO}
theorem ObjOk.lt (x : ObjOk P w H h a o) : a < h.objs.size := by
 cases o with
 | lst xs => obtain ⟨_, _, _, _, e⟩ := x; exact Heap.lt_size e
 | tup xs => obtain ⟨_, _, _, p⟩ := x; exact p.lt
 | dK kvs => obtain ⟨_, _, _, _, o, _, _, e, _⟩ := x; exact Heap.lt_size e
 | dT kvs => obtain ⟨_, _, _, _, o, _, _, e, _⟩ := x; exact Heap.lt_size e
 | set S n => obtain ⟨o, _, _, _, e, _⟩ := x; exact Heap.lt_size e
 | ins C dx fs => obtain ⟨_, _, _, e, _⟩ := x; exact Heap.lt_size e
 | own y => obtain ⟨_, e⟩ := x; exact Heap.lt_size e
 | xd fs => obtain ⟨_, ⟨_, _, _, e, _⟩, _⟩ := x; exact Heap.lt_size e
 | rng lo hi => obtain ⟨_, _, _, e⟩ := x; exact Heap.lt_size e
 | frz ob u => obtain ⟨e, _⟩ := x; exact Heap.lt_size e
 | tbl ps => exact Heap.lt_size (show h.get? a = some _ from x)
 | met f y => exact Heap.lt_size (show h.get? a = some _ from x)
 | ext φ => obtain ⟨_, ⟨_, e⟩, _⟩ := x; exact Heap.lt_size e
theorem Paired.mapP {α β : Type} {F G : α → β → Prop} : ∀ {l₁ : List α} {l₂ : List β}, Paired F l₁ l₂ → (∀ a b, F a b → G a b) → Paired G l₁ l₂
 | _, _, .nil, _ => .nil
 | _, _, .cons r t, f => .cons (f _ _ r) (Paired.mapP t f)
theorem ObjOk.stay (x : ObjOk P w H h a o) (k : ∀ b u, (b = a ∨ H b = some (.own a)) → h.get? b = some u → h'.get? b = some u)
  (ho : ∀ b, H b = some (.own a) → H' b = some (.own a)) (ht : ∀ b xs, H b = some (.tup xs) → H' b = some (.tup xs)) : ObjOk P w H' h' a o := by
 induction o with
 | lst xs => obtain ⟨z, its, n, r, e⟩ := x; exact ⟨z, its, n, r, k _ _ (.inl rfl) e⟩
 | tup xs => obtain ⟨z, its, r, ob, e, c⟩ := x; exact ⟨z, its, r, ob, k _ _ (.inl rfl) e, c⟩
 | dK kvs => obtain ⟨z, y, vs, r, ob, es, ep, e, c⟩ := x; exact ⟨z, y, vs, r, ob, es, ep, k _ _ (.inl rfl) e, c⟩
 | dT kvs =>
  obtain ⟨z, y, xs, r, ob, es, ep, e, c⟩ := x
  exact ⟨z, y, xs, Paired.mapP r fun p q z => ⟨z.1, ht _ _ z.2.1, z.2.2⟩, ob, es, ep, k _ _ (.inl rfl) e, c⟩
 | set S n => obtain ⟨ob, es, ep, t, e, c⟩ := x; exact ⟨ob, es, ep, t, k _ _ (.inl rfl) e, c⟩
 | ins C dx fs =>
  obtain ⟨d, z, ne, e, mA, ⟨od, es, ep, e2, c⟩, r⟩ := x
  exact ⟨ho _ d, z, ne, k _ _ (.inl rfl) e, mA, ⟨od, es, ep, k _ _ (.inr d) e2, c⟩, r⟩
 | own y => obtain ⟨ob, e⟩ := x; exact ⟨ob, k _ _ (.inl rfl) e⟩
 | xd fs => obtain ⟨mA, ⟨od, es, ep, e, c⟩, r⟩ := x; exact ⟨mA, ⟨od, es, ep, k _ _ (.inl rfl) e, c⟩, r⟩
 | rng lo hi => obtain ⟨t, u, v, e⟩ := x; exact ⟨t, u, v, k _ _ (.inl rfl) e⟩
 | frz ob u ih => obtain ⟨e, q⟩ := x; exact ⟨k _ _ (.inl rfl) e, ih q⟩
 | tbl ps =>
  have e : h.get? a = some { cls := .none, data := .fields ps } := x
  show h'.get? a = some { cls := .none, data := .fields ps }
  exact k a _ (.inl rfl) e
 | met f y =>
  have e : h.get? a = some (PySem.W.methodObj (.ref f) (.ref y)) := x
  show h'.get? a = some (PySem.W.methodObj (.ref f) (.ref y))
  exact k a _ (.inl rfl) e
 | ext φ => obtain ⟨p, ⟨o, e⟩, st⟩ := x; exact ⟨st _ _ p fun o q => k _ _ (.inl rfl) q, ⟨o, k _ _ (.inl rfl) e⟩, st⟩
theorem HOk.lt (x : HOk P w H h) (e : H a = some o) : a < h.objs.size := (x a o e).lt
theorem HOk.fresh (x : HOk P w H h) (e : h.objs.size ≤ a) : H a = none := by
 cases q : H a with
 | none => rfl
 | some u => exact absurd (Nat.lt_of_lt_of_le (x.lt q) e) (Nat.lt_irrefl _)
theorem HOk.kept (x : HOk P w H h) (k : ∀ b u, h.get? b = some u → h'.get? b = some u) : HOk P w H h' := fun a o e =>
 (x a o e).stay (fun b u _ q => k b u q) (fun _ q => q) fun _ _ q => q
theorem HOk.laid (x : HOk P w H h) (k : ∀ b u, h.get? b = some u → h'.get? b = some u) (hp : h.objs.size ≤ a) (new : ObjOk P w (upd H a o) h' a o) : HOk P w (upd H a o) h' := fun b u e => by
 have hn := x.fresh hp
 by_cases hb : b = a
 ·subst hb; rw [upd_same] at e; cases e; exact new
 ·rw [upd_ne hb] at e
  exact (x b u e).stay (fun c v _ q => k c v q) (fun c q => by rw [upd_ne (ne_of_none q hn)]; exact q) fun c xs q => by rw [upd_ne (ne_of_none q hn)]; exact q
end
def Rd (H : Hp) (a : Addr) (u : HO) : Prop := H a = some u ∨ ∃ o, H a = some (.frz o u)
theorem Rd.ok {P : Program} {w : World} {H : Hp} {h : Heap} {a : Addr} {u : HO} (r : Rd H a u) (x : HOk P w H h) : ObjOk P w H h a u := by
 rcases r with r | ⟨o, r⟩
 ·exact x a u r
 ·obtain ⟨_, q⟩ := x a _ r
  exact q
def Mut : Option HO → Prop
 | some (.lst _) => True
 | some (.dK _) => True
 | some (.dT _) => True
 | some (.set _ _) => True
 | some (.ins _ _ _) => True
 | some (.ext _) => True
 | _ => False
section
variable {P : Program} {w : World} {H : Hp} {h h' : Heap} {x e : Addr} {o' : HO}
theorem HOk.write (ok : HOk P w H h) (mu : Mut (H x)) (he : e = x ∨ H e = some (.own x)) (k : ∀ b u, b ≠ e → h.get? b = some u → h'.get? b = some u) (heo : ∃ u, h'.get? e = some u)
  (new : ObjOk P w (upd H x o') h' x o') : HOk P w (upd H x o') h' := fun b u q => by
 have nown : ∀ c y, H c = some (.own y) → c ≠ x := fun c y r z => by subst z; rw [r] at mu; exact mu
 have ntup : ∀ c xs, H c = some (.tup xs) → c ≠ x := fun c xs r z => by subst z; rw [r] at mu; exact mu
 by_cases hb : b = x
 ·subst hb; rw [upd_same] at q; cases q; exact new
 ·rw [upd_ne hb] at q
  by_cases hbe : b = e
  ·have q' : H b = some (.own x) := by
    rcases he with z | z
    ·exact absurd (hbe.trans z) hb
    ·rw [hbe]; exact z
   rw [q] at q'; cases q'
   obtain ⟨v, hv⟩ := heo
   exact ⟨v, by rw [hbe]; exact hv⟩
  ·refine (ok b u q).stay (fun c v hc r => k c v ?_ r) (fun c r => by rw [upd_ne (nown c b r)]; exact r) fun c xs r => by rw [upd_ne (ntup c xs r)]; exact r
   rcases hc with rfl | hc
   ·exact hbe
   ·rintro rfl
    rcases he with z | z
    ·exact nown c b hc z
    ·rw [hc] at z; cases z; exact hb rfl
end
structure Un (fs ex : List Addr) (H H' : Hp) (h h' : Heap) : Prop where
 keep : ∀ b o, h.get? b = some o → H b = none → b ∉ fs → b ∉ ex → h'.get? b = some o
 slot : ∀ b o, h.get? b = some o → H b = none → b ∈ fs → b ∉ ex → ∃ sl, h'.get? b = some { o with slots := sl }
 free : ∀ b o, h.get? b = some o → H b = none → b ∉ ex → H' b = none
 there : ∀ b o, h.get? b = some o → b ∉ ex → ∃ o', h'.get? b = some o'
 tups : ∀ b xs, H b = some (.tup xs) → H' b = some (.tup xs)
 frzs : ∀ b o u, H b = some (.frz o u) → H' b = some (.frz o u)
 tbls : ∀ b ps, H b = some (.tbl ps) → ∃ more, H' b = some (.tbl (ps ++ more))
section
variable {fs fs' ex ex' : List Addr} {H H1 H2 : Hp} {h h1 h2 h' : Heap} {a x e : Addr} {o : HO}
theorem Un.any (u : Un fs ex H H1 h h1) {b : Addr} {ob : Obj} (q : h.get? b = some ob) (n : H b = none) (hx : b ∉ ex) : ∃ sl, h1.get? b = some { ob with slots := sl } := by
 by_cases hb : b ∈ fs
 ·exact u.slot b ob q n hb hx
 ·exact ⟨ob.slots, u.keep b ob q n hb hx⟩
theorem Un.kept (k : ∀ b u, h.get? b = some u → h'.get? b = some u) : Un fs ex H H h h' :=
 ⟨fun b ob q _ _ _ => k b ob q, fun b ob q _ _ _ => ⟨ob.slots, k b ob q⟩, fun _ _ _ n _ => n, fun b ob q _ => ⟨ob, k b ob q⟩, fun _ _ q => q, fun _ _ _ q => q, fun _ ps q => ⟨#[], by rw [q]; simp⟩⟩
theorem Un.refl : Un fs ex H H h h := Un.kept fun _ _ q => q
theorem Un.laid (k : ∀ b u, h.get? b = some u → h'.get? b = some u) (hp : h.objs.size ≤ a) (hn : H a = none) : Un fs ex H (upd H a o) h h' where
 keep := fun b u q _ _ _ => k b u q
 slot := fun b u q _ _ _ => ⟨u.slots, k b u q⟩
 free := fun b u q n _ => by rw [upd_ne (Nat.ne_of_lt (Nat.lt_of_lt_of_le (Heap.lt_size q) hp))]; exact n
 there := fun b u q _ => ⟨u, k b u q⟩
 tups := fun b xs q => by rw [upd_ne (ne_of_none q hn)]; exact q
 frzs := fun b u xs q => by rw [upd_ne (ne_of_none q hn)]; exact q
 tbls := fun b ps q => ⟨#[], by rw [upd_ne (ne_of_none q hn), q]; simp⟩
theorem Un.write (mu : Mut (H x)) (he : e = x ∨ H e = some (.own x)) (k : ∀ b u, b ≠ e → h.get? b = some u → h'.get? b = some u) (heo : ∃ u, h'.get? e = some u) : Un fs ex H (upd H x o) h h' := by
 have hx : ∀ b, H b = none → b ≠ x := fun b n z => by subst z; rw [n] at mu; exact mu
 have hb : ∀ b, H b = none → b ≠ e := fun b n z => by
  subst z
  rcases he with r | r
  ·exact hx b n r
  ·rw [n] at r; cases r
 have hm : ∀ b u, H b = some u → ¬ Mut (some u) → b ≠ x := fun b u q nm z => by subst z; rw [q] at mu; exact nm mu
 refine ⟨fun b u q n _ _ => k b u (hb b n) q, fun b u q n _ _ => ⟨u.slots, k b u (hb b n) q⟩, fun b u q n _ => by rw [upd_ne (hx b n)]; exact n, fun b u q _ => ?_,
  fun b xs q => by rw [upd_ne (hm b _ q fun z => z)]; exact q, fun b u xs q => by rw [upd_ne (hm b _ q fun z => z)]; exact q, fun b ps q => ⟨#[], by rw [upd_ne (hm b _ q fun z => z), q]; simp⟩⟩
 by_cases hbe : b = e
 ·subst hbe; exact heo
 ·exact ⟨u, k b u hbe q⟩
end
def trk (h : Heap) (H : Hp) : List Addr := (List.range h.objs.size).filter fun a => (H a).isSome
def hidT (h : Heap) (H : Hp) : Heap := PySem.W.hideAll h (trk h H)
theorem hidT_size (h : Heap) (H : Hp) : (hidT h H).objs.size = h.objs.size := PySem.W.hideAll_size _ _
theorem hidT_get {h : Heap} {H : Hp} {b : Addr} {o : Obj} (e : h.get? b = some o) (n : H b = none) : (hidT h H).get? b = some o :=
 PySem.W.hideAll_get _ e fun hm => by
  have q : (H b).isSome = true := (List.mem_filter.mp hm).2
  rw [n] at q; simp at q
theorem of_hidT {h : Heap} {H : Hp} {b : Addr} {o : Obj} (e : (hidT h H).get? b = some o) : h.get? b = some o ∧ H b = none := by
 have e' : h.get? b = some o := PySem.W.of_hideAll (trk h H) e
 refine ⟨e', ?_⟩
 cases q : H b with
 | none => rfl
 | some x =>
  have hm : b ∈ trk h H := List.mem_filter.mpr ⟨List.mem_range.mpr (Heap.lt_size e'), by simp [q]⟩
  have z : (hidT h H).get? b = none := PySem.W.hideAll_none (trk h H) hm
  rw [z] at e; cases e
def allNews (g h : Heap) (L : Addr) : List (Addr × Obj) := (List.range h.objs.size).filterMap fun a => if a = L ∨ (g.get? a).isSome = true then none else (h.get? a).map fun o => (a, o)
def rest (g h : Heap) (L d : Addr) : List (Addr × Obj) := (allNews g h L).filter fun p => decide (p.1 ≠ d)
end L2
namespace L2
open PySem PySem.Spec PyProof.Rows
structure Mod (K : PySem.W.Frag) (mg : Str → Option Value) (base : Heap) : Prop where
 kin : K.In base
 glob : base.Ns mainGlobals mg
 blt : ∃ mb, base.Ns builtinsNs mb ∧ ∀ x : Str, x ≠ "__name__" → mb x = bootBuiltins x
 nolimit : base.NoLimit
structure Cx where
 prog : Program
 w : World
 K : PySem.W.Frag
 mg : Str → Option Value
 base : Heap
 A : Around
 N : List Str
 s₀ : Shared
 H₀ : Hp
 env : Env
 outer : List Env
 stack : List Env
 ex : List Addr
 fn : Str → Bool
 calm : Bool
 pn : List (Addr × Obj)
 xe : Value → Shared → Prop
def frs (l : List Env) : List Addr := l.filterMap (·.frame)
abbrev Cx.fs (X : Cx) : List Addr := frs X.outer
def Vis (sc : Scope) (x : Str) : Prop := sc.names.lookup x = some .local ∨ sc.names.lookup x = some .cell ∨ sc.names.lookup x = some .free
def Loc (sc : Scope) (x : Str) : Prop := sc.names.lookup x = some .local ∨ sc.names.lookup x = some .cell
def Look (env : Env) (h : Heap) (m : Str → Option Value) (x : Str) (u : Value) : Prop :=
 (env.kindOf x = some .local ∧ m x = some u) ∨ ((env.kindOf x = some .cell ∨ env.kindOf x = some .free) ∧ ∃ c, env.cells.lookup x = some c ∧ h.IsCell c (some u))
structure Cx.Ok (X : Cx) : Prop where
 mod : Mod X.K X.mg X.base
 kind : X.env.scope.kind = .function
 glob : X.env.globals = mainGlobals
 blt : X.env.builtins = builtinsNs
 above : X.s₀.heap.objs.size ≤ X.env.locals
 inj : ∀ x y c, X.env.cells.lookup x = some c → X.env.cells.lookup y = some c → x = y
 has : ∀ x, (X.env.kindOf x = some .cell ∨ X.env.kindOf x = some .free) → ∃ c, X.env.cells.lookup x = some c
 cab : ∀ x c, X.fn x = true → X.env.cells.lookup x = some c → X.s₀.heap.objs.size ≤ c
 hd : X.calm = true → X.A.handled = none
 frames : X.A.frames = some X.stack
 stk : X.stack = X.outer ∨ (X.stack = X.env :: X.outer ∧ X.env.frame = some X.env.locals)
 exf : ∀ b ∈ X.ex, b ≠ X.env.locals ∧ ∀ x c, X.env.cells.lookup x = some c → c ≠ b
 bs : ∀ b o, X.base.get? b = some o → X.s₀.heap.get? b = some o ∧ X.H₀ b = none
 bsz : X.base.objs.size ≤ X.s₀.heap.objs.size
 noex : ∀ b o, X.base.get? b = some o → b ∉ X.ex
 exfs : ∀ b ∈ X.ex, b ∉ X.fs
 funs : X.s₀.heap.FunFrames X.base X.outer
 frf : ∀ b ∈ X.fs, X.H₀ b = none
structure Inv (X : Cx) (pins : List (Addr × Obj)) (σ : List (Option V)) (H : Hp) (s : Shared) : Prop where
 ok : X.Ok
 os : s.os = X.s₀.os
 bare : AllBare s.gens
 base : Un X.fs X.ex X.H₀ H X.s₀.heap s.heap
 loc : ∃ m, s.heap.Ns X.env.locals m ∧ ∀ (i : Nat) (x : Str) (v : V), X.N[i]? = some x → σ[i]? = some (some v) → Vis X.env.scope x → ∃ u, RelV v u ∧ Look X.env s.heap m x u
 cell : ∀ x c, X.env.cells.lookup x = some c → ∃ v, s.heap.IsCell c v
 free : H X.env.locals = none
 freeC : ∀ x c, X.env.cells.lookup x = some c → H c = none
 pin : ∀ p ∈ X.pn ++ pins, s.heap.get? p.1 = some p.2 ∧ H p.1 = none ∧ p.1 ≠ X.env.locals ∧ p.1 ∉ X.fs ∧ ∀ v, p.2.data ≠ .cell v
 hok : HOk X.prog X.w H s.heap
 len : σ.length = X.N.length
section
variable {X : Cx} {pins : List (Addr × Obj)} {σ : List (Option V)} {H H' : Hp} {s : Shared} {h' : Heap}
theorem Cx.Ok.nofr (ok : X.Ok) {b : Addr} {o : Obj} (e : X.base.get? b = some o) : b ∉ X.fs := fun hb => by
 have := (ok.funs.mem hb).1
 rw [e] at this; cases this
theorem Inv.bs (I : Inv X pins σ H s) : ∀ b o, X.base.get? b = some o → s.heap.get? b = some o ∧ H b = none := fun b o e =>
 ⟨I.base.keep b o (I.ok.bs b o e).1 (I.ok.bs b o e).2 (I.ok.nofr e) (I.ok.noex b o e), I.base.free b o (I.ok.bs b o e).1 (I.ok.bs b o e).2 (I.ok.noex b o e)⟩
theorem Inv.bk (I : Inv X pins σ H s) : ∀ b o, X.base.get? b = some o → s.heap.get? b = some o := fun b o e => (I.bs b o e).1
theorem Inv.mod (I : Inv X pins σ H s) : Mod X.K X.mg X.base := I.ok.mod
theorem Inv.kIn (I : Inv X pins σ H s) : X.K.In s.heap := I.ok.mod.kin.keeps I.bk
theorem Inv.lt (I : Inv X pins σ H s) : X.env.locals < s.heap.objs.size := let ⟨_, hn, _⟩ := I.loc; hn.lt
theorem Inv.sz (I : Inv X pins σ H s) : X.s₀.heap.objs.size ≤ s.heap.objs.size := Nat.le_trans I.ok.above (Nat.le_of_lt I.lt)
theorem Inv.nofs (I : Inv X pins σ H s) {a : Addr} (h : s.heap.objs.size ≤ a) : a ∉ X.fs := fun hb => by
 obtain ⟨_, o, ho, _⟩ := I.ok.funs.mem hb
 exact absurd (Nat.lt_of_lt_of_le (Heap.lt_size ho) (Nat.le_trans I.sz h)) (Nat.lt_irrefl _)
theorem Inv.cne (I : Inv X pins σ H s) : ∀ x c, X.env.cells.lookup x = some c → c ≠ X.env.locals := fun x c e z => by
 obtain ⟨v, o, ho, hd⟩ := I.cell x c e
 obtain ⟨m, ⟨o', es, ep, ho', hd', _⟩, _⟩ := I.loc
 rw [z, ho'] at ho; cases ho; rw [hd'] at hd; cases hd
theorem Inv.funs (I : Inv X pins σ H s) : s.heap.FunFrames X.base X.outer := by
 have all : ∀ (l : List Env), (∀ b ∈ frs l, b ∈ X.fs) → X.s₀.heap.FunFrames X.base l → s.heap.FunFrames X.base l := by
  intro l
  induction l with
  | nil => intro _ _; trivial
  | cons env r ih =>
   intro hs hl
   obtain ⟨hk, ⟨L, o, hf, hn, ho, hd⟩, hr⟩ := hl
   have hL : L ∈ X.fs := hs L (by unfold frs; rw [List.filterMap_cons, hf]; exact List.mem_cons_self)
   obtain ⟨sl, e⟩ := I.base.slot L o ho (I.ok.frf L hL) hL fun z => I.ok.exfs L z hL
   exact ⟨hk, ⟨L, _, hf, hn, e, hd⟩, ih (fun b hb => hs b (by unfold frs; rw [List.filterMap_cons, hf]; exact List.mem_cons_of_mem _ hb)) hr⟩
 exact all X.outer (fun _ hb => hb) I.ok.funs
theorem Inv.stack (I : Inv X pins σ H s) : s.heap.FunFrames X.base X.stack := by
 rcases I.ok.stk with e | ⟨e, hf⟩
 ·rw [e]; exact I.funs
 ·rw [e]
  obtain ⟨m, hn, _⟩ := I.loc
  refine .cons (by rw [I.ok.kind]; decide) hf hn ?_ I.funs
  exact Heap.get?_none_of_le (Nat.le_trans I.ok.bsz I.ok.above)
theorem Inv.stkSub (I : Inv X pins σ H s) : ∀ b ∈ frs X.stack, b ∈ X.env.locals :: X.fs := fun b hb => by
 rcases I.ok.stk with e | ⟨e, hf⟩
 ·rw [e] at hb; exact List.mem_cons_of_mem _ hb
 ·rw [e] at hb
  unfold frs at hb
  rw [List.filterMap_cons, hf] at hb
  exact hb
theorem Inv.stkFree (I : Inv X pins σ H s) : ∀ b ∈ frs X.stack, H b = none := fun b hb => by
 rcases List.mem_cons.mp (I.stkSub b hb) with e | hb
 ·rw [e]; exact I.free
 ·obtain ⟨_, o, ho, _⟩ := I.ok.funs.mem hb
  exact I.base.free b o ho (I.ok.frf b hb) fun z => I.ok.exfs b z hb
theorem Inv.step {g' : Array GenState} {t' : Nat} {d' : Drawn} {ch : List Addr} (I : Inv X pins σ H s)
  (hch : ∀ b ∈ ch, (b ∈ X.ex ∨ X.s₀.heap.objs.size ≤ b) ∧ b ≠ X.env.locals ∧ (∀ x c, X.env.cells.lookup x = some c → c ≠ b) ∧ ∀ p ∈ X.pn ++ pins, p.1 ≠ b)
  (keep : ∀ b o, b ≠ X.env.locals → b ∉ X.fs → b ∉ ch → s.heap.get? b = some o → H b = none → h'.get? b = some o)
  (slot : ∀ b o, b ≠ X.env.locals → b ∈ X.fs → b ∉ ch → s.heap.get? b = some o → H b = none → ∃ sl, h'.get? b = some { o with slots := sl }) (free : ∀ b o, b ∉ ch → s.heap.get? b = some o → H b = none → H' b = none)
  (there : ∀ b o, b ∉ ch → s.heap.get? b = some o → ∃ o', h'.get? b = some o')
  (tups : ∀ b xs, H b = some (.tup xs) → H' b = some (.tup xs)) (frzs : ∀ b o u, H b = some (.frz o u) → H' b = some (.frz o u)) (tbls : ∀ b ps, H b = some (.tbl ps) → ∃ more, H' b = some (.tbl (ps ++ more)))
  (ns : ∀ m, s.heap.Ns X.env.locals m → h'.Ns X.env.locals m) (hok : HOk X.prog X.w H' h') (hg : AllBare g') :
  Inv X pins σ H' { s with heap := h', gens := g', drawn := d', toks := t' } := by
 have neL : ∀ b o, X.s₀.heap.get? b = some o → b ≠ X.env.locals := fun b o e => Nat.ne_of_lt (Nat.lt_of_lt_of_le (Heap.lt_size e) I.ok.above)
 have neC : ∀ b o, X.s₀.heap.get? b = some o → b ∉ X.ex → b ∉ ch := fun b o e hx hb => by
  rcases (hch b hb).1 with z | z
  ·exact hx z
  ·exact absurd (Nat.lt_of_lt_of_le (Heap.lt_size e) z) (Nat.lt_irrefl _)
 have cellK : ∀ x c, X.env.cells.lookup x = some c → ∀ v, s.heap.IsCell c v → h'.IsCell c v := fun x c e v ⟨o, ho, hd⟩ => by
  have nch : c ∉ ch := fun z => (hch c z).2.2.1 x c e rfl
  by_cases hc : c ∈ X.fs
  ·obtain ⟨sl, q⟩ := slot c o (I.cne x c e) hc nch ho (I.freeC x c e)
   exact ⟨_, q, hd⟩
  ·exact ⟨o, keep c o (I.cne x c e) hc nch ho (I.freeC x c e), hd⟩
 refine ⟨I.ok, I.os, hg, ⟨fun b o e n hb hx => ?_, fun b o e n hb hx => ?_, fun b o e n hx => ?_, fun b o e hx => ?_, fun b xs e => tups b xs (I.base.tups b xs e), fun b o xs e => frzs b o xs (I.base.frzs b o xs e), fun b ps e => ?_⟩, ?_, fun x c e => ?_, ?_, fun x c e => ?_, fun p hp => ?_, hok, I.len⟩
 ·exact keep b o (neL b o e) hb (neC b o e hx) (I.base.keep b o e n hb hx) (I.base.free b o e n hx)
 ·obtain ⟨sl, e1⟩ := I.base.slot b o e n hb hx
  obtain ⟨sl', e2⟩ := slot b _ (neL b o e) hb (neC b o e hx) e1 (I.base.free b o e n hx)
  exact ⟨sl', e2⟩
 ·obtain ⟨o', e1⟩ := I.base.there b o e hx
  exact free b o' (neC b o e hx) e1 (I.base.free b o e n hx)
 ·obtain ⟨o', e1⟩ := I.base.there b o e hx
  exact there b o' (neC b o e hx) e1
 ·obtain ⟨m1, e1⟩ := I.base.tbls b ps e
  obtain ⟨m2, e2⟩ := tbls b _ e1
  exact ⟨m1 ++ m2, by rw [e2, Array.append_assoc]⟩
 ·obtain ⟨m, hn, hl⟩ := I.loc
  refine ⟨m, ns m hn, fun i x v e1 e2 e3 => ?_⟩
  obtain ⟨u, r, l⟩ := hl i x v e1 e2 e3
  refine ⟨u, r, ?_⟩
  rcases l with l | ⟨k, c, e, z⟩
  ·exact .inl l
  ·exact .inr ⟨k, c, e, cellK x c e _ z⟩
 ·obtain ⟨v, z⟩ := I.cell x c e
  exact ⟨v, cellK x c e v z⟩
 ·obtain ⟨m, ⟨o, _, _, ho, _⟩, _⟩ := I.loc
  exact free _ o (fun z => (hch _ z).2.1 rfl) ho I.free
 ·obtain ⟨v, o, ho, hd⟩ := I.cell x c e
  exact free c o (fun z => (hch c z).2.2.1 x c e rfl) ho (I.freeC x c e)
 ·obtain ⟨e, n, ne, nf, d⟩ := I.pin p hp
  have nch : p.1 ∉ ch := fun z => (hch p.1 z).2.2.2 p hp rfl
  exact ⟨keep p.1 p.2 ne nf nch e n, free p.1 p.2 nch e n, ne, nf, d⟩
theorem Inv.un {t' : Nat} (I : Inv X pins σ H s) (u : Un X.fs [] H H' s.heap h') (hok : HOk X.prog X.w H' h') : Inv X pins σ H' { s with heap := h', toks := t' } := by
 obtain ⟨m, ⟨o, es, ep, ho, r⟩, _⟩ := id I.loc
 obtain ⟨sl, hL⟩ := u.any ho I.free (by simp)
 exact I.step (g' := s.gens) (d' := s.drawn) (ch := []) (fun _ z => nomatch z) (fun b o _ hb _ e n => u.keep b o e n hb (by simp)) (fun b o _ hb _ e n => u.slot b o e n hb (by simp)) (fun b o _ e n => u.free b o e n (by simp)) (fun b o _ e => u.there b o e (by simp)) u.tups u.frzs u.tbls (fun m' hm => by
  obtain ⟨o', es', ep', ho', r'⟩ := hm
  rw [ho] at ho'; cases ho'
  exact ⟨_, es', ep', hL, r'⟩) hok I.bare
theorem Inv.call {g' : Array GenState} {t' : Nat} {d' : Drawn} {ch : List Addr} (I : Inv X pins σ H s) (u : Un (frs X.stack) ch H H' s.heap h') (hok : HOk X.prog X.w H' h') (hg : AllBare g')
  (hch : ∀ b ∈ ch, (b ∈ X.ex ∨ X.s₀.heap.objs.size ≤ b) ∧ b ≠ X.env.locals ∧ (∀ x c, X.env.cells.lookup x = some c → c ≠ b) ∧ ∀ p ∈ X.pn ++ pins, p.1 ≠ b) :
  Inv X pins σ H' { s with heap := h', gens := g', drawn := d', toks := t' } := by
 obtain ⟨m, ⟨o, es, ep, ho, r⟩, _⟩ := id I.loc
 obtain ⟨sl, hL⟩ := u.any ho I.free fun z => (hch _ z).2.1 rfl
 exact I.step (ch := ch) hch (fun b o hL hb hc e n => u.keep b o e n (fun z => (List.mem_cons.mp (I.stkSub b z)).elim hL hb) hc) (fun b o _ _ hc e n => u.any e n hc) (fun b o hc e n => u.free b o e n hc) (fun b o hc e => u.there b o e hc) u.tups u.frzs u.tbls (fun m' hm => by
  obtain ⟨o', es', ep', ho', r'⟩ := hm
  rw [ho] at ho'; cases ho'
  exact ⟨_, es', ep', hL, r'⟩) hok hg
theorem Inv.turned {t' : Nat} {it : Addr} (I : Inv X pins σ H s) (k : ∀ b o, b ≠ it → s.heap.get? b = some o → h'.get? b = some o) (hn : H it = none) (hL : it ≠ X.env.locals)
  (h1 : it ∈ X.ex ∨ X.s₀.heap.objs.size ≤ it) (h2 : ∀ x c, X.env.cells.lookup x = some c → c ≠ it) (h3 : ∀ p ∈ X.pn ++ pins, p.1 ≠ it) : Inv X pins σ H { s with heap := h', toks := t' } := by
 have nit : ∀ b u, H b = some u → b ≠ it := fun b u e z => by rw [z, hn] at e; cases e
 refine I.step (g' := s.gens) (d' := s.drawn) (ch := [it]) (fun b hb => ?_) (fun b o _ _ hc e _ => k b o (fun z => hc (by simp [z])) e) (fun b o _ _ hc e _ => ⟨o.slots, k b o (fun z => hc (by simp [z])) e⟩) (fun _ _ _ _ n => n)
  (fun b o hc e => ⟨o, k b o (fun z => hc (by simp [z])) e⟩) (fun _ _ e => e) (fun _ _ _ e => e) (fun b ps e => ⟨#[], by rw [e]; simp⟩) (fun m hm => ?_) (fun b u e => ?_) I.bare
 ·have e : b = it := by simpa using hb
  subst e
  exact ⟨h1, hL, h2, h3⟩
 ·obtain ⟨o, es, ep, ho, r⟩ := hm
  exact ⟨o, es, ep, k _ o (Ne.symm hL) ho, r⟩
 ·refine (I.hok b u e).stay (fun c v hc q => k c v ?_ q) (fun _ q => q) fun _ _ q => q
  rcases hc with z | z
  ·rw [z]; exact nit b u e
  ·exact nit c _ z
theorem Inv.tok (I : Inv X pins σ H s) (t : Nat) : Inv X pins σ H { s with toks := t } := I.un (h' := s.heap) (t' := t) Un.refl I.hok
theorem Inv.kept {t' : Nat} (I : Inv X pins σ H s) (k : ∀ b u, s.heap.get? b = some u → h'.get? b = some u) : Inv X pins σ H { s with heap := h', toks := t' } := I.un (Un.kept k) (I.hok.kept k)
theorem Inv.laid {a : Addr} {o : HO} {t' : Nat} (I : Inv X pins σ H s) (k : ∀ b u, s.heap.get? b = some u → h'.get? b = some u) (hp : s.heap.objs.size ≤ a) (new : ObjOk X.prog X.w (upd H a o) h' a o) :
  Inv X pins σ (upd H a o) { s with heap := h', toks := t' } := I.un (Un.laid k hp (I.hok.fresh hp)) (I.hok.laid k hp new)
theorem Inv.write {x e : Addr} {o : HO} {t' : Nat} (I : Inv X pins σ H s) (mu : Mut (H x)) (he : e = x ∨ H e = some (.own x)) (k : ∀ b u, b ≠ e → s.heap.get? b = some u → h'.get? b = some u) (heo : ∃ u, h'.get? e = some u)
  (new : ObjOk X.prog X.w (upd H x o) h' x o) : Inv X pins σ (upd H x o) { s with heap := h', toks := t' } := I.un (Un.write mu he k heo) (I.hok.write mu he k heo new)
theorem Inv.pins_of {pins' : List (Addr × Obj)} (I : Inv X pins σ H s) (h : ∀ p ∈ pins', s.heap.get? p.1 = some p.2 ∧ H p.1 = none ∧ p.1 ≠ X.env.locals ∧ p.1 ∉ X.fs ∧ ∀ v, p.2.data ≠ .cell v) : Inv X pins' σ H s :=
 ⟨I.ok, I.os, I.bare, I.base, I.loc, I.cell, I.free, I.freeC, fun p hp => (List.mem_append.mp hp).elim (fun z => I.pin p (List.mem_append_left _ z)) (h p), I.hok, I.len⟩
theorem nodup_ix {N : List Str} (hN : N.Nodup) {i j : Nat} {x : Str} (a : N[i]? = some x) (b : N[j]? = some x) : i = j := by
 obtain ⟨h1, e1⟩ := List.getElem?_eq_some_iff.mp a
 obtain ⟨h2, e2⟩ := List.getElem?_eq_some_iff.mp b
 exact (List.getElem_inj hN).mp (e1.trans e2.symm)
theorem store_ok2 {M : Model} {A : Around} {E : Value → Shared → Prop} {i : Nat} {x : Str} {v : V} {u : Value} {Q : Unit → Shared → Prop} (I : Inv X pins σ H s) (hN : X.N.Nodup) (hi : X.N[i]? = some x) (hx : Loc X.env.scope x) (r : RelV v u)
  (h : ∀ s', Inv X pins (σ.set i (some v)) H s' → (∃ a, Heap.SameBut a s.heap s'.heap ∧ (a = X.env.locals ∨ X.env.cells.lookup x = some a)) → Q () s') (hf : X.fn x = true ∨ X.env.scope.names.lookup x = some .local := by first | exact .inl rfl | exact .inr rfl | assumption) : wpAny M A (storeName X.env x u) Q E s := by
 obtain ⟨m, hn, hl⟩ := id I.loc
 have hcls : (X.env.scope.kind == .class || (X.env.scope.kind == .module && X.env.locals != X.env.globals)) = false := by rw [I.ok.kind]; rfl
 have hiσ : i < σ.length := by rw [I.len]; exact (List.getElem?_eq_some_iff.mp hi).1
 have cne := I.cne
 have tracked : ∀ {a : Addr} {h' : Heap}, (∃ o, s.heap.get? a = some o ∧ H a = none) → Heap.SameBut a s.heap h' → HOk X.prog X.w H h' := fun {a h'} ha hs b ob e => by
  obtain ⟨_, _, hfree⟩ := ha
  refine (I.hok b ob e).stay (fun c w' hc q => (hs.2 c ?_).trans q) (fun _ q => q) fun _ _ q => q
  rintro rfl
  rcases hc with rfl | hc
  ·rw [hfree] at e; cases e
  ·rw [hfree] at hc; cases hc
 rcases hx with hk | hk
 ·refine wpAny_storeName_local hk hn (fun h' hn' hs => ?_) hcls
  obtain ⟨oL, _, _, hoL, _⟩ := id hn
  refine h _ ⟨I.ok, I.os, I.bare, ⟨fun b o e n hb hx => ?_, fun b o e n hb hx => ?_, I.base.free, fun b o e hx => ?_, I.base.tups, I.base.frzs, I.base.tbls⟩, ⟨_, hn', fun j y v' e1 e2 e3 => ?_⟩, fun y c e => ?_, I.free, I.freeC, fun p hp => ?_, tracked ⟨oL, hoL, I.free⟩ hs, by simpa using I.len⟩ ⟨_, hs, .inl rfl⟩
  ·exact (hs.2 b (Nat.ne_of_lt (Nat.lt_of_lt_of_le (Heap.lt_size e) I.ok.above))).trans (I.base.keep b o e n hb hx)
  ·obtain ⟨sl, e1⟩ := I.base.slot b o e n hb hx
   exact ⟨sl, (hs.2 b (Nat.ne_of_lt (Nat.lt_of_lt_of_le (Heap.lt_size e) I.ok.above))).trans e1⟩
  ·obtain ⟨o', e1⟩ := I.base.there b o e hx
   exact ⟨o', (hs.2 b (Nat.ne_of_lt (Nat.lt_of_lt_of_le (Heap.lt_size e) I.ok.above))).trans e1⟩
  ·by_cases hj : j = i
   ·subst hj
    rw [hi] at e1; cases e1
    rw [List.getElem?_set_self hiσ] at e2
    cases e2
    exact ⟨u, r, .inl ⟨hk, by simp⟩⟩
   ·rw [List.getElem?_set_ne (Ne.symm hj)] at e2
    obtain ⟨u', r', q⟩ := hl j y v' e1 e2 e3
    refine ⟨u', r', ?_⟩
    rcases q with ⟨k, e⟩ | ⟨k, c, e, z⟩
    ·refine .inl ⟨k, ?_⟩
     have : y ≠ x := fun e => hj (nodup_ix hN e1 (e ▸ hi))
     simp [this, e]
    ·exact .inr ⟨k, c, e, z.sameBut hs (cne y c e)⟩
  ·obtain ⟨w', z⟩ := I.cell y c e
   exact ⟨w', z.sameBut hs (cne y c e)⟩
  ·obtain ⟨e, n, ne, nf, d⟩ := I.pin p hp
   exact ⟨(hs.2 p.1 ne).trans e, n, ne, nf, d⟩
 ·have hfn : X.fn x = true := by
   rcases hf with z | z
   ·exact z
   ·rw [z] at hk; cases hk
  obtain ⟨c, hc⟩ := I.ok.has x (.inl hk)
  obtain ⟨w', z⟩ := I.cell x c hc
  refine wpAny_storeName_cell I.ok.kind hk hc z (fun h' hc' hs => ?_)
  obtain ⟨oc, hoc, hocd⟩ := id z
  refine h { s with heap := h' } ⟨I.ok, I.os, I.bare, ⟨fun b o e n hb hx => ?_, fun b o e n hb hx => ?_, I.base.free, fun b o e hx => ?_, I.base.tups, I.base.frzs, I.base.tbls⟩, ⟨m, hn.sameBut hs (Ne.symm (cne x c hc)), fun j y v' e1 e2 e3 => ?_⟩, fun y c' e => ?_, I.free, I.freeC, fun p hp => ?_, tracked ⟨oc, hoc, I.freeC x c hc⟩ hs, by simpa using I.len⟩ ⟨c, hs, .inr hc⟩
  ·exact (hs.2 b (Nat.ne_of_lt (Nat.lt_of_lt_of_le (Heap.lt_size e) (I.ok.cab x c hfn hc)))).trans (I.base.keep b o e n hb hx)
  ·obtain ⟨sl, e1⟩ := I.base.slot b o e n hb hx
   exact ⟨sl, (hs.2 b (Nat.ne_of_lt (Nat.lt_of_lt_of_le (Heap.lt_size e) (I.ok.cab x c hfn hc)))).trans e1⟩
  ·obtain ⟨o', e1⟩ := I.base.there b o e hx
   exact ⟨o', (hs.2 b (Nat.ne_of_lt (Nat.lt_of_lt_of_le (Heap.lt_size e) (I.ok.cab x c hfn hc)))).trans e1⟩
  ·by_cases hj : j = i
   ·subst hj
    rw [hi] at e1; cases e1
    rw [List.getElem?_set_self hiσ] at e2
    cases e2
    exact ⟨u, r, .inr ⟨.inl hk, c, hc, hc'⟩⟩
   ·rw [List.getElem?_set_ne (Ne.symm hj)] at e2
    obtain ⟨u', r', q⟩ := hl j y v' e1 e2 e3
    refine ⟨u', r', ?_⟩
    rcases q with q | ⟨k, c', e, z'⟩
    ·exact .inl q
    ·refine .inr ⟨k, c', e, z'.sameBut hs ?_⟩
     rintro rfl
     exact hj (nodup_ix hN e1 (I.ok.inj _ _ _ e hc ▸ hi))
  ·by_cases hcc : c' = c
   ·subst hcc; exact ⟨_, hc'⟩
   ·obtain ⟨w2, z2⟩ := I.cell y c' e
    exact ⟨w2, z2.sameBut hs hcc⟩
  ·obtain ⟨e, n, ne, nf, d⟩ := I.pin p hp
   refine ⟨(hs.2 p.1 ?_).trans e, n, ne, nf, d⟩
   intro q
   rw [q, hoc] at e
   have q' : oc = p.2 := Option.some.inj e
   exact d w' (by rw [← q']; exact hocd)
theorem store_ok {M : Model} {A : Around} {E : Value → Shared → Prop} {i : Nat} {x : Str} {v : V} {u : Value} {Q : Unit → Shared → Prop} (I : Inv X pins σ H s) (hN : X.N.Nodup) (hi : X.N[i]? = some x) (hx : Loc X.env.scope x) (r : RelV v u)
  (h : ∀ s', Inv X pins (σ.set i (some v)) H s' → Q () s') (hf : X.fn x = true ∨ X.env.scope.names.lookup x = some .local := by first | exact .inl rfl | exact .inr rfl | assumption) : wpAny M A (storeName X.env x u) Q E s :=
 store_ok2 I hN hi hx r (fun s' I' _ => h s' I') hf
theorem Inv.call' {s' : Shared} {ch : List Addr} (I : Inv X pins σ H s) (ho : s'.os = s.os) (u : Un (frs X.stack) ch H H' s.heap s'.heap) (hok : HOk X.prog X.w H' s'.heap) (hg : AllBare s'.gens)
  (hch : ∀ b ∈ ch, (b ∈ X.ex ∨ X.s₀.heap.objs.size ≤ b) ∧ b ≠ X.env.locals ∧ (∀ x c, X.env.cells.lookup x = some c → c ≠ b) ∧ ∀ p ∈ X.pn ++ pins, p.1 ≠ b) : Inv X pins σ H' s' := by
 obtain ⟨h', g', d', t', o'⟩ := s'
 have e : o' = s.os := ho
 subst e
 exact I.call (g' := g') (t' := t') (d' := d') u hok hg hch
end
abbrev XK := Value → Option Addr → Hp → Prop
abbrev St := List (Option V)
abbrev VK := V → Hp → Prop
abbrev TE := St → Hp → VK → Prop
abbrev TT := St → Hp → (Bool → Hp → Prop) → Prop
abbrev TA := St → Hp → (List V → Hp → Prop) → Prop
structure Ends where
 nx : St → Hp → Prop
 rt : VK
 bk : St → Hp → Prop := fun _ _ => False
 ct : St → Hp → Prop := fun _ _ => False
abbrev TS := Ends → St → Hp → Prop
def EP (X : Cx) (pins : List (Addr × Obj)) (σ : St) (Q : VK) (u : Value) (s' : Shared) : Prop := ∃ v H', Inv X pins σ H' s' ∧ RelV v u ∧ Q v H'
def TP (X : Cx) (pins : List (Addr × Obj)) (σ : St) (Q : Bool → Hp → Prop) (b : Bool) (s' : Shared) : Prop := ∃ H', Inv X pins σ H' s' ∧ Q b H'
def AP (X : Cx) (pins : List (Addr × Obj)) (σ : St) (Q : List V → Hp → Prop) (us : List Value) (s' : Shared) : Prop := ∃ vs H', Inv X pins σ H' s' ∧ Vals vs us ∧ Q vs H'
def SP (X : Cx) (pins : List (Addr × Obj)) (D : Ends) (f : Flow) (s' : Shared) : Prop :=
 match f with
 | .next => ∃ σ' H', Inv X pins σ' H' s' ∧ D.nx σ' H'
 | .brk => ∃ σ' H', Inv X pins σ' H' s' ∧ D.bk σ' H'
 | .cont => ∃ σ' H', Inv X pins σ' H' s' ∧ D.ct σ' H'
 | .ret u => ∃ v σ' H', Inv X pins σ' H' s' ∧ RelV v u ∧ D.rt v H'
def PE (X : Cx) (e : Expr) (t : TE) : Prop :=
 ∀ (pins : List (Addr × Obj)) (s : Shared) (σ : St) (H : Hp) (Q : VK), Inv X pins σ H s → t σ H Q → wpAny (model X.prog X.w) X.A (eval e X.env) (EP X pins σ Q) X.xe s
def PT (X : Cx) (e : Expr) (t : TT) : Prop :=
 ∀ (pins : List (Addr × Obj)) (s : Shared) (σ : St) (H : Hp) (Q : Bool → Hp → Prop), Inv X pins σ H s → t σ H Q → wpAny (model X.prog X.w) X.A (isTrue e X.env (eval e X.env)) (TP X pins σ Q) X.xe s
def PW (X : Cx) (e : Expr) (t : TT) : Prop :=
 ∀ (whole : Sem Value) (pins : List (Addr × Obj)) (s : Shared) (σ : St) (H : Hp) (Q : Bool → Hp → Prop), Inv X pins σ H s → t σ H Q → wpAny (model X.prog X.w) X.A (isTrue e X.env whole) (TP X pins σ Q) X.xe s
theorem PW.pt {X : Cx} {e : Expr} {t : TT} (h : PW X e t) : PT X e t := h _
def PA (X : Cx) (es : List Expr) (t : TA) : Prop :=
 ∀ (pos : Pos) (pins : List (Addr × Obj)) (s : Shared) (σ : St) (H : Hp) (Q : List V → Hp → Prop), Inv X pins σ H s → t σ H Q → wpAny (model X.prog X.w) X.A (spliced (backTo pos (starEach es X.env))) (AP X pins σ Q) X.xe s
def PS (X : Cx) (st : Stmt) (t : TS) : Prop :=
 ∀ (pins : List (Addr × Obj)) (s : Shared) (σ : St) (H : Hp) (D : Ends), Inv X pins σ H s → t D σ H → wpAny (model X.prog X.w) X.A (exec st X.env) (SP X pins D) X.xe s
def PSs (X : Cx) (st : List Stmt) (t : TS) : Prop :=
 ∀ (pins : List (Addr × Obj)) (s : Shared) (σ : St) (H : Hp) (D : Ends), Inv X pins σ H s → t D σ H → wpAny (model X.prog X.w) X.A (execs st X.env) (SP X pins D) X.xe s
theorem thn {α : Type} {t : Sem α} {Q Q' : α → Shared → Prop} {M : Model} {A : Around} {E : Value → Shared → Prop} {s : Shared} (h : wpAny M A t Q E s) (hQ : ∀ a s, Q a s → Q' a s) : wpAny M A t Q' E s := wpAny_mono h hQ fun _ _ x => x
end L2
namespace L2
open PySem PySem.Spec PyProof.Rows
section
variable {X : Cx}
def tVar (i : Nat) : TE := fun σ H Q => ∃ v, σ[i]? = some (some v) ∧ Q v H
def tC (v : V) : TE := fun _ H Q => Q v H
theorem pe_var {i : Nat} {x : Str} {pos : Pos} (hN : X.N[i]? = some x) (hv : Vis X.env.scope x) (hd : (x == ("__debug__" : Str)) = false := by decide) (hcd : (x == ("__classdict__" : Str)) = false := by decide) : PE X (.Name x pos) (tVar i) := by
 intro pins s σ H Q I h
 obtain ⟨v, e, h⟩ := h
 obtain ⟨m, hn, hl⟩ := I.loc
 obtain ⟨u, r, l⟩ := hl i x v hN e hv
 have fin : EP X pins σ Q u s := ⟨v, H, I, r, h⟩
 rcases l with ⟨hk, hm⟩ | ⟨hk, c, hc, hcell⟩
 ·exact wpAny_Name (wpAny_loadName_local I.ok.kind hk hn hm fin) hd
 ·rcases hk with hk | hk
  ·exact wpAny_Name (wpAny_loadName_cell I.ok.kind hk hc hcell fin) hd
  ·exact wpAny_Name (wpAny_loadName_free I.ok.kind hk hc hcell fin hcd) hd
theorem pe_int {i j pos} : PE X (.Constant (.int i) j pos) (tC (.int i)) := fun _ _ _ H _ I h => wpAny_Constant_int ⟨.int i, H, I.tok _, ⟨_, rfl⟩, h⟩
theorem pe_bl {b j pos} : PE X (.Constant (.bool b) j pos) (tC (.bl b)) := fun _ _ _ H _ I h => Constant_bool ⟨.bl b, H, I, rfl, h⟩
theorem pe_non {j pos} : PE X (.Constant .none j pos) (tC .non) := fun _ _ _ H _ I h => Constant_none ⟨.non, H, I, rfl, h⟩
theorem pe_str {x j pos} : PE X (.Constant (.str x) j pos) (tC (.str x)) := fun _ _ _ H _ I h => Calls.Constant_str ⟨.str x, H, I.tok _, ⟨_, rfl⟩, h⟩
def Gl (X : Cx) (x : Str) : Prop := X.env.kindOf x = some .globalImplicit
theorem ld_glob {E : Value → Shared → Prop} {pins : List (Addr × Obj)} {s : Shared} {σ : St} {H : Hp} {x : Str} {u : Value} {pos : Pos} {Q : Value → Shared → Prop} (I : Inv X pins σ H s) (hg : Gl X x) (hm : X.mg x = some u) (h : Q u s)
  (hd : (x == ("__debug__" : Str)) = false := by decide) : wpAny (model X.prog X.w) X.A (eval (.Name x pos) X.env) Q E s :=
 Calls.Name_function_global I.ok.kind hg (Calls.loadGlobal_global (by rw [I.ok.glob]; exact I.mod.glob.keeps I.bk) hm h) hd
theorem ld_blt {E : Value → Shared → Prop} {pins : List (Addr × Obj)} {s : Shared} {σ : St} {H : Hp} {x : Str} {u : Value} {pos : Pos} {Q : Value → Shared → Prop} (I : Inv X pins σ H s) (hg : Gl X x) (hm : X.mg x = none) (hv : bootBuiltins x = some u) (h : Q u s)
  (hn : x ≠ "__name__" := by decide) (hd : (x == ("__debug__" : Str)) = false := by decide) : wpAny (model X.prog X.w) X.A (eval (.Name x pos) X.env) Q E s := by
 obtain ⟨mb, h1, h2⟩ := I.mod.blt
 exact Calls.Name_function_global I.ok.kind hg (Calls.loadGlobal_builtin (by rw [I.ok.glob]; exact I.mod.glob.keeps I.bk) hm (by rw [I.ok.blt]; exact h1.keeps I.bk) ((h2 x hn).trans hv) h) hd
theorem pe_glob {x : Str} {v : V} {u : Value} {pos : Pos} (hg : Gl X x) (hm : X.mg x = some u) (r : RelV v u) (hd : (x == ("__debug__" : Str)) = false := by decide) : PE X (.Name x pos) (tC v) :=
 fun _ _ _ H _ I h => ld_glob I hg hm ⟨v, H, I, r, h⟩ hd
theorem pe_bltn {x : Str} {v : V} {u : Value} {pos : Pos} (hg : Gl X x) (hm : X.mg x = none) (hv : bootBuiltins x = some u) (r : RelV v u) (hn : x ≠ "__name__" := by decide) (hd : (x == ("__debug__" : Str)) = false := by decide) : PE X (.Name x pos) (tC v) :=
 fun _ _ _ H _ I h => ld_blt I hg hm hv ⟨v, H, I, r, h⟩ hn hd
variable {a b : Expr} {ta tb : TE} {pos : Pos}
def PC (X : Cx) (op : CmpOp) (a b : Expr) (t : TE) : Prop :=
 ∀ (pins : List (Addr × Obj)) (s : Shared) (σ : St) (H : Hp) (Q : VK), Inv X pins σ H s → t σ H Q →
  wpAny (model X.prog X.w) X.A (eval a X.env) (fun v s₁ => wpAny (model X.prog X.w) X.A (eval b X.env) (fun u s₂ => wpAny (model X.prog X.w) X.A (compareOp op v u) (EP X pins σ Q) X.xe s₂) X.xe s₁) X.xe s
def tB (t : TE) : TT := fun σ H Q => t σ H fun x H1 => ∃ c, x = .bl c ∧ Q c H1
theorem pt_cmp {op : CmpOp} {t : TE} (h : PC X op a b t) (h1 : behindInMarks op b = false := by first | exact nobehind _ (by decide) (by decide) | rfl) : PT X (.Compare a [op] [b] pos) (tB t) := by
 intro pins s σ H Q I hw
 refine wpAny_isTrue_Compare1 (thn (h pins s σ H _ I hw) fun v s1 h1 => thn h1 fun u s2 h2 => thn h2 fun c s3 ⟨x, H1, I1, r1, q1⟩ => ?_) h1
 obtain ⟨d, rfl, q⟩ := q1
 cases r1
 exact wpAny_truthy_bool ⟨H1, I1, q⟩
theorem pt_val {e : Expr} {t : TE} (h : PE X e t) (he : ∀ whole, isTrue e X.env whole = (do let v ← whole; standAt e.pos; holding [v] (truthy v)) := by intro _; rfl) : PT X e (tB t) := by
 intro pins s σ H Q I hw
 refine isTrue_plain (thn (h pins s σ H _ I hw) fun v s1 ⟨x, H1, I1, r1, q1⟩ => ?_) (he _)
 obtain ⟨d, rfl, q⟩ := q1
 cases r1
 exact wpAny_truthy_bool ⟨H1, I1, q⟩
variable {tA tB' : TT} {rest : List Expr}
def tAnd (t u : TT) : TT := fun σ H Q => t σ H fun c H1 => if c = true then u σ H1 Q else Q false H1
def tOr (t u : TT) : TT := fun σ H Q => t σ H fun c H1 => if c = true then Q true H1 else u σ H1 Q
def tNot (t : TT) : TT := fun σ H Q => t σ H fun c H1 => Q (!c) H1
theorem pw_and1 (ha : PT X a tA) : PW X (.BoolOp .And [a] pos) tA := by
 intro wh pins s σ H Q I h
 refine isTrue_and (thn (ha pins s σ H Q I h) fun c s1 e => ?_)
 cases c with
 | true => exact isTrue_and_nil e
 | false => exact e
theorem pw_or1 (ha : PT X a tA) : PW X (.BoolOp .Or [a] pos) tA := by
 intro wh pins s σ H Q I h
 refine isTrue_or (thn (ha pins s σ H Q I h) fun c s1 e => ?_)
 cases c with
 | false => exact isTrue_or_nil e
 | true => exact e
theorem pw_and (ha : PT X a tA) (hb : PW X (.BoolOp .And (b :: rest) pos) tB') : PW X (.BoolOp .And (a :: b :: rest) pos) (tAnd tA tB') := by
 intro wh pins s σ H Q I h
 refine isTrue_and (thn (ha pins s σ H _ I h) fun c s1 ⟨H1, I1, q1⟩ => ?_)
 cases c with
 | true => exact hb wh pins s1 σ H1 Q I1 q1
 | false => exact ⟨H1, I1, q1⟩
theorem pw_or (ha : PT X a tA) (hb : PW X (.BoolOp .Or (b :: rest) pos) tB') : PW X (.BoolOp .Or (a :: b :: rest) pos) (tOr tA tB') := by
 intro wh pins s σ H Q I h
 refine isTrue_or (thn (ha pins s σ H _ I h) fun c s1 ⟨H1, I1, q1⟩ => ?_)
 cases c with
 | true => exact ⟨H1, I1, q1⟩
 | false => exact hb wh pins s1 σ H1 Q I1 q1
theorem pt_not (ha : PT X a tA) : PT X (.UnaryOp .Not a pos) (tNot tA) := by
 intro pins s σ H Q I h
 exact isTrue_not (ha pins s σ H (fun c H1 => Q (!c) H1) I h)
def tAndV (ta tb : TE) : TE := fun σ H Q => ta σ H fun x H1 => ∃ c, x = .bl c ∧ if c = true then tb σ H1 Q else Q (.bl false) H1
def tNotV (ta : TE) : TE := fun σ H Q => ta σ H fun x H1 => ∃ c, x = .bl c ∧ Q (.bl (!c)) H1
theorem pe_one {op} {t : TE} (h : PE X a t) : PE X (.BoolOp op [a] pos) t := fun pins s σ H Q I hw => BoolOp_one (h pins s σ H Q I hw)
theorem pe_and (ha : PE X a ta) (hb : PE X (.BoolOp .And (b :: rest) pos) tb) : PE X (.BoolOp .And (a :: b :: rest) pos) (tAndV ta tb) := by
 intro pins s σ H Q I h
 refine BoolOp_and (thn (ha pins s σ H _ I h) fun v s1 ⟨x, H1, I1, r1, q1⟩ => ?_)
 obtain ⟨c, rfl, q1⟩ := q1
 cases r1
 refine wpAny_truthy_bool ?_
 cases c with
 | true => exact hb pins s1 σ H1 Q I1 q1
 | false => exact ⟨.bl false, H1, I1, rfl, q1⟩
theorem pe_not (ha : PE X a ta) : PE X (.UnaryOp .Not a pos) (tNotV ta) := by
 intro pins s σ H Q I h
 refine UnaryOp_ (thn (ha pins s σ H _ I h) fun v s1 ⟨x, H1, I1, r1, q1⟩ => ?_)
 obtain ⟨c, rfl, q1⟩ := q1
 cases r1
 exact not_of (wpAny_truthy_bool ⟨.bl (!c), H1, I1, rfl, q1⟩)
def tIf (t : TT) (ta tb : TE) : TE := fun σ H Q => t σ H fun c H1 => if c = true then ta σ H1 Q else tb σ H1 Q
theorem pe_ifExp {c : Expr} (hc : PT X c tA) (ha : PE X a ta) (hb : PE X b tb) : PE X (.IfExp c a b pos) (tIf tA ta tb) := by
 intro pins s σ H Q I h
 refine wpAny_IfExp (thn (hc pins s σ H _ I h) fun d s1 ⟨H1, I1, q1⟩ => ?_)
 cases d with
 | true => exact ha pins s1 σ H1 Q I1 q1
 | false => exact hb pins s1 σ H1 Q I1 q1
end
end L2
namespace L2
open PySem PySem.Spec PyProof.Rows
def SqL (K : PySem.W.Frag) (H : Hp) (a : Addr) (xs : List V) : Prop :=
 Rd H a (.lst xs) ∨
  ∃ (o : Obj) (its : Array Value) (n : Nat), K.lookup a = some o ∧ o.cls = .type "list" ∧ o.dict = none ∧ o.data = .seq its n ∧ its.size ≤ sizeLine ∧ Vals xs its.toList
def SqT (K : PySem.W.Frag) (H : Hp) (a : Addr) (xs : List V) : Prop :=
 Rd H a (.tup xs) ∨
  ∃ (o : Obj) (its : Array Value) (n : Nat), K.lookup a = some o ∧ o.cls = .type "tuple" ∧ o.data = .seq its n ∧ its.size ≤ sizeLine ∧ Vals xs its.toList
def absV : Value → Option V
 | .none => some .non
 | .bool b => some (.bl b)
 | .int i _ => some (.int i)
 | .str x _ => some (.str x)
 | .bytes b _ => some (.byt b)
 | .float b _ => some (.flt b)
 | .ref a => some (.ref a)
 | .type n => some (.ty n)
 | _ => none
theorem RelV.abs {x : V} {u : Value} (r : RelV x u) : absV u = some x := by
 cases x with
 | non => cases r; rfl
 | bl _ => cases r; rfl
 | int _ => obtain ⟨t, rfl⟩ := r; rfl
 | str _ => obtain ⟨t, rfl⟩ := r; rfl
 | byt _ => obtain ⟨t, rfl⟩ := r; rfl
 | flt _ => obtain ⟨t, rfl⟩ := r; rfl
 | ref _ => cases r; rfl
 | ty _ => cases r; rfl
theorem RelV.inj {x y : V} {u : Value} (r : RelV x u) (q : RelV y u) : x = y := Option.some.inj (r.abs.symm.trans q.abs)
theorem Vals.inj : ∀ {xs ys : List V} {us : List Value}, Vals xs us → Vals ys us → xs = ys
 | _, _, _, .nil, .nil => rfl
 | _, _, _, .cons r t, .cons r' t' => by rw [r.inj r', Vals.inj t t']
section
variable {X : Cx} {pins : List (Addr × Obj)} {σ : St} {H : Hp} {s : Shared} {a : Addr} {xs ys : List V}
theorem SqL.of {K : PySem.W.Frag} (h : H a = some (.lst xs)) : SqL K H a xs := .inl (.inl h)
theorem SqT.of {K : PySem.W.Frag} (h : H a = some (.tup xs)) : SqT K H a xs := .inl (.inl h)
theorem Inv.list (I : Inv X pins σ H s) (h : SqL X.K H a xs) : ∃ its : List Value, Vals xs its ∧ PlainL s.heap a its.toArray ∧ xs.length ≤ sizeLine := by
 rcases h with h | ⟨o, its, n, hk, hc, hd, hs, hz, r⟩
 ·obtain ⟨z, its, n, r, e⟩ := h.ok I.hok
  exact ⟨its, r, ⟨_, n, e, rfl, rfl, rfl⟩, z⟩
 ·refine ⟨its.toList, r, ⟨o, n, I.kIn a o hk, hc, hd, by simpa using hs⟩, ?_⟩
  have e := r.length
  simp only [Array.length_toList] at e
  omega
theorem Inv.tuple (I : Inv X pins σ H s) (h : SqT X.K H a xs) : ∃ its : List Value, Vals xs its ∧ IsTup s.heap a its.toArray ∧ xs.length ≤ sizeLine := by
 rcases h with h | ⟨o, its, n, hk, hc, hs, hz, r⟩
 ·obtain ⟨z, its, r, p⟩ := h.ok I.hok
  exact ⟨its, r, p, z⟩
 ·refine ⟨its.toList, r, ⟨o, I.kIn a o hk, hc, n, by simpa using hs⟩, ?_⟩
  have e := r.length
  simp only [Array.length_toList] at e
  omega
theorem Inv.list_inj (I : Inv X pins σ H s) (h : SqL X.K H a xs) (h' : SqL X.K H a ys) : xs = ys := by
 obtain ⟨its, r, ⟨o, n, e, _, _, d⟩, _⟩ := I.list h
 obtain ⟨its', r', ⟨o', n', e', _, _, d'⟩, _⟩ := I.list h'
 rw [e] at e'; cases e'
 rw [d] at d'
 injection d' with d1 _
 have : its = its' := by simpa using congrArg Array.toList d1
 subst this
 exact r.inj r'
theorem Inv.tuple_inj (I : Inv X pins σ H s) (h : SqT X.K H a xs) (h' : SqT X.K H a ys) : xs = ys := by
 obtain ⟨its, r, ⟨o, e, _, n, d⟩, _⟩ := I.tuple h
 obtain ⟨its', r', ⟨o', e', _, n', d'⟩, _⟩ := I.tuple h'
 rw [e] at e'; cases e'
 rw [d] at d'
 injection d' with d1 _
 have : its = its' := by simpa using congrArg Array.toList d1
 subst this
 exact r.inj r'
end
abbrev Cx.wish (X : Cx) (E : Value → Shared → Prop) : Cx := { X with xe := E }
abbrev Cx.nox (X : Cx) : Cx := X.wish fun _ _ => False
theorem Cx.Ok.wish {X : Cx} (ok : X.Ok) (E : Value → Shared → Prop) : (X.wish E).Ok :=
 ⟨ok.mod, ok.kind, ok.glob, ok.blt, ok.above, ok.inj, ok.has, ok.cab, ok.hd, ok.frames, ok.stk, ok.exf, ok.bs, ok.bsz, ok.noex, ok.exfs, ok.funs, ok.frf⟩
theorem Cx.Ok.unwish {X : Cx} {E : Value → Shared → Prop} (ok : (X.wish E).Ok) : X.Ok :=
 ⟨ok.mod, ok.kind, ok.glob, ok.blt, ok.above, ok.inj, ok.has, ok.cab, ok.hd, ok.frames, ok.stk, ok.exf, ok.bs, ok.bsz, ok.noex, ok.exfs, ok.funs, ok.frf⟩
section
variable {X : Cx} {pins : List (Addr × Obj)} {σ : St} {H : Hp} {s : Shared} {E : Value → Shared → Prop}
theorem Inv.wish (I : Inv X pins σ H s) (E : Value → Shared → Prop) : Inv (X.wish E) pins σ H s := ⟨I.ok.wish E, I.os, I.bare, I.base, I.loc, I.cell, I.free, I.freeC, I.pin, I.hok, I.len⟩
theorem Inv.unwish (I : Inv (X.wish E) pins σ H s) : Inv X pins σ H s := ⟨I.ok.unwish, I.os, I.bare, I.base, I.loc, I.cell, I.free, I.freeC, I.pin, I.hok, I.len⟩
theorem SP.unwish {D : Ends} {f : Flow} {s' : Shared} (h : SP (X.wish E) pins D f s') : SP X pins D f s' := by
 cases f with
 | next => obtain ⟨σ', H', I, q⟩ := h; exact ⟨σ', H', I.unwish, q⟩
 | brk => obtain ⟨σ', H', I, q⟩ := h; exact ⟨σ', H', I.unwish, q⟩
 | cont => obtain ⟨σ', H', I, q⟩ := h; exact ⟨σ', H', I.unwish, q⟩
 | ret u => obtain ⟨v, σ', H', I, r, q⟩ := h; exact ⟨v, σ', H', I.unwish, r, q⟩
theorem PSs.nox {st : List Stmt} {t : TS} (h : PSs X.nox st t) : PSs X st t := fun pins s σ H D I hw =>
 wpAny_mono (h pins s σ H D (I.wish _) hw) (fun _ _ q => q.unwish) fun _ _ z => False.elim z
end
section
variable {X : Cx} {st : Stmt} {rest : List Stmt} {t u : TS} {e : Expr} {te : TE} {pos : Pos}
def tNext : TS := fun D σ H => D.nx σ H
def tSeq (t u : TS) : TS := fun D σ H => t { D with nx := u D } σ H
theorem pss_nil : PSs X [] tNext := fun _ _ σ H _ I h => wpAny_execs_nil ⟨σ, H, I, h⟩
theorem pss_cons (h1 : PS X st t) (h2 : PSs X rest u) : PSs X (st :: rest) (tSeq t u) := by
 intro pins s σ H D I h
 refine wpAny_execs_cons (thn (h1 pins s σ H { D with nx := u D } I h) fun f s1 q => ?_)
 cases f with
 | next =>
  obtain ⟨σ', H', I', q⟩ := q
  exact h2 pins s1 σ' H' D I' q
 | ret v => exact q
 | brk => exact q
 | cont => exact q
theorem pss_one (h1 : PS X st t) : PSs X [st] t := by
 intro pins s σ H D I h
 refine wpAny_execs_cons (thn (h1 pins s σ H D I h) fun f s1 q => ?_)
 cases f with
 | next => exact wpAny_execs_nil q
 | ret v => exact q
 | brk => exact q
 | cont => exact q
def tBreak : TS := fun D σ H => D.bk σ H
theorem ps_break : PS X (.Break pos) tBreak := fun _ _ σ H _ I h => wpAny_Break ⟨σ, H, I, h⟩
theorem Inv.quiet {pins : List (Addr × Obj)} {σ : St} {H : Hp} {s : Shared} (I : Inv X pins σ H s) : interactive X.env = false := by simp [interactive, I.ok.kind]
def tDrop (te : TE) : TS := fun D σ H => te σ H fun _ H1 => D.nx σ H1
theorem ps_expr (he : PE X e te) (hs : swapsWith e none pos.line X.env = pure false := by rfl) : PS X (.Expr e pos) (tDrop te) := by
 intro pins s σ H D I h
 exact wpAny_Expr_any (thn (he pins s σ H _ I h) fun v s1 ⟨x, H1, I1, r1, q1⟩ => ⟨σ, H1, I1, q1⟩) I.quiet hs
def tRet (te : TE) : TS := fun D σ H => te σ H D.rt
theorem ps_ret (he : PE X e te) : PS X (.Return (some e) pos) (tRet te) := by
 intro pins s σ H D I h
 exact wpAny_Return_some (thn (he pins s σ H _ I h) fun v s1 ⟨x, H1, I1, r1, q1⟩ => ⟨x, σ, H1, I1, r1, q1⟩)
def tIfS (c : TT) (t u : TS) : TS := fun D σ H => c σ H fun b H1 => if b = true then t D σ H1 else u D σ H1
theorem ps_if {c : Expr} {a b : List Stmt} {tc : TT} (hc : PT X c tc) (ha : PSs X a t) (hb : PSs X b u) : PS X (.If c a b pos) (tIfS tc t u) := by
 intro pins s σ H D I h
 refine wpAny_If (thn (hc pins s σ H _ I h) fun d s1 ⟨H1, I1, q1⟩ => ?_)
 cases d with
 | true => exact ha pins s1 σ H1 D I1 q1
 | false => exact hb pins s1 σ H1 D I1 q1
def tNever : TS := fun _ _ _ => False
theorem pss_never {sts : List Stmt} : PSs X sts tNever := fun _ _ _ _ _ _ h => h.elim
end
abbrev TG := V → St → Hp → (St → Hp → Prop) → Prop
abbrev TGs := List V → St → Hp → (St → Hp → Prop) → Prop
def PG (X : Cx) (target : Expr) (t : TG) : Prop :=
 ∀ (pins : List (Addr × Obj)) (s : Shared) (σ : St) (H : Hp) (v : V) (u : Value) (Q : St → Hp → Prop), Inv X pins σ H s → RelV v u → t v σ H Q →
  wpAny (model X.prog X.w) X.A (assign target X.env u) (fun _ s' => ∃ σ' H', Inv X pins σ' H' s' ∧ Q σ' H') X.xe s
def PGs (X : Cx) (ts : List Expr) (t : TGs) : Prop :=
 ∀ (pins : List (Addr × Obj)) (s : Shared) (σ : St) (H : Hp) (vs : List V) (us : List Value) (Q : St → Hp → Prop), Inv X pins σ H s → Vals vs us → t vs σ H Q →
  wpAny (model X.prog X.w) X.A (assignInOrder ((assignEach ts X.env).map (·.2)) us) (fun _ s' => ∃ σ' H', Inv X pins σ' H' s' ∧ Q σ' H') X.xe s
abbrev TSet := V → V → V → Hp → (Hp → Prop) → Prop
def PSet (X : Cx) (t : TSet) : Prop :=
 ∀ (pins : List (Addr × Obj)) (s : Shared) (σ : St) (H : Hp) (o i v : V) (ov iv u : Value) (Q : Hp → Prop), Inv X pins σ H s → RelV o ov → RelV i iv → RelV v u → t o i v H Q →
  wpAny (model X.prog X.w) X.A (setItem ov iv u) (fun _ s' => ∃ H', Inv X pins σ H' s' ∧ Q H') X.xe s
abbrev TIp := V → V → Hp → VK → Prop
def PIp (X : Cx) (op : Operator) (t : TIp) : Prop :=
 ∀ (pins : List (Addr × Obj)) (s : Shared) (σ : St) (H : Hp) (x y : V) (v u : Value) (Q : VK), Inv X pins σ H s → RelV x v → RelV y u → t x y H Q →
  wpAny (model X.prog X.w) X.A (inplaceOp op v u) (EP X pins σ Q) X.xe s
section
variable {X : Cx} {pos : Pos}
def gName (i : Nat) : TG := fun v σ H Q => Q (σ.set i (some v)) H
theorem pg_name {i : Nat} {x : Str} (hN : X.N.Nodup) (hi : X.N[i]? = some x) (hx : Loc X.env.scope x) (hf : X.fn x = true ∨ X.env.scope.names.lookup x = some .local := by first | exact .inl rfl | exact .inr rfl | assumption) : PG X (.Name x pos) (gName i) := by
 intro pins s σ H v u Q I r h
 exact wpAny_assign_Name (store_ok I hN hi hx r (fun s' I' => ⟨_, H, I', h⟩) hf)
def gNil : TGs := fun vs σ H Q => vs = [] ∧ Q σ H
def gCons (t : TG) (u : TGs) : TGs := fun vs σ H Q => ∃ v r, vs = v :: r ∧ t v σ H fun σ' H' => u r σ' H' Q
theorem pgs_nil : PGs X [] gNil := by
 intro pins s σ H vs us Q I r h
 obtain ⟨e, h⟩ := h
 subst e
 cases r
 exact assignInOrder_nil ⟨σ, H, I, h⟩
theorem pgs_cons {e : Expr} {es : List Expr} {t : TG} {u : TGs} (h1 : PG X e t) (h2 : PGs X es u)
  (hs : (assignEach (e :: es) X.env).map (·.2) = assign e X.env :: (assignEach es X.env).map (·.2) := by rfl) : PGs X (e :: es) (gCons t u) := by
 intro pins s σ H vs us Q I r h
 obtain ⟨v, vr, e1, h⟩ := h
 subst e1
 cases r with
 | cons r rr =>
  rw [hs]
  refine assignInOrder_cons (thn (h1 pins s σ H _ _ _ I r h) fun _ s1 ⟨σ1, H1, I1, q1⟩ => ?_)
  exact h2 pins s1 σ1 H1 _ _ Q I1 rr q1
def gTup (K : PySem.W.Frag) (n : Nat) (t : TGs) : TG := fun v σ H Q => ∃ a xs, v = .ref a ∧ SqT K H a xs ∧ xs.length = n ∧ t xs σ H Q
theorem pg_tup {es : List Expr} {k : Nat} {t : TGs} {n : Nat} (hc : X.calm = true) (h : PGs X es t)
  (hn : (assignEach es X.env).length = n := by rfl) (hst : (assignEach es X.env).findIdx? (·.1) = none := by rfl) : PG X (.Tuple es k pos) (gTup X.K n t) := by
 intro pins s σ H v u Q I r hw
 obtain ⟨a, xs, e1, hq, hl, hw⟩ := hw
 subst e1
 cases r
 obtain ⟨its, rv, ht, hz⟩ := I.tuple hq
 refine assign_Tuple_tuple (I.ok.hd hc) ht (by simp [hn, ← hl, rv.length]) hst fun h' hx => ?_
 have I1 : Inv X pins σ H { s with heap := h' } := I.kept (t' := s.toks) fun b o e => hx b o (Nat.ne_of_lt (Heap.lt_size e)) e
 exact h pins _ σ H xs _ Q I1 (by simpa using rv) hw
def gSub (to ti : TE) (t : TSet) : TG := fun v σ H Q => to σ H fun o H1 => ti σ H1 fun i H2 => t o i v H2 fun H3 => Q σ H3
theorem pg_sub {o i : Expr} {to ti : TE} {t : TSet} (ho : PE X o to) (hi : PE X i ti) (hs : PSet X t)
  (ha : ∀ v, assign (.Subscript o i pos) X.env v = (do
   let ov ← holding [v] (eval o X.env)
   let iv ← holding [v, ov] (eval i X.env)
   standAt pos
   holding [v, ov, iv] (setItem ov iv v)
   release [v, ov, iv] []) := by intro _; rfl) : PG X (.Subscript o i pos) (gSub to ti t) := by
 intro pins s σ H v u Q I r h
 rw [ha]
 refine wpAny_bind (wpAny_holding (thn (ho pins s σ H _ I h) fun ov s1 ⟨x, H1, I1, r1, q1⟩ => ?_))
 refine wpAny_bind (wpAny_holding (thn (hi pins s1 σ H1 _ I1 q1) fun iv s2 ⟨y, H2, I2, r2, q2⟩ => ?_))
 refine wpAny_bind (wpAny_standAt (wpAny_bind (wpAny_holding (thn (hs pins s2 σ H2 x y v ov iv u _ I2 r1 r2 r q2) fun _ s3 ⟨H3, I3, q3⟩ => ?_))))
 exact wpAny_release ⟨σ, H3, I3, q3⟩
def tAsg (te : TE) (g : TG) : TS := fun D σ H => te σ H fun x H1 => g x σ H1 D.nx
theorem ps_asg {tg e : Expr} {te : TE} {g : TG} (he : PE X e te) (hg : PG X tg g) (hs : swapsWithSole [tg] e pos.line X.env = pure false := by rfl) (hw : swappedStores [tg] e X.env = pure none := by rfl)
  (h1 : (assignEach [tg] X.env).map (·.2) = [assign tg X.env] := by rfl) : PS X (.Assign [tg] e pos) (tAsg te g) := by
 intro pins s σ H D I h
 refine wpAny_Assign_stores (thn (he pins s σ H _ I h) fun v s1 ⟨x, H1, I1, r1, q1⟩ => ?_) hs hw
 rw [h1]
 exact thn (hg pins s1 σ H1 x v _ I1 r1 q1) fun _ s2 q => q
theorem ps_set {i : Nat} {x : Str} {e : Expr} {te : TE} {pos' : Pos} (hN : X.N.Nodup) (hi : X.N[i]? = some x) (hx : Loc X.env.scope x) (he : PE X e te) (hs : swapsWith e (some (.Name x pos')) pos.line X.env = pure false := by rfl) (hf : X.fn x = true ∨ X.env.scope.names.lookup x = some .local := by first | exact .inl rfl | exact .inr rfl | assumption) :
  PS X (.Assign [.Name x pos'] e pos) (tAsg te (gName i)) := by
 intro pins s σ H D I h
 refine wpAny_Assign_Name (thn (he pins s σ H _ I h) fun v s1 ⟨y, H1, I1, r1, q1⟩ => ?_) hs
 exact store_ok I1 hN hi hx r1 (fun s2 I2 => ⟨_, H1, I2, q1⟩) hf
def tAug (i : Nat) (te : TE) (ti : TIp) : TS := fun D σ H => ∃ x, σ[i]? = some (some x) ∧ te σ H fun y H1 => ti x y H1 fun z H2 => D.nx (σ.set i (some z)) H2
theorem ps_aug {i : Nat} {x : Str} {e : Expr} {te : TE} {op : Operator} {ti : TIp} {pos' : Pos} (hN : X.N.Nodup) (hi : X.N[i]? = some x) (hx : Loc X.env.scope x) (he : PE X e te) (ho : PIp X op ti) (hf : X.fn x = true ∨ X.env.scope.names.lookup x = some .local := by first | exact .inl rfl | exact .inr rfl | assumption) :
  PS X (.AugAssign (.Name x pos') op e pos) (tAug i te ti) := by
 intro pins s σ H D I h
 obtain ⟨v, e1, h⟩ := h
 obtain ⟨m, hn, hl⟩ := I.loc
 have vis : Vis X.env.scope x := by rcases hx with k | k; exact .inl k; exact .inr (.inl k)
 obtain ⟨u, r, l⟩ := hl i x v hi e1 vis
 refine wpAny_AugAssign_Name ?_
 have go : wpAny (model X.prog X.w) X.A (eval e X.env) (fun w s₂ => wpAny (model X.prog X.w) X.A (inplaceOp op u w) (fun r s₃ => wpAny (model X.prog X.w) X.A (storeName X.env x r) (fun _ => SP X pins D .next) X.xe s₃) X.xe s₂) X.xe s := by
  refine thn (he pins s σ H _ I h) fun w s1 ⟨y, H1, I1, r1, q1⟩ => ?_
  refine thn (ho pins s1 σ H1 v y u w _ I1 r r1 q1) fun z s2 ⟨zv, H2, I2, r2, q2⟩ => ?_
  exact store_ok I2 hN hi hx r2 (fun s3 I3 => ⟨_, H2, I3, q2⟩) hf
 rcases l with ⟨hk, hm⟩ | ⟨hk, c, hc, hcell⟩
 ·exact wpAny_loadName_local I.ok.kind hk hn hm go
 ·rcases hk with hk | hk
  ·exact wpAny_loadName_cell I.ok.kind hk hc hcell go
  ·rcases hx with k | k
   ·have : X.env.scope.names.lookup x = some .free := hk
    rw [k] at this; cases this
   ·have : X.env.scope.names.lookup x = some .free := hk
    rw [k] at this; cases this
def tAugS (to ti te : TE) (tget : V → V → Hp → VK → Prop) (tip : TIp) (tset : TSet) : TS := fun D σ H => to σ H fun o H1 => ti σ H1 fun i H2 => tget o i H2 fun x H3 => te σ H3 fun y H4 => tip x y H4 fun z H5 => tset o i z H5 fun H6 => D.nx σ H6
def PGet (X : Cx) (t : V → V → Hp → VK → Prop) : Prop :=
 ∀ (pins : List (Addr × Obj)) (s : Shared) (σ : St) (H : Hp) (o i : V) (ov iv : Value) (Q : VK), Inv X pins σ H s → RelV o ov → RelV i iv → t o i H Q →
  wpAny (model X.prog X.w) X.A (getItem ov iv) (EP X pins σ Q) X.xe s
theorem ps_augS {o i e : Expr} {to ti te : TE} {tget : V → V → Hp → VK → Prop} {tip : TIp} {tset : TSet} {op : Operator} {tpos : Pos} (ho : PE X o to) (hi : PE X i ti) (hg : PGet X tget) (he : PE X e te) (hp : PIp X op tip) (hs : PSet X tset)
  (ha : ∀ ov iv new, augStore i ov iv new = (do holding [new, ov, iv] (setItem ov iv new); release [new, ov, iv] []; pure .next) := by intros; rfl) : PS X (.AugAssign (.Subscript o i tpos) op e pos) (tAugS to ti te tget tip tset) := by
 intro pins s σ H D I h
 refine wpAny_AugAssign_SubscriptAny (thn (ho pins s σ H _ I h) fun ov s1 ⟨x1, H1, I1, r1, q1⟩ => ?_) ha
 refine thn (hi pins s1 σ H1 _ I1 q1) fun iv s2 ⟨x2, H2, I2, r2, q2⟩ => ?_
 refine thn (hg pins s2 σ H2 x1 x2 ov iv _ I2 r1 r2 q2) fun old s3 ⟨x3, H3, I3, r3, q3⟩ => ?_
 refine thn (he pins s3 σ H3 _ I3 q3) fun v s4 ⟨x4, H4, I4, r4, q4⟩ => ?_
 refine thn (hp pins s4 σ H4 x3 x4 old v _ I4 r3 r4 q4) fun new s5 ⟨x5, H5, I5, r5, q5⟩ => ?_
 exact thn (hs pins s5 σ H5 x1 x2 x5 ov iv new _ I5 r1 r2 r5 q5) fun _ s6 ⟨H6, I6, q6⟩ => ⟨σ, H6, I6, q6⟩
def ipI (f : Int → Int → Int) : TIp := fun x y H Q => ∃ i j, x = .int i ∧ y = .int j ∧ Q (.int (f i j)) H
theorem ip_add : PIp X .Add (ipI fun i j => i + j) := by
 intro pins s σ H x y v u Q I r1 r2 h
 obtain ⟨i, j, e1, e2, q⟩ := h
 subst e1; subst e2
 obtain ⟨t, rfl⟩ := r1
 obtain ⟨t', rfl⟩ := r2
 exact iadd_int ⟨.int _, H, I.tok _, ⟨_, rfl⟩, q⟩
theorem ip_sub : PIp X .Sub (ipI fun i j => i - j) := by
 intro pins s σ H x y v u Q I r1 r2 h
 obtain ⟨i, j, e1, e2, q⟩ := h
 subst e1; subst e2
 obtain ⟨t, rfl⟩ := r1
 obtain ⟨t', rfl⟩ := r2
 exact isub_int ⟨.int _, H, I.tok _, ⟨_, rfl⟩, q⟩
end
section
variable {X : Cx} {pos : Pos}
def tWhile (c : TT) (tb : TS) : TS := fun D σ H => ∃ W : Nat → St → Hp → Prop, (∃ m, W m σ H) ∧ ∀ m σ H, W m σ H →
 c σ H fun b H1 => if b = true then ∃ N : St → Hp → Prop, (∀ σ' H', N σ' H' → ∃ m', m' < m ∧ W m' σ' H') ∧ tb { D with nx := N, ct := N, bk := D.nx } σ H1 else D.nx σ H1
theorem ps_while {c : Expr} {body : List Stmt} {tc : TT} {tb : TS} (hp : PassesOwn (model X.prog X.w) X.A X.env X.xe) (hc : PT X c tc) (hb : PSs X body tb) : PS X (.While c body [] pos) (tWhile tc tb) := by
 intro pins s σ H D I h
 obtain ⟨W, ⟨m0, w0⟩, turn⟩ := h
 refine wpAny_While (codeAny_whileLoop (fun n s' => ∃ σ' H', Inv X pins σ' H' s' ∧ W n σ' H') ?_ m0 ⟨σ, H, I, w0⟩)
 rintro n s1 ⟨σ1, H1, I1, w1⟩
 refine wpAny_passesOwn hp (thn (hc pins s1 σ1 H1 _ I1 (turn n σ1 H1 w1)) fun b s2 ⟨H2, I2, q2⟩ => ?_)
 cases b with
 | true =>
  obtain ⟨N, hN, q2⟩ := q2
  rw [if_pos rfl]
  refine wpAny_passesOwn hp (thn (hb pins s2 σ1 H2 _ I2 q2) fun f s3 q3 => ?_)
  cases f with
  | next =>
   obtain ⟨σ3, H3, I3, n3⟩ := q3
   obtain ⟨m', hm, w3⟩ := hN σ3 H3 n3
   exact ⟨m', hm, σ3, H3, I3, w3⟩
  | cont =>
   obtain ⟨σ3, H3, I3, n3⟩ := q3
   obtain ⟨m', hm, w3⟩ := hN σ3 H3 n3
   exact ⟨m', hm, σ3, H3, I3, w3⟩
  | brk => exact q3
  | ret v => exact q3
 | false =>
  rw [if_neg Bool.false_ne_true]
  exact wpAny_execs_nil ⟨σ1, H2, I2, q2⟩
end
structure It where
 go : Nat → Hp → Prop
 yld : Nat → Hp → V → Hp → Prop
 stop : Nat → Hp → Prop
def FpOk (X : Cx) (pins : List (Addr × Obj)) (H : Hp) (b : Addr) : Prop :=
 H b = none ∧ b ≠ X.env.locals ∧ b ∉ X.fs ∧ (b ∈ X.ex ∨ X.s₀.heap.objs.size ≤ b) ∧ (∀ x c, X.env.cells.lookup x = some c → c ≠ b) ∧ ∀ p ∈ X.pn ++ pins, p.1 ≠ b
theorem Inv.fpOk {X : Cx} {pins : List (Addr × Obj)} {σ : St} {H H' : Hp} {s : Shared} {b : Addr} (I : Inv X pins σ H s) (hb : s.heap.objs.size ≤ b) (hn : H' b = none) : FpOk X pins H' b := by
 refine ⟨hn, Nat.ne_of_gt (Nat.lt_of_lt_of_le I.lt hb), I.nofs hb, .inr (Nat.le_trans I.sz hb), fun x c e z => ?_, fun p hp z => ?_⟩
 ·obtain ⟨v, q⟩ := I.cell x c e
  exact absurd (Nat.lt_of_lt_of_le q.lt (by rw [z]; exact hb)) (Nat.lt_irrefl _)
 ·exact absurd (Nat.lt_of_lt_of_le (Heap.lt_size (I.pin p hp).1) (by rw [z]; exact hb)) (Nat.lt_irrefl _)
structure Turn (P : Program) (w : World) (K : PySem.W.Frag) (tg : Expr) (J : It) (fp : List Addr) (it : Addr) (tn : Nat → Heap → Prop) : Prop where
 mem : it ∈ fp
 obj : ∀ i h, tn i h → ∀ b ∈ fp, ∃ o, h.get? b = some o ∧ ∀ v, o.data ≠ .cell v
 keep : ∀ i h h', tn i h → (∀ b ∈ fp, ∀ o, h.get? b = some o → h'.get? b = some o) → tn i h'
 item : ∀ (X : Cx), X.prog = P → X.w = w → X.K = K → X.calm = true → ∀ (i : Nat) (pins : List (Addr × Obj)) (s : Shared) (σ : St) (H : Hp) (E : Value → Shared → Prop), Inv X pins σ H s → (∀ b ∈ fp, FpOk X pins H b) → tn i s.heap → J.go i H →
  wpAny (model P w) X.A (pyNext (.ref it)) (fun r s1 => ∃ u, r = some u ∧
   wpAny (model P w) X.A (letOwnedTupleGo tg (.ref it) u) (fun _ s2 => ∃ x H', Inv X pins σ H' s2 ∧ RelV x u ∧ J.yld i H x H' ∧ tn (i + 1) s2.heap ∧ ∀ b ∈ fp, H' b = none) E s1) E s
 done : ∀ (X : Cx), X.prog = P → X.w = w → X.K = K → X.calm = true → ∀ (i : Nat) (pins : List (Addr × Obj)) (s : Shared) (σ : St) (H : Hp) (E : Value → Shared → Prop), Inv X pins σ H s → (∀ b ∈ fp, FpOk X pins H b) → tn i s.heap → J.stop i H →
  wpAny (model P w) X.A (pyNext (.ref it)) (fun r s1 => r = none ∧ Inv X pins σ H s1) E s
 self : ∀ (A : Around) (i : Nat) (s : Shared) (Q : Value → Shared → Prop) (E : Value → Shared → Prop), tn i s.heap → Q (.ref it) s → wpAny (model P w) A (pyIter (.ref it)) Q E s
abbrev TI := St → Hp → (It → Hp → Prop) → Prop
def PIE (X : Cx) (pins : List (Addr × Obj)) (σ : St) (tg : Expr) (R : It → Hp → Prop) (itv : Value) (s2 : Shared) : Prop :=
 ∃ (it : Addr) (fp : List Addr) (tn : Nat → Heap → Prop) (J : It) (H' : Hp), itv = .ref it ∧ Inv X pins σ H' s2 ∧ Turn X.prog X.w X.K tg J fp it tn ∧ tn 0 s2.heap ∧ (∀ b ∈ fp, FpOk X pins H' b) ∧ R J H'
def PI (X : Cx) (tg iter : Expr) (wi : TI) : Prop :=
 ∀ (pins : List (Addr × Obj)) (s : Shared) (σ : St) (H : Hp) (R : It → Hp → Prop), Inv X pins σ H s → wi σ H R →
  wpAny (model X.prog X.w) X.A (eval iter X.env) (fun v s1 => wpAny (model X.prog X.w) X.A (pyIter v) (PIE X pins σ tg R) X.xe s1) X.xe s
theorem go_of {M : Model} {A : Around} {E : Value → Shared → Prop} {s : Shared} {tg : Expr} {it : Addr} {u : Value} {o : Obj} {n : String} {vs : Array Value} {Q : Unit → Shared → Prop} (ho : s.heap.get? it = some o) (hc : o.cls = .type n) (hd : o.data = .fields vs)
    (hn : ["enumerate", "zip", "dict_itemiterator", "dict_reverseitemiterator", "odict_iterator", "itertools.zip_longest", "itertools.pairwise"].contains n = false) (hQ : Q () s) : wpAny M A (letOwnedTupleGo tg (.ref it) u) Q E s := by
  unfold letOwnedTupleGo
  cases tg <;> first
    | exact wpAny_pure hQ
    | (cases u <;> first
        | exact wpAny_pure hQ
        | (refine wpAny_bind (wpAny_load ho ?_)
           rw [hc, hd]
           show wpAny M A (if (["enumerate", "zip", "dict_itemiterator", "dict_reverseitemiterator", "odict_iterator", "itertools.zip_longest", "itertools.pairwise"].contains n && vs[0]? == some (rawInt _)) = true then _ else _) Q E s
           rw [if_neg (by intro h; rw [hn, Bool.false_and] at h; cases h)]
           exact wpAny_pure hQ))
def Itl (K : PySem.W.Frag) (a : Addr) : It :=
 ⟨fun i H => ∃ xs x, SqL K H a xs ∧ xs[i]? = some x, fun i H x H' => H' = H ∧ ∀ xs, SqL K H a xs → xs[i]? = some x, fun i H => ∃ xs, SqL K H a xs ∧ xs.length ≤ i⟩
def Itt (K : PySem.W.Frag) (a : Addr) : It :=
 ⟨fun i H => ∃ xs x, SqT K H a xs ∧ xs[i]? = some x, fun i H x H' => H' = H ∧ ∀ xs, SqT K H a xs → xs[i]? = some x, fun i H => ∃ xs, SqT K H a xs ∧ xs.length ≤ i⟩
def Itr (lo : Int) (n : Nat) : It := ⟨fun i _ => i < n, fun i H x H' => H' = H ∧ x = .int (lo + i), fun i _ => n ≤ i⟩
theorem turn_list {P : Program} {w : World} {K : PySem.W.Frag} {tg : Expr} (a it : Addr) : Turn P w K tg (Itl K a) [it] it (fun i h => h.IsListIter it a i) where
 mem := by simp
 obj := fun i h st b hb => by
  have e : b = it := by simpa using hb
  subst e
  obtain ⟨o, e, c, d⟩ := st
  exact ⟨o, e, fun v z => by rw [d] at z; cases z⟩
 keep := fun i h h' st k => st.at fun o e => k it (by simp) o e
 item := by
  intro X hP hw hK hc i pins s σ H E I hf st hg
  subst hP hw hK
  obtain ⟨xs, x, hq, hx⟩ := hg
  obtain ⟨its, rv, p, hz⟩ := I.list hq
  obtain ⟨u, hu, ru⟩ := rv.get hx
  obtain ⟨f0, f1, f2, f3, f4, f5⟩ := hf it (by simp)
  refine wpAny_pyNext_list_item st p.isList (x := u) (by simpa using hu) fun h' st' sb => ?_
  have I1 : Inv X pins σ H { s with heap := h' } := I.turned (t' := s.toks) (fun b o hb e => (sb.2 b hb).trans e) f0 f1 f3 f4 f5
  obtain ⟨o, e, c, d⟩ := id st'
  exact ⟨u, rfl, go_of (s := { s with heap := h' }) e c d (by decide) ⟨x, H, I1, ru, ⟨rfl, fun ys hy => by rw [I.list_inj hy hq]; exact hx⟩, st', fun b hb => (hf b hb).1⟩⟩
 done := by
  intro X hP hw hK hc i pins s σ H E I hf st hg
  subst hP hw hK
  obtain ⟨xs, hq, hx⟩ := hg
  obtain ⟨its, rv, p, hz⟩ := I.list hq
  obtain ⟨f0, f1, f2, f3, f4, f5⟩ := hf it (by simp)
  have hl := rv.length
  exact wpAny_pyNext_list_end (I.ok.hd hc) st p.isList (by simp; omega) fun h' eb => ⟨rfl, I.turned (t' := s.toks) (fun b o hb e => eb b o hb e) f0 f1 f3 f4 f5⟩
 self := fun _ _ _ _ _ st h => wpAny_pyIter_listiter st h
theorem turn_tuple {P : Program} {w : World} {K : PySem.W.Frag} {tg : Expr} (a it : Addr) : Turn P w K tg (Itt K a) [it] it (fun i h => h.IsTupleIter it a i) where
 mem := by simp
 obj := fun i h st b hb => by
  have e : b = it := by simpa using hb
  subst e
  obtain ⟨o, e, c, d⟩ := st
  exact ⟨o, e, fun v z => by rw [d] at z; cases z⟩
 keep := fun i h h' st k => st.at fun o e => k it (by simp) o e
 item := by
  intro X hP hw hK hc i pins s σ H E I hf st hg
  subst hP hw hK
  obtain ⟨xs, x, hq, hx⟩ := hg
  obtain ⟨its, rv, p, hz⟩ := I.tuple hq
  obtain ⟨u, hu, ru⟩ := rv.get hx
  obtain ⟨f0, f1, f2, f3, f4, f5⟩ := hf it (by simp)
  refine wpAny_pyNext_tuple_item st (show s.heap.IsTuple a its.toArray from p) (x := u) (by simpa using hu) fun h' st' sb => ?_
  have I1 : Inv X pins σ H { s with heap := h' } := I.turned (t' := s.toks) (fun b o hb e => (sb.2 b hb).trans e) f0 f1 f3 f4 f5
  obtain ⟨o, e, c, d⟩ := id st'
  exact ⟨u, rfl, go_of (s := { s with heap := h' }) e c d (by decide) ⟨x, H, I1, ru, ⟨rfl, fun ys hy => by rw [I.tuple_inj hy hq]; exact hx⟩, st', fun b hb => (hf b hb).1⟩⟩
 done := by
  intro X hP hw hK hc i pins s σ H E I hf st hg
  subst hP hw hK
  obtain ⟨xs, hq, hx⟩ := hg
  obtain ⟨its, rv, p, hz⟩ := I.tuple hq
  obtain ⟨f0, f1, f2, f3, f4, f5⟩ := hf it (by simp)
  have hl := rv.length
  exact wpAny_pyNext_tuple_end (I.ok.hd hc) st (show s.heap.IsTuple a its.toArray from p) (by simp; omega) fun h' eb => ⟨rfl, I.turned (t' := s.toks) (fun b o hb e => eb b o hb e) f0 f1 f3 f4 f5⟩
 self := fun _ _ _ _ _ st h => wpAny_pyIter_tupleiter st h
theorem turn_range {P : Program} {w : World} {K : PySem.W.Frag} {tg : Expr} (it : Addr) (lo : Int) (n : Nat) : Turn P w K tg (Itr lo n) [it] it (fun i h => IsRangeIter h it (lo + (i : Nat) * 1) ((n : Int) - (i : Nat)) 1) where
 mem := by simp
 obj := fun i h st b hb => by
  have e : b = it := by simpa using hb
  subst e
  exact ⟨_, st, fun v z => by
   have z' : Data.fields _ = Data.cell v := z
   cases z'⟩
 keep := fun i h h' st k => k it (by simp) _ st
 item := by
  intro X hP hw hK hc i pins s σ H E I hf st hg
  subst hP hw hK
  obtain ⟨f0, f1, f2, f3, f4, f5⟩ := hf it (by simp)
  have W := Walks.range (prog := X.prog) (w := X.w) (I.ok.hd hc) it lo 1 n
  refine W.item i s _ _ hg st fun v h' tk hv st' kk => ?_
  obtain ⟨t, rfl⟩ := hv
  have I1 : Inv X pins σ H { s with heap := h', toks := tk } := I.turned (fun b o hb e => kk b o (by simpa using hb) e) f0 f1 f3 f4 f5
  refine ⟨_, rfl, go_of (s := { s with heap := h', toks := tk }) (n := "range_iterator") st' rfl rfl (by decide) ⟨.int (lo + i), H, I1, ⟨t, ?_⟩, ⟨rfl, rfl⟩, st', fun b hb => (hf b hb).1⟩⟩
  rw [Int.mul_one]
 done := by
  intro X hP hw hK hc i pins s σ H E I hf st hg
  subst hP hw hK
  obtain ⟨f0, f1, f2, f3, f4, f5⟩ := hf it (by simp)
  exact wpAny_pyNext_range_end (I.ok.hd hc) st (by have : n ≤ i := hg; omega) fun h' eb => ⟨rfl, I.turned (t' := s.toks) (fun b o hb e => eb b o hb e) f0 f1 f3 f4 f5⟩
 self := fun _ _ _ _ _ st h => wpAny_pyIter_rangeiter st h
end L2
namespace L2
open PySem PySem.Spec PyProof.Rows
section
variable {X : Cx} {tg : Expr}
def iList (K : PySem.W.Frag) (tl : TE) : TI := fun σ H R => tl σ H fun x H1 => ∃ a, x = .ref a ∧ (∃ xs, SqL K H1 a xs) ∧ R (Itl K a) H1
def iTup (K : PySem.W.Frag) (tl : TE) : TI := fun σ H R => tl σ H fun x H1 => ∃ a, x = .ref a ∧ (∃ xs, SqT K H1 a xs) ∧ R (Itt K a) H1
theorem pi_list {l : Expr} {tl : TE} (hl : PE X l tl) : PI X tg l (iList X.K tl) := by
 intro pins s σ H R I h
 refine thn (hl pins s σ H _ I h) fun v s1 ⟨x, H1, I1, r1, q1⟩ => ?_
 obtain ⟨a, e, ⟨xs, hq⟩, q⟩ := q1
 subst e
 cases r1
 obtain ⟨its, rv, p, hz⟩ := I1.list hq
 refine wpAny_pyIter_list p.isList ?_
 refine ⟨s1.heap.objs.size, [s1.heap.objs.size], _, _, H1, rfl, I1.kept (t' := s1.toks) fun b o e => Heap.get?_push_of_some _ e, turn_list a _, ⟨_, Heap.get?_push_size _ rfl, rfl, rfl⟩, fun b hb => ?_, q⟩
 have e : b = s1.heap.objs.size := by simpa using hb
 subst e
 exact I1.fpOk (Nat.le_refl _) (I1.hok.fresh (Nat.le_refl _))
theorem pi_tup {l : Expr} {tl : TE} (hl : PE X l tl) : PI X tg l (iTup X.K tl) := by
 intro pins s σ H R I h
 refine thn (hl pins s σ H _ I h) fun v s1 ⟨x, H1, I1, r1, q1⟩ => ?_
 obtain ⟨a, e, ⟨xs, hq⟩, q⟩ := q1
 subst e
 cases r1
 obtain ⟨its, rv, p, hz⟩ := I1.tuple hq
 refine wpAny_pyIter_tuple (show s1.heap.IsTuple a its.toArray from p) ?_
 refine ⟨s1.heap.objs.size, [s1.heap.objs.size], _, _, H1, rfl, I1.kept (t' := s1.toks) fun b o e => Heap.get?_push_of_some _ e, turn_tuple a _, ⟨_, Heap.get?_push_size _ rfl, rfl, rfl⟩, fun b hb => ?_, q⟩
 have e : b = s1.heap.objs.size := by simpa using hb
 subst e
 exact I1.fpOk (Nat.le_refl _) (I1.hok.fresh (Nat.le_refl _))
theorem range_it {pins : List (Addr × Obj)} {σ : St} {H : Hp} {s : Shared} {R : It → Hp → Prop} {E : Value → Shared → Prop} {lo hi : Int} {t u v : Tok} {tk : Nat} (I : Inv X pins σ H s) (h1 : -(2 ^ 62) ≤ lo) (h2 : lo < 2 ^ 62) (h3 : -(2 ^ 62) ≤ hi) (h4 : hi < 2 ^ 62)
  (q : R (Itr lo (hi - lo).toNat) H) : wpAny (model X.prog X.w) X.A (pyIter (.ref s.heap.objs.size)) (PIE X pins σ tg R) E { s with heap := s.heap.push { cls := .type "range", data := .fields #[.int lo t, .int hi u, .int 1 v] }, toks := tk } := by
 refine wpAny_pyIter_range (IsRange.new ..) (small_one h1 h2 h3 h4) ?_
 have I1 : Inv X pins σ H { s with heap := s.heap.push { cls := .type "range", data := .fields #[.int lo t, .int hi u, .int 1 v] }, toks := tk } := I.kept fun b o e => Heap.get?_push_of_some _ e
 refine ⟨(s.heap.push { cls := .type "range", data := .fields #[.int lo t, .int hi u, .int 1 v] }).objs.size, [(s.heap.push { cls := .type "range", data := .fields #[.int lo t, .int hi u, .int 1 v] }).objs.size], _, _, H, rfl,
  I1.kept (t' := tk) fun b o e => Heap.get?_push_of_some _ e, turn_range _ lo (hi - lo).toNat, ?_, fun b hb => ?_, q⟩
 ·have e1 : lo + ((0 : Nat) : Int) * 1 = lo := by simp
  have e2 : (((hi - lo).toNat : Nat) : Int) - ((0 : Nat) : Int) = Builtin.Range.rangeSize lo hi 1 := by rw [rangeSize_one]; split <;> omega
  show IsRangeIter _ _ (lo + ((0 : Nat) : Int) * 1) ((((hi - lo).toNat : Nat) : Int) - ((0 : Nat) : Int)) 1
  rw [e1, e2]
  exact Heap.get?_push_size _ rfl
 ·have e : b = (s.heap.push { cls := .type "range", data := .fields #[.int lo t, .int hi u, .int 1 v] }).objs.size := by simpa using hb
  subst e
  exact I1.fpOk (Nat.le_refl _) (I1.hok.fresh (Nat.le_refl _))
def iRng1 (ta : TA) : TI := fun σ H R => ta σ H fun vs H1 => ∃ j : Int, vs = [.int j] ∧ -(2 ^ 62) ≤ j ∧ j < 2 ^ 62 ∧ R (Itr 0 j.toNat) H1
def iRng2 (ta : TA) : TI := fun σ H R => ta σ H fun vs H1 => ∃ i j : Int, vs = [.int i, .int j] ∧ (-(2 ^ 62) ≤ i ∧ i < 2 ^ 62 ∧ -(2 ^ 62) ≤ j ∧ j < 2 ^ 62) ∧ R (Itr i (j - i).toNat) H1
theorem pi_range1 {a : Expr} {ta : TA} {p pos : Pos} (hg : Gl X "range") (hm : X.mg "range" = none) (ha : PA X [a] ta) (hs : starEach [a] X.env = [(false, eval a X.env)] := by rfl) : PI X tg (.Call (.Name "range" p) [a] [] pos) (iRng1 ta) := by
 intro pins s σ H R I h
 refine Call_ (ld_blt I hg hm boot_range (PyProof.Rows.callWith_type1 (thn (ha pos pins s σ H _ I h) fun us s1 ⟨vs, H1, I1, r1, q1⟩ => ?_) hs rfl))
 obtain ⟨j, e, q1, q2, q⟩ := q1
 subst e
 cases r1 with
 | cons r rr =>
  cases rr
  obtain ⟨t, rfl⟩ := r
  exact call_range_1 (range_it I1 (by omega) (by omega) q1 q2 (by simpa using q))
theorem pi_range2 {a b : Expr} {ta : TA} {p pos : Pos} (hg : Gl X "range") (hm : X.mg "range" = none) (ha : PA X [a, b] ta) (hs : starEach [a, b] X.env = [(false, eval a X.env), (false, eval b X.env)] := by rfl) (hs2 : starEach [b] X.env = [(false, eval b X.env)] := by rfl) :
  PI X tg (.Call (.Name "range" p) [a, b] [] pos) (iRng2 ta) := by
 intro pins s σ H R I h
 refine Call_ (ld_blt I hg hm boot_range (PyProof.Rows.callWith_type1 (thn (ha pos pins s σ H _ I h) fun us s1 ⟨vs, H1, I1, r1, q1⟩ => ?_) (by rw [hs, hs2]) (by rw [hs2]; rfl)))
 obtain ⟨i, j, e, ⟨q1, q2, q3, q4⟩, q⟩ := q1
 subst e
 cases r1 with
 | cons r rr =>
  cases rr with
  | cons r' rr =>
   cases rr
   obtain ⟨t, rfl⟩ := r
   obtain ⟨t', rfl⟩ := r'
   exact call_range_2 (range_it I1 q1 q2 q3 q4 q)
def tFor (wi : TI) (g : TG) (tb : TS) : TS := fun D σ H => wi σ H fun J H1 => ∃ W : Nat → Nat → St → Hp → Prop, (∃ m, W 0 m σ H1) ∧ ∀ i m σ H, W i m σ H →
 (J.stop i H ∧ D.nx σ H) ∨ (J.go i H ∧ ∃ N : St → Hp → Prop, (∀ σ' H', N σ' H' → ∃ m', m' < m ∧ W (i + 1) m' σ' H') ∧ ∀ x H', J.yld i H x H' → g x σ H' fun σ2 H2 => tb { D with nx := N, ct := N, bk := D.nx } σ2 H2)
def pinsAt (fp : List Addr) (h : Heap) : List (Addr × Obj) := fp.filterMap fun b => (h.get? b).map fun o => (b, o)
theorem mem_pinsAt {fp : List Addr} {h : Heap} {b : Addr} {o : Obj} (hb : b ∈ fp) (e : h.get? b = some o) : (b, o) ∈ pinsAt fp h := List.mem_filterMap.mpr ⟨b, hb, by rw [e]; rfl⟩
theorem of_pinsAt {fp : List Addr} {h : Heap} {p : Addr × Obj} (hp : p ∈ pinsAt fp h) : p.1 ∈ fp ∧ h.get? p.1 = some p.2 := by
 obtain ⟨b, hb, e⟩ := List.mem_filterMap.mp hp
 cases q : h.get? b with
 | none => rw [q] at e; cases e
 | some o =>
  rw [q] at e
  have e' : (b, o) = p := Option.some.inj e
  subst e'
  exact ⟨hb, q⟩
theorem Inv.pinned {pins : List (Addr × Obj)} {σ : St} {H : Hp} {s : Shared} {fp : List Addr} (I : Inv X pins σ H s) (hf : ∀ b ∈ fp, FpOk X pins H b) (ho : ∀ b ∈ fp, ∃ o, s.heap.get? b = some o ∧ ∀ v, o.data ≠ .cell v) : Inv X (pins ++ pinsAt fp s.heap) σ H s :=
 I.pins_of fun p hp => (List.mem_append.mp hp).elim (fun z => I.pin p (List.mem_append_right _ z)) fun z => by
  obtain ⟨hb, e⟩ := of_pinsAt z
  obtain ⟨f0, f1, f2, _⟩ := hf p.1 hb
  obtain ⟨o, e', d⟩ := ho p.1 hb
  rw [e] at e'; cases e'
  exact ⟨e, f0, f1, f2, d⟩
theorem Inv.unpinned {pins pl : List (Addr × Obj)} {σ : St} {H : Hp} {s : Shared} (I : Inv X (pins ++ pl) σ H s) : Inv X pins σ H s := I.pins_of fun p hp => I.pin p (List.mem_append_right _ (List.mem_append_left _ hp))
theorem ps_for {iter : Expr} {body : List Stmt} {wi : TI} {g : TG} {tb : TS} {pos : Pos} (hp : PassesOwn (model X.prog X.w) X.A X.env X.xe) (hc : X.calm = true) (hi : PI X tg iter wi) (hg : PG X tg g) (hb : PSs X body tb)
  (hs : ∀ x, foldedSetIterable iter X.env x = pure x := by intro _; rfl) : PS X (.For tg iter body [] pos) (tFor wi g tb) := by
 intro pins s σ H D I h
 refine wpAny_For (thn (hi pins s σ H _ I h) fun v s1 h1 => thn h1 fun itv s2 h2 => ?_) hs
 obtain ⟨it, fp, tn, J, H2, e, I2, T, st2, f2, W, ⟨m0, w0⟩, turn⟩ := h2
 subst e
 have stat : ∀ {H' : Hp}, (∀ b ∈ fp, H' b = none) → ∀ b ∈ fp, FpOk X pins H' b := fun hn b hb => ⟨hn b hb, (f2 b hb).2⟩
 refine codeAny_forLoop_any (fun n s' => ∃ i σ' H', Inv X pins σ' H' s' ∧ tn i s'.heap ∧ (∀ b ∈ fp, H' b = none) ∧ W i n σ' H') ?_ m0 ⟨0, σ, H2, I2, st2, fun b hb => (f2 b hb).1, w0⟩
 rintro n s3 ⟨i, σ3, H3, I3, st3, fr3, w3⟩
 rcases turn i n σ3 H3 w3 with ⟨stop, qn⟩ | ⟨go, N, hN, step⟩
 ·refine wpAny_passesOwn hp (thn (T.done X rfl rfl rfl hc i pins s3 σ3 H3 X.xe I3 (stat fr3) st3 stop) fun r s4 ⟨hr, I4⟩ => ?_)
  subst hr
  exact wpAny_execs_nil ⟨σ3, H3, I4, qn⟩
 ·refine wpAny_passesOwn hp (thn (T.item X rfl rfl rfl hc i pins s3 σ3 H3 X.xe I3 (stat fr3) st3 go) fun r s4 ⟨u, hr, h4⟩ => ?_)
  subst hr
  refine wpAny_passesOwn hp (thn h4 fun _ s5 ⟨x, H5, I5, r5, y5, st5, fr5⟩ => ?_)
  have I5' := I5.pinned (stat fr5) (T.obj _ _ st5)
  refine wpAny_passesOwn hp (thn (hg _ s5 σ3 H5 x u _ I5' r5 (step x H5 y5)) fun _ s6 ⟨σ6, H6, I6, q6⟩ => ?_)
  refine wpAny_passesOwn hp (thn (hb _ s6 σ6 H6 _ I6 q6) fun f s7 q7 => ?_)
  have again : ∀ {σ7 : St} {H7 : Hp}, Inv X (pins ++ pinsAt fp s5.heap) σ7 H7 s7 → N σ7 H7 → ∃ m, m < n ∧ ∃ i σ' H', Inv X pins σ' H' s7 ∧ tn i s7.heap ∧ (∀ b ∈ fp, H' b = none) ∧ W i m σ' H' := fun {σ7 H7} I7 n7 => by
   obtain ⟨m', hm, w7⟩ := hN σ7 H7 n7
   refine ⟨m', hm, i + 1, σ7, H7, I7.unpinned, T.keep _ _ _ st5 fun b hb o e => (I7.pin (b, o) (List.mem_append_right _ (List.mem_append_right _ (mem_pinsAt hb e)))).1, fun b hb => ?_, w7⟩
   obtain ⟨o, e, d⟩ := T.obj _ _ st5 b hb
   exact (I7.pin (b, o) (List.mem_append_right _ (List.mem_append_right _ (mem_pinsAt hb e)))).2.1
  cases f with
  | next => obtain ⟨σ7, H7, I7, n7⟩ := q7; exact again I7 n7
  | cont => obtain ⟨σ7, H7, I7, n7⟩ := q7; exact again I7 n7
  | brk => obtain ⟨σ7, H7, I7, q7⟩ := q7; exact ⟨σ7, H7, I7.unpinned, q7⟩
  | ret v => obtain ⟨x7, σ7, H7, I7, r7, q7⟩ := q7; exact ⟨x7, σ7, H7, I7.unpinned, r7, q7⟩
end
theorem for_list {K : PySem.W.Frag} {a : Addr} {xs : List V} {g : TG} {tb : TS} {D : Ends} {σ : St} {H : Hp} (Pv : Nat → St → Hp → Prop) (h0 : Pv 0 σ H) (hl : ∀ i σ H, i ≤ xs.length → Pv i σ H → SqL K H a xs)
  (hs : ∀ i x σ H, xs[i]? = some x → Pv i σ H → g x σ H fun σ2 H2 => tb { D with nx := Pv (i + 1), ct := Pv (i + 1), bk := D.nx } σ2 H2) (hd : ∀ σ H, Pv xs.length σ H → D.nx σ H) :
  ∃ W : Nat → Nat → St → Hp → Prop, (∃ m, W 0 m σ H) ∧ ∀ i m σ H, W i m σ H →
   ((Itl K a).stop i H ∧ D.nx σ H) ∨ ((Itl K a).go i H ∧ ∃ N : St → Hp → Prop, (∀ σ' H', N σ' H' → ∃ m', m' < m ∧ W (i + 1) m' σ' H') ∧ ∀ x H', (Itl K a).yld i H x H' → g x σ H' fun σ2 H2 => tb { D with nx := N, ct := N, bk := D.nx } σ2 H2) := by
 refine ⟨fun i m σ H => m = xs.length - i ∧ i ≤ xs.length ∧ Pv i σ H, ⟨xs.length, by simp, Nat.zero_le _, h0⟩, ?_⟩
 rintro i m σ H ⟨rfl, hi, p⟩
 have q := hl i σ H hi p
 by_cases hlt : i < xs.length
 ·refine .inr ⟨⟨xs, xs[i], q, by simp [hlt]⟩, Pv (i + 1), fun σ' H' p' => ⟨xs.length - (i + 1), by omega, rfl, hlt, p'⟩, fun x H' y => ?_⟩
  obtain ⟨e, y⟩ := y
  subst e
  exact hs i x σ _ (y xs q) p
 ·have e : i = xs.length := by omega
  subst e
  exact .inl ⟨⟨xs, q, Nat.le_refl _⟩, hd σ H p⟩
theorem for_range {lo : Int} {n : Nat} {g : TG} {tb : TS} {D : Ends} {σ : St} {H : Hp} (Pv : Nat → St → Hp → Prop) (h0 : Pv 0 σ H)
  (hs : ∀ i σ H, i < n → Pv i σ H → g (.int (lo + i)) σ H fun σ2 H2 => tb { D with nx := Pv (i + 1), ct := Pv (i + 1), bk := D.nx } σ2 H2) (hd : ∀ σ H, Pv n σ H → D.nx σ H) :
  ∃ W : Nat → Nat → St → Hp → Prop, (∃ m, W 0 m σ H) ∧ ∀ i m σ H, W i m σ H →
   ((Itr lo n).stop i H ∧ D.nx σ H) ∨ ((Itr lo n).go i H ∧ ∃ N : St → Hp → Prop, (∀ σ' H', N σ' H' → ∃ m', m' < m ∧ W (i + 1) m' σ' H') ∧ ∀ x H', (Itr lo n).yld i H x H' → g x σ H' fun σ2 H2 => tb { D with nx := N, ct := N, bk := D.nx } σ2 H2) := by
 refine ⟨fun i m σ H => m = n - i ∧ i ≤ n ∧ Pv i σ H, ⟨n, by simp, Nat.zero_le _, h0⟩, ?_⟩
 rintro i m σ H ⟨rfl, hi, p⟩
 by_cases hlt : i < n
 ·refine .inr ⟨hlt, Pv (i + 1), fun σ' H' p' => ⟨n - (i + 1), by omega, rfl, hlt, p'⟩, fun x H' y => ?_⟩
  obtain ⟨e, y⟩ := y
  subst e y
  exact hs i σ _ hlt p
 ·have e : i = n := by omega
  subst e
  exact .inl ⟨Nat.le_refl _, hd σ H p⟩
end L2
namespace L2
open PySem PySem.Spec PyProof.Rows
abbrev R2 := V → V → Hp → VK → Prop
def OpR (X : Cx) (f : Value → Value → Sem Value) (r : R2) : Prop :=
 ∀ (pins : List (Addr × Obj)) (s : Shared) (σ : St) (H : Hp) (x y : V) (v u : Value) (Q : VK), Inv X pins σ H s → RelV x v → RelV y u → r x y H Q →
  wpAny (model X.prog X.w) X.A (f v u) (EP X pins σ Q) X.xe s
def UnR (X : Cx) (f : Value → Sem Value) (r : V → Hp → VK → Prop) : Prop :=
 ∀ (pins : List (Addr × Obj)) (s : Shared) (σ : St) (H : Hp) (x : V) (v : Value) (Q : VK), Inv X pins σ H s → RelV x v → r x H Q →
  wpAny (model X.prog X.w) X.A (f v) (EP X pins σ Q) X.xe s
def CallR (X : Cx) (f : Value) (r : List V → Hp → VK → Prop) : Prop :=
 ∀ (pins : List (Addr × Obj)) (s : Shared) (σ : St) (H : Hp) (xs : List V) (us : List Value) (Q : VK), Inv X pins σ H s → Vals xs us → r xs H Q →
  wpAny (model X.prog X.w) X.A (call f us) (EP X pins σ Q) X.xe s
def TruR (X : Cx) (r : V → Hp → (Bool → Hp → Prop) → Prop) : Prop :=
 ∀ (pins : List (Addr × Obj)) (s : Shared) (σ : St) (H : Hp) (x : V) (v : Value) (Q : Bool → Hp → Prop), Inv X pins σ H s → RelV x v → r x H Q →
  wpAny (model X.prog X.w) X.A (truthy v) (TP X pins σ Q) X.xe s
def tOp (r : R2) (ta tb : TE) : TE := fun σ H Q => ta σ H fun x H1 => tb σ H1 fun y H2 => r x y H2 Q
def tUn (r : V → Hp → VK → Prop) (ta : TE) : TE := fun σ H Q => ta σ H fun x H1 => r x H1 Q
def rI (C : Int → Int → Prop) (g : Int → Int → V) : R2 := fun x y H Q => ∃ i j, x = .int i ∧ y = .int j ∧ C i j ∧ Q (g i j) H
def rI0 (g : Int → Int → V) : R2 := fun x y H Q => ∃ i j, x = .int i ∧ y = .int j ∧ Q (g i j) H
def rU (g : Int → V) : V → Hp → VK → Prop := fun x H Q => ∃ i, x = .int i ∧ Q (g i) H
section
variable {X : Cx} {a b c : Expr} {ta tb tc : TE} {pos : Pos}
theorem binT (ha : PE X a ta) (hb : PE X b tb) {pins : List (Addr × Obj)} {s : Shared} {σ : St} {H : Hp} {R : V → V → Hp → Prop} (I : Inv X pins σ H s)
  (h : ta σ H fun x H1 => tb σ H1 fun y H2 => R x y H2) {Q : Value → Shared → Prop} {f : Value → Value → Sem Value}
  (hf : ∀ v u s2 x y H2, Inv X pins σ H2 s2 → RelV x v → RelV y u → R x y H2 → wpAny (model X.prog X.w) X.A (f v u) Q X.xe s2) :
  wpAny (model X.prog X.w) X.A (eval a X.env) (fun v s₁ => wpAny (model X.prog X.w) X.A (eval b X.env) (fun u s₂ => wpAny (model X.prog X.w) X.A (f v u) Q X.xe s₂) X.xe s₁) X.xe s := by
 refine thn (ha pins s σ H _ I h) fun v s1 ⟨x, H1, I1, r1, q1⟩ => ?_
 refine thn (hb pins s1 σ H1 _ I1 q1) fun u s2 ⟨y, H2, I2, r2, q2⟩ => ?_
 exact hf v u s2 x y H2 I2 r1 r2 q2
theorem pe_op {op : Operator} {r : R2} (ho : OpR X (binaryOp op) r) (ha : PE X a ta) (hb : PE X b tb) : PE X (.BinOp a op b pos) (tOp r ta tb) := by
 intro pins s σ H Q I h
 exact wpAny_BinOp (binT ha hb I h fun v u s2 x y H2 I2 rx ry q => ho pins s2 σ H2 x y v u Q I2 rx ry q)
theorem pe_un {op : UnaryOp} {r : V → Hp → VK → Prop} (ho : UnR X (unaryOp op) r) (ha : PE X a ta) : PE X (.UnaryOp op a pos) (tUn r ta) := by
 intro pins s σ H Q I h
 exact UnaryOp_ (thn (ha pins s σ H _ I h) fun v s1 ⟨x, H1, I1, r1, q1⟩ => ho pins s1 σ H1 x v Q I1 r1 q1)
theorem opI {f : Value → Value → Sem Value} {C : Int → Int → Prop} {g : Int → Int → Int}
  (rule : ∀ (i j : Int) (t u : Tok) (s : Shared) (Q : Value → Shared → Prop) (E : Value → Shared → Prop), C i j → Q (.int (g i j) s.toks) { s with toks := s.toks + 1 } → wpAny (model X.prog X.w) X.A (f (.int i t) (.int j u)) Q E s) :
  OpR X f (rI C fun i j => .int (g i j)) := by
 intro pins s σ H x y v u Q I rx ry h
 obtain ⟨i, j, rfl, rfl, hc, q⟩ := h
 obtain ⟨t, rfl⟩ := rx
 obtain ⟨t', rfl⟩ := ry
 exact rule i j t t' s _ _ hc ⟨.int (g i j), H, I.tok _, ⟨_, rfl⟩, q⟩
theorem opI0 {f : Value → Value → Sem Value} {g : Int → Int → Int}
  (rule : ∀ (i j : Int) (t u : Tok) (s : Shared) (Q : Value → Shared → Prop) (E : Value → Shared → Prop), Q (.int (g i j) s.toks) { s with toks := s.toks + 1 } → wpAny (model X.prog X.w) X.A (f (.int i t) (.int j u)) Q E s) :
  OpR X f (rI0 fun i j => .int (g i j)) := by
 intro pins s σ H x y v u Q I rx ry h
 obtain ⟨i, j, rfl, rfl, q⟩ := h
 obtain ⟨t, rfl⟩ := rx
 obtain ⟨t', rfl⟩ := ry
 exact rule i j t t' s _ _ ⟨.int (g i j), H, I.tok _, ⟨_, rfl⟩, q⟩
theorem opB0 {f : Value → Value → Sem Value} {g : Int → Int → Bool}
  (rule : ∀ (i j : Int) (t u : Tok) (s : Shared) (Q : Value → Shared → Prop) (E : Value → Shared → Prop), Q (.bool (g i j)) s → wpAny (model X.prog X.w) X.A (f (.int i t) (.int j u)) Q E s) :
  OpR X f (rI0 fun i j => .bl (g i j)) := by
 intro pins s σ H x y v u Q I rx ry h
 obtain ⟨i, j, rfl, rfl, q⟩ := h
 obtain ⟨t, rfl⟩ := rx
 obtain ⟨t', rfl⟩ := ry
 exact rule i j t t' s _ _ ⟨.bl (g i j), H, I, rfl, q⟩
def CDiv (i j : Int) : Prop := 0 < j ∧ j < 1073741824
def CPow (i j : Int) : Prop := 0 ≤ j ∧ j ≤ 1000000 ∧ i.natAbs < 2 ^ 64
def CMul (i j : Int) : Prop := (-(2 ^ 64) < i ∧ i < 2 ^ 64) ∨ (-(2 ^ 64) < j ∧ j < 2 ^ 64)
theorem CMul.ok {i j : Int} (h : CMul i j) : IntMulOk i j := by
 rcases h with ⟨h1, h2⟩ | ⟨h1, h2⟩
 ·exact .of_left (intBits_le_64 h1 h2)
 ·exact .of_right (intBits_le_64 h1 h2)
theorem op_add : OpR X (binaryOp .Add) (rI0 fun i j => .int (i + j)) := opI0 fun _ _ _ _ _ _ _ q => add_int q
theorem op_sub : OpR X (binaryOp .Sub) (rI0 fun i j => .int (i - j)) := opI0 fun _ _ _ _ _ _ _ q => sub_int q
theorem op_mul : OpR X (binaryOp .Mult) (rI CMul fun i j => .int (i * j)) := opI fun _ _ _ _ _ _ _ hc q => mul_int q hc.ok
theorem op_fdiv : OpR X (binaryOp .FloorDiv) (rI CDiv fun i j => .int (i / j)) := opI fun i j _ _ _ _ _ hc q => by
 have h1 : (0 : Int) < j := hc.1
 have h2 : j < 1073741824 := hc.2
 exact floordiv_int (by omega) (by rw [Int.fdiv_eq_ediv_of_nonneg i (by omega)]; exact q) (.inl (PyProof.noPylong_small (by omega)))
theorem op_mod : OpR X (binaryOp .Mod) (rI (fun _ j => 0 < j) fun i j => .int (i % j)) := opI fun i j _ _ _ _ _ hc q => by
 have h1 : (0 : Int) < j := hc
 exact mod_int' (by omega) (by rw [Int.fmod_eq_emod_of_nonneg i (by omega)]; exact q)
theorem op_pow : OpR X (binaryOp .Pow) (rI CPow fun i j => .int (i ^ j.toNat)) := opI fun _ _ _ _ _ _ _ hc q => pow_int_small hc.1 hc.2.1 hc.2.2 q
theorem unI {f : Value → Sem Value} {g : Int → Int}
  (rule : ∀ (i : Int) (t : Tok) (s : Shared) (Q : Value → Shared → Prop) (E : Value → Shared → Prop), Q (.int (g i) s.toks) { s with toks := s.toks + 1 } → wpAny (model X.prog X.w) X.A (f (.int i t)) Q E s) :
  UnR X f (rU fun i => .int (g i)) := by
 intro pins s σ H x v Q I rx h
 obtain ⟨i, rfl, q⟩ := h
 obtain ⟨t, rfl⟩ := rx
 exact rule i t s _ _ ⟨.int (g i), H, I.tok _, ⟨_, rfl⟩, q⟩
theorem un_neg : UnR X (unaryOp .USub) (rU fun i => .int (-i)) := unI fun _ _ _ _ _ q => neg_int q
end
def scal : V → V → Bool
 | .non, .non => true | .non, .int _ => true | .int _, .non => true | .non, .bl _ => true | .bl _, .non => true | .non, .str _ => true | .str _, .non => true
 | .int _, .int _ => true | .bl _, .bl _ => true | .str _, .str _ => true | .byt _, .byt _ => true
 | .int _, .str _ => true | .str _, .int _ => true | .bl _, .str _ => true | .str _, .bl _ => true
 | _, _ => false
def rEq : R2 := fun x y H Q => scal x y = true ∧ Q (.bl (decide (x = y))) H
def rNe : R2 := fun x y H Q => scal x y = true ∧ Q (.bl (!decide (x = y))) H
theorem dec_int {i j : Int} : decide (V.int i = V.int j) = (i == j) := by
 rw [Bool.eq_iff_iff]
 simp
theorem dec_bl {i j : Bool} : decide (V.bl i = V.bl j) = (i == j) := by
 rw [Bool.eq_iff_iff]
 simp
theorem dec_str {i j : Str} : decide (V.str i = V.str j) = (i == j) := by
 rw [Bool.eq_iff_iff]
 simp
theorem dec_byt {i j : Array UInt8} : decide (V.byt i = V.byt j) = (i.toList == j.toList) := by
 rw [Bool.eq_iff_iff]
 cases i
 cases j
 simp
section
variable {X : Cx} {a b c : Expr} {ta tb tc : TE} {pos : Pos}
theorem fin_bl {pins : List (Addr × Obj)} {σ : St} {H : Hp} {s : Shared} {Q : VK} {k k' : Bool} (I : Inv X pins σ H s) (q : Q (.bl k) H) (e : k = k') : EP X pins σ Q (.bool k') s := by
 subst e
 exact ⟨.bl k, H, I, rfl, q⟩
theorem op_eq : OpR X (compareOp .Eq) rEq := by
 intro pins s σ H x y v u Q I rx ry h
 obtain ⟨hs, q⟩ := h
 cases x with
 | non =>
  cases rx
  cases y with
  | non => cases ry; exact PySem.EqNone.eq_none_none (fin_bl I q (by simp))
  | bl j => cases ry; exact PySem.EqNone.eq_none_bool (fin_bl I q (by simp))
  | int j => obtain ⟨t', rfl⟩ := ry; exact PySem.EqNone.eq_none_int (fin_bl I q (by simp))
  | str j => obtain ⟨t', rfl⟩ := ry; exact PySem.EqNone.eq_none_str (fin_bl I q (by simp))
  | _ => exact absurd (show false = true from hs) Bool.false_ne_true
 | bl i =>
  cases rx
  cases y with
  | non => cases ry; exact PySem.EqNone.eq_bool_none (fin_bl I q (by simp))
  | bl j => cases ry; exact eq_bool (fin_bl I q dec_bl)
  | str j => obtain ⟨t', rfl⟩ := ry; exact PySem.EqMixed.eq_bool_str (fin_bl I q (by simp))
  | _ => exact absurd (show false = true from hs) Bool.false_ne_true
 | int i =>
  obtain ⟨t, rfl⟩ := rx
  cases y with
  | non => cases ry; exact PySem.EqNone.eq_int_none (fin_bl I q (by simp))
  | int j => obtain ⟨t', rfl⟩ := ry; exact eq_int (fin_bl I q dec_int)
  | str j => obtain ⟨t', rfl⟩ := ry; exact PySem.EqMixed.eq_int_str (fin_bl I q (by simp))
  | _ => exact absurd (show false = true from hs) Bool.false_ne_true
 | str i =>
  obtain ⟨t, rfl⟩ := rx
  cases y with
  | non => cases ry; exact PySem.EqNone.eq_str_none (fin_bl I q (by simp))
  | bl j => cases ry; exact PySem.EqMixed.eq_str_bool (fin_bl I q (by simp))
  | int j => obtain ⟨t', rfl⟩ := ry; exact PySem.EqMixed.eq_str_int (fin_bl I q (by simp))
  | str j => obtain ⟨t', rfl⟩ := ry; exact eq_str (fin_bl I q dec_str)
  | _ => exact absurd (show false = true from hs) Bool.false_ne_true
 | byt i =>
  obtain ⟨t, rfl⟩ := rx
  cases y with
  | byt j => obtain ⟨t', rfl⟩ := ry; exact PySem.W.eq_bytes (fin_bl I q dec_byt)
  | _ => exact absurd (show false = true from hs) Bool.false_ne_true
 | _ => cases y <;> exact absurd (show false = true from hs) Bool.false_ne_true
theorem op_ne : OpR X (compareOp .NotEq) rNe := by
 intro pins s σ H x y v u Q I rx ry h
 obtain ⟨hs, q⟩ := h
 cases x with
 | non =>
  cases rx
  cases y with
  | non => cases ry; exact PySem.EqNone.ne_none_none (fin_bl I q (by simp))
  | bl j => cases ry; exact PySem.EqNone.ne_none_bool (fin_bl I q (by simp))
  | int j => obtain ⟨t', rfl⟩ := ry; exact PySem.EqNone.ne_none_int (fin_bl I q (by simp))
  | str j => obtain ⟨t', rfl⟩ := ry; exact PySem.EqNone.ne_none_str (fin_bl I q (by simp))
  | _ => exact absurd (show false = true from hs) Bool.false_ne_true
 | bl i =>
  cases rx
  cases y with
  | non => cases ry; exact PySem.EqNone.ne_bool_none (fin_bl I q (by simp))
  | bl j => cases ry; exact ne_bool (fin_bl I q (congrArg not dec_bl))
  | str j => obtain ⟨t', rfl⟩ := ry; exact PySem.EqMixed.ne_bool_str (fin_bl I q (by simp))
  | _ => exact absurd (show false = true from hs) Bool.false_ne_true
 | int i =>
  obtain ⟨t, rfl⟩ := rx
  cases y with
  | non => cases ry; exact PySem.EqNone.ne_int_none (fin_bl I q (by simp))
  | int j => obtain ⟨t', rfl⟩ := ry; exact ne_int (fin_bl I q (congrArg not dec_int))
  | str j => obtain ⟨t', rfl⟩ := ry; exact PySem.EqMixed.ne_int_str (fin_bl I q (by simp))
  | _ => exact absurd (show false = true from hs) Bool.false_ne_true
 | str i =>
  obtain ⟨t, rfl⟩ := rx
  cases y with
  | non => cases ry; exact PySem.EqNone.ne_str_none (fin_bl I q (by simp))
  | bl j => cases ry; exact PySem.EqMixed.ne_str_bool (fin_bl I q (by simp))
  | int j => obtain ⟨t', rfl⟩ := ry; exact PySem.EqMixed.ne_str_int (fin_bl I q (by simp))
  | str j => obtain ⟨t', rfl⟩ := ry; exact ne_str (fin_bl I q (congrArg not dec_str))
  | _ => exact absurd (show false = true from hs) Bool.false_ne_true
 | byt i =>
  obtain ⟨t, rfl⟩ := rx
  cases y with
  | byt j => obtain ⟨t', rfl⟩ := ry; exact PySem.W.ne_bytes (fin_bl I q (congrArg not dec_byt))
  | _ => exact absurd (show false = true from hs) Bool.false_ne_true
 | _ => cases y <;> exact absurd (show false = true from hs) Bool.false_ne_true
theorem op_lt : OpR X (compareOp .Lt) (rI0 fun i j => .bl (decide (i < j))) := opB0 fun _ _ _ _ _ _ _ q => lt_int q
theorem op_le : OpR X (compareOp .LtE) (rI0 fun i j => .bl (decide (i ≤ j))) := opB0 fun _ _ _ _ _ _ _ q => le_int q
theorem op_gt : OpR X (compareOp .Gt) (rI0 fun i j => .bl (decide (j < i))) := opB0 fun _ _ _ _ _ _ _ q => gt_int q
theorem op_ge : OpR X (compareOp .GtE) (rI0 fun i j => .bl (decide (j ≤ i))) := opB0 fun _ _ _ _ _ _ _ q => ge_int q
theorem op_notN : OpR X (compareOp .IsNot) (fun x y H Q => y = .non ∧ Q (.bl (!decide (x = .non))) H) := by
 intro pins s σ H x y v u Q I rx ry h
 obtain ⟨rfl, q⟩ := h
 cases ry
 refine isnot_none_gen (fin_bl I q ?_)
 cases x <;> first
  | (cases rx; rfl)
  | (obtain ⟨t, rfl⟩ := rx; rfl)
theorem nomark (b : Expr) {op : CmpOp} (h : op ≠ .In := by decide) (h2 : op ≠ .NotIn := by decide) : behindInMarks op b = false := by
 have e1 : (op == CmpOp.In) = false := by cases op <;> first | rfl | exact absurd rfl h
 have e2 : (op == CmpOp.NotIn) = false := by cases op <;> first | rfl | exact absurd rfl h2
 cases b <;> simp [behindInMarks, e1, e2]
theorem pe_cmpR {op : CmpOp} {r : R2} (ho : OpR X (compareOp op) r) (ha : PE X a ta) (hb : PE X b tb) (hm : behindInMarks op b = false) : PE X (.Compare a [op] [b] pos) (tOp r ta tb) := by
 intro pins s σ H Q I h
 exact wpAny_Compare1 (binT ha hb I h fun v u s2 x y H2 I2 rx ry q => ho pins s2 σ H2 x y v u Q I2 rx ry q) hm
def tTest (t : TE) : TT := fun σ H Q => t σ H fun x H' => ∃ k, x = .bl k ∧ Q k H'
theorem pt_cmpR {op : CmpOp} {r : R2} (ho : OpR X (compareOp op) r) (ha : PE X a ta) (hb : PE X b tb) (hm : behindInMarks op b = false) : PT X (.Compare a [op] [b] pos) (tTest (tOp r ta tb)) := by
 intro pins s σ H Q I h
 refine wpAny_isTrue_Compare1 (thn (ha pins s σ H _ I h) fun v s1 ⟨x, H1, I1, r1, q1⟩ => thn (hb pins s1 σ H1 _ I1 q1) fun u s2 ⟨y, H2, I2, r2, q2⟩ =>
  thn (ho pins s2 σ H2 x y v u _ I2 r1 r2 q2) fun c s3 ⟨z, H3, I3, r3, k, e, q3⟩ => ?_) hm
 subst e
 cases r3
 exact wpAny_truthy_bool ⟨H3, I3, q3⟩
def tChain (r r' : R2) (ta tb tc : TE) : TE := fun σ H Q => ta σ H fun x H1 => tb σ H1 fun y H2 => r x y H2 fun z H3 => ∃ k, z = .bl k ∧
 (if k = true then tc σ H3 fun w' H4 => r' y w' H4 Q else Q (.bl false) H3)
theorem pe_chain {op op' : CmpOp} {r r' : R2} (ho : OpR X (compareOp op) r) (ho' : OpR X (compareOp op') r') (ha : PE X a ta) (hb : PE X b tb) (hc : PE X c tc)
  (hm : lastMarks [op, op'] [b, c] = false := by with_unfolding_all rfl) : PE X (.Compare a [op, op'] [b, c] pos) (tChain r r' ta tb tc) := by
 intro pins s σ H Q I h
 refine Compare_chain (thn (ha pins s σ H _ I h) fun v s1 ⟨x, H1, I1, r1, q1⟩ => chain_link (thn (hb pins s1 σ H1 _ I1 q1) fun u s2 ⟨y, H2, I2, r2, q2⟩ =>
  thn (ho pins s2 σ H2 x y v u _ I2 r1 r2 q2) fun d s3 ⟨z, H3, I3, r3, k, e, q3⟩ => ?_)) hm
 subst e
 cases r3
 refine wpAny_truthy_bool ?_
 cases k with
 | false => exact ite_ff ⟨.bl false, H3, I3, rfl, q3⟩
 | true => exact ite_tt (chain_last (thn (hc pins s3 σ H3 _ I3 q3) fun w' s4 ⟨z', H4, I4, r4, q4⟩ => ho' pins s4 σ H4 y z' u w' Q I4 r2 r4 q4))
def TruV (K : PySem.W.Frag) (x : V) (H : Hp) (k : Bool) : Prop :=
 match x with
 | .non => k = false
 | .bl b => k = b
 | .int i => k = (i != 0)
 | .str y => y.length ≤ sizeLine ∧ k = ((y.length : Int) != 0)
 | .byt y => y.size ≤ sizeLine ∧ k = ((y.size : Int) != 0)
 | .ref p => (∃ xs, SqL K H p xs ∧ k = !xs.isEmpty) ∨ (∃ xs, SqT K H p xs ∧ k = !xs.isEmpty) ∨ ∃ kvs, H p = some (.dK kvs) ∧ k = !kvs.isEmpty
 | _ => False
theorem isEmpty_kv {κ : Type} {kvs : List (κ × V)} {vs : List (κ × Value)} (r : KV kvs vs) : (!vs.isEmpty) = !kvs.isEmpty := by
 cases r <;> rfl
theorem isEmpty_of {xs : List V} {its : List Value} (r : Vals xs its) : (!its.toArray.isEmpty) = !xs.isEmpty := by
 cases r <;> simp
theorem line63 : (sizeLine : Nat) < 2 ^ 63 := by rw [sizeLine_eq]; decide
theorem tru_ok : TruR X (fun x H Q => ∃ k, TruV X.K x H k ∧ Q k H) := by
 intro pins s σ H x v Q I rx h
 obtain ⟨k, e, q⟩ := h
 have hl := line63
 have hs : sizeLine = 16777216 := sizeLine_eq
 cases x with
 | non =>
  cases rx
  have e' : k = false := e
  subst e'
  exact truthy_none ⟨H, I, q⟩
 | bl b =>
  cases rx
  have e' : k = b := e
  subst e'
  exact wpAny_truthy_bool ⟨H, I, q⟩
 | int i =>
  obtain ⟨t, rfl⟩ := rx
  have e' : k = (i != 0) := e
  subst e'
  exact PySem.P.truthy_int ⟨H, I, q⟩
 | str y =>
  obtain ⟨t, rfl⟩ := rx
  obtain ⟨hy, e'⟩ : y.length ≤ sizeLine ∧ k = ((y.length : Int) != 0) := e
  subst e'
  exact PySem.P.truthy_str (by omega) ⟨H, I.tok _, q⟩
 | byt y =>
  obtain ⟨t, rfl⟩ := rx
  obtain ⟨hy, e'⟩ : y.size ≤ sizeLine ∧ k = ((y.size : Int) != 0) := e
  subst e'
  exact PySem.W.truthy_bytes (by omega) ⟨H, I.tok _, q⟩
 | ref p =>
  cases rx
  have e' : (∃ xs, SqL X.K H p xs ∧ k = !xs.isEmpty) ∨ (∃ xs, SqT X.K H p xs ∧ k = !xs.isEmpty) ∨ ∃ kvs, H p = some (.dK kvs) ∧ k = !kvs.isEmpty := e
  rcases e' with ⟨xs, hx, e'⟩ | ⟨xs, hx, e'⟩ | ⟨kvs, hx, e'⟩
  ·subst e'
   obtain ⟨its, r, pl, hz⟩ := I.list hx
   have hlen := r.length
   exact wpAny_truthy_list pl.isList (by simp only [List.size_toArray]; omega) ⟨H, I.tok _, by rw [isEmpty_of r]; exact q⟩
  ·subst e'
   obtain ⟨its, r, pl, hz⟩ := I.tuple hx
   have hlen := r.length
   exact truthy_tuple pl (by simp only [List.size_toArray]; omega) ⟨H, I.tok _, by rw [isEmpty_of r]; exact q⟩
  ·subst e'
   obtain ⟨hz, hS, vs, r, m⟩ : kvs.length ≤ sizeLine ∧ (p == sysModules) = false ∧ ∃ vs, KV kvs vs ∧ s.heap.DictOf (mixKind X.prog X.w) p vs := I.hok p _ hx
   have hlen : kvs.length = vs.length := Paired.length r
   exact wpAny_truthy_dict hS m (by omega) ⟨H, I.tok _, by rw [isEmpty_kv r]; exact q⟩
 | _ => exact (show False from e).elim
theorem pt_truth (ha : PE X a ta) (he : ∀ whole, isTrue a X.env whole = (do let v ← whole; standAt a.pos; holding [v] (truthy v))) :
  PT X a (fun σ H Q => ta σ H fun x H' => ∃ k, TruV X.K x H' k ∧ Q k H') := by
 intro pins s σ H Q I h
 exact isTrue_plain (thn (ha pins s σ H _ I h) fun v s1 ⟨x, H1, I1, r1, q1⟩ => tru_ok pins s1 σ H1 x v Q I1 r1 q1) (he _)
theorem vals1 {x : V} {us : List Value} (r : Vals [x] us) : ∃ u, us = [u] ∧ RelV x u := by
 cases r with
 | cons r1 r2 => cases r2; exact ⟨_, rfl, r1⟩
theorem vals2 {x y : V} {us : List Value} (r : Vals [x, y] us) : ∃ u w', us = [u, w'] ∧ RelV x u ∧ RelV y w' := by
 cases r with
 | cons r1 r2 =>
  cases r2 with
  | cons r3 r4 => cases r4; exact ⟨_, _, rfl, r1, r3⟩
theorem call_max2 (hc : X.calm = true) : CallR X (.builtin "max") (fun xs H Q => ∃ i j, xs = [.int i, .int j] ∧ Q (.int (if j > i then j else i)) H) := by
 intro pins s σ H xs us Q I r h
 obtain ⟨i, j, rfl, q⟩ := h
 obtain ⟨u, w', rfl, ⟨t, rfl⟩, ⟨t', rfl⟩⟩ := vals2 r
 refine max_two_ints (I.ok.hd hc) fun h' tk k => ⟨_, H, I.kept k, ?_, q⟩
 by_cases hj : j > i
 ·rw [if_pos hj, if_pos hj]; exact ⟨_, rfl⟩
 ·rw [if_neg hj, if_neg hj]; exact ⟨_, rfl⟩
end
end L2
namespace L2
open PySem PySem.Spec PyProof.Rows
structure ObjM (h : Heap) (x dx C : Addr) (mA : Str → Option Value) : Prop where
 obj : h.get? x = some (PySem.W.instObj C dx)
 ns : h.Ns1 dx mA
 ne : dx ≠ x
theorem lookIn_ns {h : Heap} {dx : Addr} {mA : Str → Option Value} (n : h.Ns1 dx mA) : ∃ od, h.get? dx = some od ∧ ∀ name, PySem.W.lookIn name od = some (mA name) := by
 obtain ⟨o, es, ep, ho, hd, hk, _, hm⟩ := n
 refine ⟨o, ho, fun name => ?_⟩
 have e := hm name
 unfold nsFind findBy at e
 rw [← Array.find?_toList] at e
 unfold PySem.W.lookIn
 rw [hd]
 dsimp only
 split
 ·rename_i y q
  rw [q] at e
  exact congrArg some e
 ·rename_i q
  rw [q] at e
  have a : es.toList.any (·.refKey) = false := by
   rw [List.any_eq_false]
   intro y hy
   obtain ⟨z, t, hkey⟩ := hk y (Array.mem_toList_iff.mp hy)
   simp [DictEntry.refKey, hkey]
  have a' : ¬ es.toList.any (·.refKey) = true := by rw [a]; exact Bool.false_ne_true
  rw [if_neg a']
  exact congrArg some e
theorem ObjM.look {h : Heap} {x dx C : Addr} {mA : Str → Option Value} (I : ObjM h x dx C mA) : ∃ od, PySem.W.InstAt h x (PySem.W.instObj C dx) C (some od) ∧ ∀ name, PySem.W.lookIn name od = some (mA name) :=
 let ⟨od, ho, hl⟩ := lookIn_ns I.ns
 ⟨od, ⟨I.obj, rfl, rfl, ho⟩, hl⟩
section
variable {prog : Program} {w : World} {A : Around} {E : Value → Shared → Prop} {s : Shared} {K : PySem.W.Frag} {x dx C f : Addr} {mA : Str → Option Value} {name : Str} {v : Value}
theorem get_map {expr : Bool} {Q : Value → Shared → Prop} (X : K.In s.heap) (I : ObjM s.heap x dx C mA) (hg : PySem.W.plainGet K C name = true) (hh : PySem.W.hasDictIn K C = true)
  (ha : PySem.W.findIn K (.ref C) name = some none) (hv : mA name = some v) (hv' : PySem.W.handedIn v = true) (h : Q v { s with toks := s.toks + 1 }) :
  wpAny (model prog w) A (getAttr (.ref x) name expr) Q E s := by
 obtain ⟨od, J, hl⟩ := I.look
 exact PySem.W.get_value X J (PySem.W.plainGet_of hg).1 (PySem.W.findObj_own hh ha rfl (by rw [hl, hv])) hv' h
theorem get_meth {pl : Sem Bool} {Q : Value × List Value → Shared → Prop} (X : K.In s.heap) (I : ObjM s.heap x dx C mA) (hg : PySem.W.plainGet K C name = true)
  (hf : PySem.W.findIn K (.ref C) name = some (some (.ref f))) (ht : PySem.W.isFn K (.ref f) = true) (hv : mA name = none) (h : Q (.ref f, [.ref x]) s) :
  wpAny (model prog w) A (getMethod (.ref x) name pl) Q E s := by
 obtain ⟨od, J, hl⟩ := I.look
 exact PySem.W.method_fn X J (PySem.W.plainGet_of hg).1 (PySem.W.plainGet_of hg).2 hf (beq_iff_eq.mp ht) (by show (PySem.W.lookIn name od).map (·.isSome) = some false; rw [hl, hv]; rfl) h
theorem set_map {ns : List Str} {Q : Unit → Shared → Prop} (X : K.In s.heap) (I : ObjM s.heap x dx C mA)
  (hs : PySem.W.findIn K (.ref C) "__setattr__" = some (some (.builtin "object.__setattr__"))) (hp : PySem.W.plainOver K C = true) (ht : PySem.W.takerIn K C name = some none) (hh : PySem.W.hasDictIn K C = true)
  (hw : PySem.Within mA ns) (hsz : ns.length ≤ sizeLine)
  (h : ∀ h', ObjM h' x dx C (fun y => if y = name then some v else mA y) → Heap.SameBut dx s.heap h' → Q () { s with heap := h', toks := s.toks + 2 }) :
  wpAny (model prog w) A (setAttr (.ref x) name v) Q E s := by
 obtain ⟨od, J, hl⟩ := I.look
 refine PySem.W.set_plain X J hs (PySem.W.osa_open (s := { s with toks := s.toks + 1 }) (r := none) X J hp ht fun b => ?_)
 obtain ⟨cd, hc, hd'⟩ := PySem.W.any_some hh
 have hx : s.heap.get? x = some ⟨.ref C, some dx, .plain, #[]⟩ := I.obj
 refine wpAny_bind (wpAny_pure (wpAny_bind (wpAny_bind (wpAny_loadPart hx (wpAny_bind (PySem.W.Looks.here (s := { s with toks := s.toks + 1 }) (PySem.W.looks_clsIn X hc) ?_))))))
 rw [hd']
 refine wpAny_pure (a := some dx) (wpAny_bind (wpAny_pure (wpAny_bind ?_)))
 refine wpAny_nsSet1 (s := { s with toks := s.toks + 1 }) I.ns fun h' hn2 hs2 => ?_
 obtain ⟨oD, esD, epD, hoD, hdD, hcD⟩ := hn2.count (PySem.Within.cons name v hw)
 refine wpAny_bind (wpAny_lookBehind hoD (by rw [hdD]; exact pastItsLine_dict (Nat.le_trans hcD (by rw [List.length_cons]; omega))) ?_)
 exact wpAny_pure (h _ ⟨(hs2.2 _ (Ne.symm I.ne)).trans I.obj, hn2, I.ne⟩ hs2)
theorem make_map {R : Result → Shared → Prop} {vs : List Value} {kw : List (Str × Value)} (X : K.In s.heap) (hm : PySem.W.makesIn K C = true)
  (hi : PySem.W.findIn K (.ref C) "__init__" = some (some (.ref f))) (hf : PySem.W.typeIn K (.ref f) = some (.type "function"))
  (h : codeAny (model prog w) (A.under (.builtin "type.__call__" ⟨.ref C :: vs, kw⟩)) (.call (.ref f) ⟨.ref (s.heap.objs.size + 1) :: vs, kw⟩) (PySem.W.InitBack (s.heap.objs.size + 1) R)
   { s with heap := (s.heap.push PySem.W.emptyDict).push (PySem.W.instObj C s.heap.objs.size) }) :
  codeAny (model prog w) A (.call (.ref C) ⟨vs, kw⟩) R s := by
 obtain ⟨hh, g, d, t, os⟩ := s
 exact PySem.W.make_core (PySem.W.makes_of X hm) (PySem.W.looks_findIn X hi) (fun self => PySem.W.bind_fn X self hf) (.inl rfl) h
end
def putF (f : Str) (v : V) : List (Str × V) → List (Str × V)
 | [] => [(f, v)]
 | (g, x) :: r => if g = f then (g, v) :: r else (g, x) :: putF f v r
theorem lookup_putF (f g : Str) (v : V) : ∀ fs : List (Str × V), (putF f v fs).lookup g = if g = f then some v else fs.lookup g
 | [] => by
  show List.lookup g [(f, v)] = _
  by_cases h : g = f
  ·have hb : (g == f) = true := beq_iff_eq.mpr h
   simp only [List.lookup, hb, if_pos h]
  ·have hb : (g == f) = false := beq_eq_false_iff_ne.mpr h
   simp only [List.lookup, hb, if_neg h]
 | (k, x) :: r => by
  have ih := lookup_putF f g v r
  rw [show putF f v ((k, x) :: r) = (if k = f then (k, v) :: r else (k, x) :: putF f v r) from rfl]
  by_cases hk : k = f
  ·rw [if_pos hk]
   by_cases h : g = k
   ·have hb : (g == k) = true := beq_iff_eq.mpr h
    simp only [List.lookup, hb, if_pos (h.trans hk)]
   ·have hb : (g == k) = false := beq_eq_false_iff_ne.mpr h
    simp only [List.lookup, hb, if_neg (fun e : g = f => h (e.trans hk.symm))]
  ·rw [if_neg hk]
   by_cases h : g = k
   ·have hb : (g == k) = true := beq_iff_eq.mpr h
    simp only [List.lookup, hb, if_neg (fun e : g = f => hk (h.symm.trans e))]
   ·have hb : (g == k) = false := beq_eq_false_iff_ne.mpr h
    simp only [List.lookup, hb]
    exact ih
theorem keys_putF (f : Str) (v : V) : ∀ fs : List (Str × V), f ∈ (putF f v fs).map (·.1) ∧ ∀ g, g ∈ fs.map (·.1) → g ∈ (putF f v fs).map (·.1)
 | [] => ⟨by simp [putF], fun g h => by simp at h⟩
 | (k, x) :: r => by
  obtain ⟨i1, i2⟩ := keys_putF f v r
  rw [show putF f v ((k, x) :: r) = (if k = f then (k, v) :: r else (k, x) :: putF f v r) from rfl]
  by_cases hk : k = f
  ·rw [if_pos hk]
   subst hk
   exact ⟨by simp, fun g h => by simpa using h⟩
  ·rw [if_neg hk]
   refine ⟨?_, fun g h => ?_⟩
   ·rw [List.map_cons]
    exact List.mem_cons_of_mem _ i1
   ·rw [List.map_cons] at h ⊢
    rcases List.mem_cons.mp h with e | e
    ·exact List.mem_cons.mpr (.inl e)
    ·exact List.mem_cons_of_mem _ (i2 g e)
theorem length_putF (f : Str) (v : V) : ∀ fs : List (Str × V), (putF f v fs).length ≤ fs.length + 1
 | [] => by simp [putF]
 | (k, x) :: r => by
  have ih := length_putF f v r
  rw [show putF f v ((k, x) :: r) = (if k = f then (k, v) :: r else (k, x) :: putF f v r) from rfl]
  by_cases hk : k = f
  ·rw [if_pos hk, List.length_cons, List.length_cons]; omega
  ·rw [if_neg hk, List.length_cons, List.length_cons]; omega
theorem RelO.some_of {v : V} {o : Option Value} (r : RelO (some v) o) : ∃ u, o = some u ∧ RelV v u := by
 cases o with
 | none => exact (show False from r).elim
 | some u => exact ⟨u, rfl, r⟩
theorem RelO.none_of {o : Option Value} (r : RelO none o) : o = none := by
 cases o with
 | none => rfl
 | some u => exact (show False from r).elim
theorem handed_of {v : V} {u : Value} (r : RelV v u) : PySem.W.handedIn u = true := by
 cases v with
 | non => cases (show u = Value.none from r); rfl
 | bl b => cases (show u = Value.bool b from r); rfl
 | int i => obtain ⟨t, e⟩ := (show ∃ t, u = Value.int i t from r); cases e; rfl
 | str x => obtain ⟨t, e⟩ := (show ∃ t, u = Value.str x t from r); cases e; rfl
 | byt b => obtain ⟨t, e⟩ := (show ∃ t, u = Value.bytes b t from r); cases e; rfl
 | flt b => obtain ⟨t, e⟩ := (show ∃ t, u = Value.float b t from r); cases e; rfl
 | ref a => cases (show u = Value.ref a from r); rfl
 | ty n => cases (show u = Value.type n from r); rfl
section
variable {P : Program} {w : World} {H H' : Hp} {h h' : Heap} {a C dx : Addr} {fs fs' : List (Str × V)}
theorem ins_get (hok : HOk P w H h) (e : H a = some (.ins C dx fs)) : ∃ mA, ObjM h a dx C mA ∧ (∀ f, RelO (fs.lookup f) (mA f)) ∧ PySem.Within mA (fs.map (·.1)) ∧ fs.length ≤ 1000 ∧ H dx = some (.own a) := by
 obtain ⟨d, z, ne, ob, mA, n, r, q⟩ := (show ObjOk P w H h a (.ins C dx fs) from hok a _ e)
 exact ⟨mA, ⟨ob, n, ne⟩, r, q, z, d⟩
end
structure Cls (K : PySem.W.Frag) (C : Addr) : Prop where
 pg : PySem.W.plainGet K C Str.empty = true
 hd : PySem.W.hasDictIn K C = true
 po : PySem.W.plainOver K C = true
 sa : PySem.W.findIn K (.ref C) "__setattr__" = some (some (.builtin "object.__setattr__"))
theorem Cls.get {K : PySem.W.Frag} {C : Addr} (c : Cls K C) (f : Str) : PySem.W.plainGet K C f = true := c.pg
def NoAttr (K : PySem.W.Frag) (C : Addr) (f : Str) : Prop := PySem.W.findIn K (.ref C) f = some none
theorem NoAttr.taker {K : PySem.W.Frag} {C : Addr} {f : Str} (n : NoAttr K C f) : PySem.W.takerIn K C f = some none := by
 unfold PySem.W.takerIn
 rw [show PySem.W.findIn K (.ref C) f = some none from n]
 rfl
structure Meth (K : PySem.W.Frag) (C : Addr) (m : Str) (f : Addr) : Prop where
 at_ : PySem.W.findIn K (.ref C) m = some (some (.ref f))
 fn : PySem.W.isFn K (.ref f) = true
 kp : PySem.W.keepIn K (.ref f) = true
section
variable {X : Cx} {pins : List (Addr × Obj)} {σ : St} {H : Hp} {s : Shared} {a C dx : Addr} {fs : List (Str × V)} {f : Str} {v : V} {A : Around} {E : Value → Shared → Prop}
theorem getattr_ok {b : Bool} {Q : Value → Shared → Prop} (I : Inv X pins σ H s) (e : H a = some (.ins C dx fs)) (c : Cls X.K C) (n : NoAttr X.K C f) (l : fs.lookup f = some v)
  (h : ∀ u s', Inv X pins σ H s' → RelV v u → Q u s') : wpAny (model X.prog X.w) A (getAttr (.ref a) f b) Q E s := by
 obtain ⟨mA, O, r, _, _, _⟩ := ins_get I.hok e
 obtain ⟨u, hu, ru⟩ := RelO.some_of (v := v) (o := mA f) (by rw [← l]; exact r f)
 exact get_map I.kIn O (c.get f) c.hd n hu (handed_of ru) (h u _ (I.tok _) ru)
theorem getmeth_ok {m : Str} {g : Addr} {pl : Sem Bool} {Q : Value × List Value → Shared → Prop} (I : Inv X pins σ H s) (e : H a = some (.ins C dx fs)) (c : Cls X.K C) (k : Meth X.K C m g) (l : fs.lookup m = none)
  (h : Q (.ref g, [.ref a]) s) : wpAny (model X.prog X.w) A (getMethod (.ref a) m pl) Q E s := by
 obtain ⟨mA, O, r, _, _, _⟩ := ins_get I.hok e
 have hn : mA m = none := RelO.none_of (by rw [← l]; exact r m)
 exact get_meth I.kIn O (c.get m) k.at_ k.fn hn h
theorem setattr_ok {y : V} {u : Value} {Q : Unit → Shared → Prop} (I : Inv X pins σ H s) (e : H a = some (.ins C dx fs)) (c : Cls X.K C) (n : NoAttr X.K C f) (hl : fs.length < 1000) (ry : RelV y u)
  (h : ∀ s', Inv X pins σ (upd H a (.ins C dx (putF f y fs))) s' → Q () s') : wpAny (model X.prog X.w) A (setAttr (.ref a) f u) Q E s := by
 obtain ⟨mA, O, r, wi, _, ho⟩ := ins_get I.hok e
 have hz : (fs.map (·.1)).length ≤ sizeLine := by rw [List.length_map, sizeLine_eq]; omega
 refine set_map I.kIn O c.sa c.po n.taker c.hd wi hz fun h' O' sb => h _ ?_
 have hd : ∃ o, h'.get? dx = some o := let ⟨o, _, _, e', _⟩ := O'.ns; ⟨o, e'⟩
 refine I.write (x := a) (e := dx) (by rw [e]; exact True.intro) (.inr ho) (fun b q hb z => (sb.2 b hb).trans z) hd ?_
 refine ⟨by rw [upd_ne O.ne]; exact ho, ?_, O.ne, O'.obj, _, O'.ns, fun g => ?_, fun g hg => ?_⟩
 ·have := length_putF f y fs; omega
 ·show RelO ((putF f y fs).lookup g) (if g = f then some u else mA g)
  rw [lookup_putF]
  by_cases q : g = f
  ·rw [if_pos q, if_pos q]; exact ry
  ·rw [if_neg q, if_neg q]; exact r g
 ·by_cases q : g = f
  ·rw [q]; exact (keys_putF f y fs).1
  ·refine (keys_putF f y fs).2 g (wi g fun z => hg ?_)
   show (if g = f then some u else mA g) = none
   rw [if_neg q]; exact z
theorem Inv.made (I : Inv X pins σ H s) : Inv X pins σ (upd (upd H s.heap.objs.size (.own (s.heap.objs.size + 1))) (s.heap.objs.size + 1) (.ins C s.heap.objs.size []))
  { s with heap := (s.heap.push PySem.W.emptyDict).push (PySem.W.instObj C s.heap.objs.size) } := by
 have e1 : (s.heap.push PySem.W.emptyDict).get? s.heap.objs.size = some PySem.W.emptyDict := Heap.get?_push_size s.heap rfl
 have e2 : ((s.heap.push PySem.W.emptyDict).push (PySem.W.instObj C s.heap.objs.size)).get? (s.heap.objs.size + 1) = some (PySem.W.instObj C s.heap.objs.size) := by
  have := Heap.get?_push_size (s.heap.push PySem.W.emptyDict) (o := PySem.W.instObj C s.heap.objs.size) rfl
  rwa [Heap.size_push] at this
 have e3 : (s.heap.push PySem.W.emptyDict).Ns s.heap.objs.size (fun _ => none) := ⟨PySem.W.emptyDict, #[], _, e1, rfl, (fun e he => absurd he (by simp)), fun _ => rfl⟩
 have I1 := I.laid (a := s.heap.objs.size) (o := .own (s.heap.objs.size + 1)) (h' := s.heap.push PySem.W.emptyDict) (t' := s.toks) (fun b u q => Heap.get?_push_of_some _ q) (Nat.le_refl _) ⟨_, e1⟩
 refine I1.laid (a := s.heap.objs.size + 1) (o := .ins C s.heap.objs.size []) (t' := s.toks) (fun b u q => Heap.get?_push_of_some _ q) (Nat.le_of_eq (Heap.size_push _ _)) ?_
 have ne : s.heap.objs.size ≠ s.heap.objs.size + 1 := Nat.ne_of_lt (Nat.lt_succ_self _)
 refine ⟨by rw [upd_ne ne, upd_same], Nat.zero_le _, ne, e2, fun _ => none, (Heap.Ns1.of_empty e3).at fun o q => Heap.get?_push_of_some _ q, fun _ => True.intro, fun y hy => absurd rfl hy⟩
theorem attr_of {prog : Program} {w : World} {env : Env} {e : Expr} {f : Str} {pos : Pos} {s : Shared} {Q : Value → Shared → Prop} (hb : attributeBase e f env (eval e env) = eval e env)
  (h : wpAny (model prog w) A (eval e env) (fun o s₁ => wpAny (model prog w) A (getAttr o f true) Q E s₁) E s) : wpAny (model prog w) A (eval (.Attribute e f pos) env) Q E s :=
 Attribute_any_ h (by rw [arm_eval_Attribute, hb])
end
def tFld (K : PySem.W.Frag) (ta : TE) (f : Str) : TE := fun σ H Q => ta σ H fun x H1 => ∃ a C dx fs v, x = .ref a ∧ H1 a = some (.ins C dx fs) ∧ Cls K C ∧ NoAttr K C f ∧ fs.lookup f = some v ∧ Q v H1
def sFld (K : PySem.W.Frag) (ta tv : TE) (f : Str) : TS := fun D σ H => tv σ H fun y H1 => ta σ H1 fun x H2 => ∃ a C dx fs, x = .ref a ∧ H2 a = some (.ins C dx fs) ∧ Cls K C ∧ NoAttr K C f ∧ fs.length < 1000 ∧
 D.nx σ (upd H2 a (.ins C dx (putF f y fs)))
def InOp (X : Cx) (op : Operator) (rd : V → V → Hp → VK → Prop) : Prop :=
 ∀ (pins : List (Addr × Obj)) (s : Shared) (σ : St) (H : Hp) (x y : V) (u v : Value) (Q : VK), Inv X pins σ H s → RelV x u → RelV y v → rd x y H Q → wpAny (model X.prog X.w) X.A (inplaceOp op u v) (EP X pins σ Q) X.xe s
section
variable {X : Cx} {o e value : Expr} {f : Str} {pos pos' tpos : Pos} {ta tv : TE}
theorem pe_fld (he : PE X e ta) (hb : attributeBase e f X.env (eval e X.env) = eval e X.env) : PE X (.Attribute e f pos) (tFld X.K ta f) := by
 intro pins s σ H Q I h
 refine attr_of hb (thn (he pins s σ H _ I h) fun u s1 ⟨x, H1, I1, rx, a, C, dx, fs, v, ex, ea, c, n, l, q⟩ => ?_)
 subst ex
 obtain rfl : u = Value.ref a := rx
 exact getattr_ok I1 ea c n l fun u' s2 I2 ru => ⟨v, H1, I2, ru, q⟩
theorem ps_fld (ha : PE X o ta) (hv : PE X value tv) (hs : swapsWith value (some (.Attribute o f pos')) pos.line X.env = pure false) : PS X (.Assign [.Attribute o f pos'] value pos) (sFld X.K ta tv f) := by
 intro pins s σ H D I h
 refine plainObj_wpAny_Assign_Attribute (thn (hv pins s σ H _ I h) fun u s1 ⟨y, H1, I1, ry, q⟩ => thn (ha pins s1 σ H1 _ I1 q) fun ov s2 ⟨x, H2, I2, rx, a, C, dx, fs, ex, ea, c, n, l, q2⟩ => ?_) hs
 subst ex
 obtain rfl : ov = Value.ref a := rx
 exact setattr_ok I2 ea c n l ry fun s3 I3 => ⟨σ, _, I3, q2⟩
def rAdd : V → V → Hp → VK → Prop := fun x y H Q => ∃ i j, x = .int i ∧ y = .int j ∧ Q (.int (i + j)) H
theorem in_add : InOp X .Add rAdd := by
 rintro pins s σ H x y u v Q I rx ry ⟨i, j, rfl, rfl, q⟩
 obtain ⟨t, rfl⟩ := (show ∃ t, u = Value.int i t from rx)
 obtain ⟨t', rfl⟩ := (show ∃ t', v = Value.int j t' from ry)
 exact PyProof.Rows.iadd_int ⟨.int (i + j), H, I.tok _, ⟨_, rfl⟩, q⟩
end
section
variable {X : Cx} {pins : List (Addr × Obj)} {σ : St} {H : Hp} {s : Shared} {A : Around} {E : Value → Shared → Prop} {Q : Value → Shared → Prop} {c : Value} {b : Bool}
inductive TyOf (K : PySem.W.Frag) (H : Hp) : V → Value → Prop where
 | non : TyOf K H .non (.type "NoneType")
 | bl (x : Bool) : TyOf K H (.bl x) (.type "bool")
 | int (i : Int) : TyOf K H (.int i) (.type "int")
 | str (x : Str) : TyOf K H (.str x) (.type "str")
 | flt (x : UInt64) : TyOf K H (.flt x) (.type "float")
 | lst {a : Addr} {xs : List V} (e : H a = some (.lst xs)) : TyOf K H (.ref a) (.type "list")
 | frz {a : Addr} {o : Obj} {xs : List V} (e : H a = some (.frz o (.lst xs))) : TyOf K H (.ref a) (.type "list")
 | tup {a : Addr} {xs : List V} (e : H a = some (.tup xs)) : TyOf K H (.ref a) (.type "tuple")
 | dK {a : Addr} {kvs : List (Key × V)} (e : H a = some (.dK kvs)) : TyOf K H (.ref a) (.type "dict")
 | dT {a : Addr} {kvs : List (List Key × V)} (e : H a = some (.dT kvs)) : TyOf K H (.ref a) (.type "dict")
 | ins {a C dx : Addr} {fs : List (Str × V)} (e : H a = some (.ins C dx fs)) (cl : Cls K C) (ha : PySem.W.findIn K (.ref C) "__class__" = some (some (.builtin "object.__class__")))
   (hn : PySem.W.specialIn K (.builtin "object.__class__") "__get__" = some (some (.builtin "getset_descriptor.__get__"))) (htk : PySem.W.takesIn K (.builtin "object.__class__") = some true)
   (hm : PySem.W.mroIn K C (.type "object") = some true) : TyOf K H (.ref a) (.ref C)
theorem isinst_ok {x : V} {u t : Value} (I : Inv X pins σ H s) (rx : RelV x u) (ty : TyOf X.K H x t) (e : PySem.W.kitOne X.K t c = some b) (h : ∀ tk, Q (.bool b) { s with toks := tk }) :
  wpAny (model X.prog X.w) A (call (.builtin "isinstance") [u, c]) Q E s := by
 cases ty with
 | non => cases (show u = Value.none from rx); exact PySem.W.kia_one PySem.W.kitx_none I.kIn True.intro e (fun z => nomatch z) h
 | bl y => cases (show u = Value.bool y from rx); exact PySem.W.kia_one PySem.W.kitx_bool I.kIn True.intro e (fun z => nomatch z) h
 | int i => obtain ⟨t, q⟩ := (show ∃ t, u = Value.int i t from rx); cases q; exact PySem.W.kia_one PySem.W.kitx_int I.kIn True.intro e (fun z => nomatch z) h
 | str y => obtain ⟨t, q⟩ := (show ∃ t, u = Value.str y t from rx); cases q; exact PySem.W.kia_one PySem.W.kitx_str I.kIn True.intro e (fun z => nomatch z) h
 | flt y => obtain ⟨t, q⟩ := (show ∃ t, u = Value.float y t from rx); cases q; exact PySem.W.kia_one PySem.W.kitx_float I.kIn True.intro e (fun z => nomatch z) h
 | @lst a xs ea =>
  cases (show u = Value.ref a from rx)
  obtain ⟨_, _, n, _, h1⟩ := (show ObjOk X.prog X.w H s.heap a (.lst xs) from I.hok a _ ea)
  exact PySem.W.kia_one PySem.W.kitx_list I.kIn ⟨_, h1, rfl⟩ e (fun z => nomatch z) h
 | @frz a ob xs ea =>
  cases (show u = Value.ref a from rx)
  obtain ⟨_, _, _, n, _, h1⟩ := (show ObjOk X.prog X.w H s.heap a (.frz ob (.lst xs)) from I.hok a _ ea)
  exact PySem.W.kia_one PySem.W.kitx_list I.kIn ⟨_, h1, rfl⟩ e (fun z => nomatch z) h
 | @tup a xs ea =>
  cases (show u = Value.ref a from rx)
  obtain ⟨_, _, _, p⟩ := (show ObjOk X.prog X.w H s.heap a (.tup xs) from I.hok a _ ea)
  obtain ⟨o, h1, h2, _⟩ := p
  exact PySem.W.kia_one PySem.W.kitx_tuple I.kIn ⟨o, h1, h2⟩ e (fun z => nomatch z) h
 | @dK a kvs ea =>
  cases (show u = Value.ref a from rx)
  obtain ⟨_, _, vs, _, p⟩ := (show ObjOk X.prog X.w H s.heap a (.dK kvs) from I.hok a _ ea)
  obtain ⟨o, es, ep, h1, h2, _⟩ := p
  exact PySem.W.kia_one PySem.W.kitx_dict I.kIn ⟨o, h1, h2.1⟩ e (fun z => nomatch z) h
 | @dT a kvs ea =>
  cases (show u = Value.ref a from rx)
  obtain ⟨_, _, xs, _, o, es, ep, h1, h2, _⟩ := (show ObjOk X.prog X.w H s.heap a (.dT kvs) from I.hok a _ ea)
  exact PySem.W.kia_one PySem.W.kitx_dict I.kIn ⟨o, h1, h2.1⟩ e (fun z => nomatch z) h
 | @ins a C dx fs ea cl ha hn htk hm =>
  cases (show u = Value.ref a from rx)
  obtain ⟨mA, O, _⟩ := ins_get I.hok ea
  obtain ⟨od, J, _⟩ := O.look
  exact PySem.W.kia_one (PySem.W.kitx_own (cl.get _) cl.hd ha hn htk hm) I.kIn J e (fun z => nomatch z) h
end
end L2
namespace L2
open PySem PySem.Spec PyProof.Rows
structure Room (k : Nat) (A : Around) : Prop where
 hd : A.handled = none
 dp : A.depth + 3 * k + 5 < recursionLimit
 un : A.units + 16 * k + 200 < cLine
theorem Room.mono {j k : Nat} {A : Around} (r : Room k A) (h : j ≤ k) : Room j A := ⟨r.hd, by have := r.dp; omega, by have := r.un; omega⟩
theorem Room.deeper {k : Nat} {A : Around} (r : Room (k + 1) A) (env : Env) : Room k (A.deeper env) :=
 ⟨r.hd, by have := r.dp; show A.depth + 1 + 3 * k + 5 < _; omega, by have := r.un; show A.units + 3 + 16 * k + 200 < _; omega⟩
theorem make_depth {A : Around} {C : Addr} {us : List Value} {kw : List (Str × Value)} : (A.under (.builtin "type.__call__" ⟨.ref C :: us, kw⟩)).depth = A.depth + 1 := by
 first | rfl | simp [Around.under, Code.weight, Code.isCreation, Code.isGuard, Code.isCaller, Code.frames, Code.isFrame, guardIds]
theorem make_units {A : Around} {C : Addr} {us : List Value} {kw : List (Str × Value)} : (A.under (.builtin "type.__call__" ⟨.ref C :: us, kw⟩)).units = A.units + 1 := by
 first | rfl | simp [Around.under, Code.cUnits, Code.frames, Code.isFrame]
theorem Room.make {k : Nat} {A : Around} (r : Room (k + 1) A) (C : Addr) (us : List Value) (kw : List (Str × Value)) : Room k (A.under (.builtin "type.__call__" ⟨.ref C :: us, kw⟩)) :=
 ⟨r.hd, by have := r.dp; rw [make_depth]; omega, by have := r.un; rw [make_units]; omega⟩
theorem Room.depth {k : Nat} {A : Around} (r : Room k A) : A.depth < recursionLimit := by have := r.dp; omega
theorem Room.units {k : Nat} {A : Around} (r : Room k A) : A.units + 64 < cLine := by have := r.un; omega
def tNil : TA := fun _ H Q => Q [] H
def tCons (ta : TE) (tr : TA) : TA := fun σ H Q => ta σ H fun x H1 => tr σ H1 fun xs H2 => Q (x :: xs) H2
section
variable {X : Cx} {e : Expr} {es : List Expr} {te : TE} {t : TA} {pos : Pos}
theorem pa_nil : PA X [] tNil := fun _ _ _ _ H Q I h => Calls.spliced_nil ⟨[], H, I, .nil, h⟩
theorem pa_cons (ha : PE X e te) (hr : PA X es t) (hs : starEach (e :: es) X.env = (false, eval e X.env) :: starEach es X.env := by rfl) : PA X (e :: es) (tCons te t) := by
 intro pos pins s σ H Q I h
 rw [hs]
 show wpAny _ _ (spliced ((false, eval e X.env) :: backTo pos (starEach es X.env))) _ _ s
 refine Calls.spliced_cons (thn (ha pins s σ H _ I h) fun u s1 ⟨x, H1, I1, r1, q1⟩ => ?_)
 exact thn (hr pos pins s1 σ H1 _ I1 q1) fun us s2 ⟨xs, H2, I2, r2, q2⟩ => ⟨x :: xs, H2, I2, .cons r1 r2, q2⟩
def tTup (t : TA) : TE := fun σ H Q => t σ H fun xs H1 => xs.length ≤ sizeLine ∧ ∀ p, H1 p = none → Q (.ref p) (upd H1 p (.tup xs))
def tLst (t : TA) : TE := fun σ H Q => t σ H fun xs H1 => xs.length ≤ sizeLine ∧ ∀ p, H1 p = none → Q (.ref p) (upd H1 p (.lst xs))
theorem pe_tup {x1} (h : PA X es t) : PE X (.Tuple es x1 pos) (tTup t) := by
 intro pins s σ H Q I hq
 refine wpAny_Tuple_spliced (thn (h pos pins s σ H _ I hq) fun us s1 ⟨xs, H1, I1, r, z, q⟩ => ⟨by rw [← r.length]; exact z, ?_⟩)
 have hf : H1 s1.heap.objs.size = none := I1.hok.fresh (Nat.le_refl _)
 refine ⟨.ref s1.heap.objs.size, upd H1 s1.heap.objs.size (.tup xs), I1.laid (t' := s1.toks) (fun b u e => Heap.get?_push_of_some _ e) (Nat.le_refl _) ?_, rfl, q _ hf⟩
 exact ⟨z, us, r, ⟨_, Heap.get?_push_size _ rfl, rfl, _, rfl⟩⟩
theorem pe_lst (h : PA X es t) : PE X (.List es pos) (tLst t) := by
 intro pins s σ H Q I hq
 refine wpAny_List_spliced (thn (h pos pins s σ H _ I hq) fun us s1 ⟨xs, H1, I1, r, z, q⟩ => ⟨by rw [← r.length]; exact z, ?_⟩)
 have hf : H1 s1.heap.objs.size = none := I1.hok.fresh (Nat.le_refl _)
 refine ⟨.ref s1.heap.objs.size, upd H1 s1.heap.objs.size (.lst xs), I1.laid (t' := s1.toks) (fun b u e => Heap.get?_push_of_some _ e) (Nat.le_refl _) ?_, rfl, q _ hf⟩
 exact ⟨z, us, 0, r, Heap.get?_push_size _ rfl⟩
end
abbrev Sp := List V → Hp → VK → XK → Prop
abbrev CXT := List Env → Hp → Shared → XK → Value → Shared → Prop
structure Env0 (P : Program) (w : World) (K : PySem.W.Frag) (mg : Str → Option Value) (base : Heap) (A : Around) (outer : List Env) (s : Shared) (H : Hp) : Prop where
 frames : A.frames = some outer
 mod : Mod K mg base
 bs : ∀ b o, base.get? b = some o → s.heap.get? b = some o ∧ H b = none
 bsz : base.objs.size ≤ s.heap.objs.size
 funs : s.heap.FunFrames base outer
 frf : ∀ b ∈ frs outer, H b = none
 hok : HOk P w H s.heap
 bare : AllBare s.gens
def CE (outer : List Env) (P : Program) (w : World) (H : Hp) (s : Shared) (Q : VK) (u : Value) (s' : Shared) : Prop :=
 ∃ v H', s'.os = s.os ∧ AllBare s'.gens ∧ Un (frs outer) [] H H' s.heap s'.heap ∧ HOk P w H' s'.heap ∧ RelV v u ∧ Q v H'
def CR (CX : CXT) (outer : List Env) (P : Program) (w : World) (H : Hp) (s : Shared) (Q : VK) (E : XK) (r : Result) (s' : Shared) : Prop :=
 match r with
 | .ok (.ret u) => CE outer P w H s Q u s'
 | .ok _ => False
 | .error e => CX outer H s E e s'
structure FnOk (P : Program) (w : World) (K : PySem.W.Frag) (mg : Str → Option Value) (base : Heap) (CX : CXT) (k : Nat) (f : Addr) (fd : FuncData) (ps : List Str) (sp : Sp) : Prop where
 len : ∀ vs H Q E, sp vs H Q E → vs.length = ps.length
 run : ∀ (A : Around) (outer : List Env) (s : Shared) (H : Hp) (args : Args) (us : List Value) (vs : List V) (Q : VK) (E : XK), Room k A → Env0 P w K mg base A outer s H → BindsTo s fd args (ps.zip us) → Vals vs us → sp vs H Q E →
  codeAny (model P w) A (.call (.ref f) args) (CR CX outer P w H s Q E) s
theorem Env0.make {P : Program} {w : World} {K : PySem.W.Frag} {mg : Str → Option Value} {base : Heap} {A : Around} {outer : List Env} {s : Shared} {H : Hp} (e : Env0 P w K mg base A outer s H) (C : Addr) (us : List Value) (kw : List (Str × Value)) :
  Env0 P w K mg base (A.under (.builtin "type.__call__" ⟨.ref C :: us, kw⟩)) outer s H := ⟨by first | exact e.frames | (simpa [Around.under, Code.envs, Code.isFrame, pushEnvs] using e.frames), e.mod, e.bs, e.bsz, e.funs, e.frf, e.hok, e.bare⟩
section
variable {X : Cx} {pins : List (Addr × Obj)} {σ : St} {H : Hp} {s s' : Shared}
theorem Inv.env0 (I : Inv X pins σ H s) : Env0 X.prog X.w X.K X.mg X.base X.A X.stack s H :=
 ⟨I.ok.frames, I.ok.mod, I.bs, Nat.le_trans I.ok.bsz I.sz, I.stack, I.stkFree, I.hok, I.bare⟩
theorem Inv.after {Q : VK} {u : Value} (I : Inv X pins σ H s) (h : CE X.stack X.prog X.w H s Q u s') : EP X pins σ Q u s' := by
 obtain ⟨v, H', os, bare, un, hok, r, q⟩ := h
 obtain ⟨hh, g, d, t, os'⟩ := s'
 obtain rfl : os' = s.os := os
 exact ⟨v, H', I.call (h' := hh) (g' := g) (d' := d) (t' := t) (ch := []) un hok bare (fun b z => absurd z (by simp)), r, q⟩
end
def tCall (sp : Sp) (dvs : List V) (E : XK) (t : TA) : TE := fun σ H Q => t σ H fun vs H1 => sp (vs ++ dvs) H1 Q E
def tMeth (C : Addr) (m : Str) (sp : Sp) (dvs : List V) (E : XK) (ta : TE) (t : TA) : TE := fun σ H Q => ta σ H fun x H1 => ∃ a dx fs, x = .ref a ∧ H1 a = some (.ins C dx fs) ∧ fs.lookup m = none ∧
 t σ H1 fun vs H2 => sp (x :: (vs ++ dvs)) H2 Q E
def tMake (C : Addr) (sp : Sp) (dvs : List V) (E : XK) (t : TA) : TE := fun σ H Q => t σ H fun vs H1 => ∀ x dx, H1 x = none → H1 dx = none → dx ≠ x →
 sp (.ref x :: (vs ++ dvs)) (upd (upd H1 dx (.own x)) x (.ins C dx [])) (fun v H2 => v = .non ∧ Q (.ref x) H2) E
def Binds (K : PySem.W.Frag) (fd : FuncData) (ps : List Str) (ds : List Value) : Prop :=
 ∀ (s : Shared) (us : List Value), K.In s.heap → (us ++ ds).length = ps.length → BindsTo s fd ⟨us, []⟩ (ps.zip (us ++ ds))
theorem Binds.all {K : PySem.W.Frag} {fd : FuncData} {ps : List Str} (h : ∀ us : List Value, us.length = ps.length → bindArgs fd ⟨us, []⟩ = pure (ps.zip us)) : Binds K fd ps [] := fun s us _ hl => by
 rw [List.append_nil] at hl ⊢
 exact .of_eq (h us hl)
def Passes (CX : CXT) (X : Cx) (E : XK) : Prop := ∀ (pins : List (Addr × Obj)) (σ : St) (H : Hp) (s : Shared) (e : Value) (s' : Shared), Inv X pins σ H s → CX X.stack H s E e s' → X.xe e s'
section
variable {X : Cx} {CX : CXT} {k : Nat} {f C : Addr} {fd : FuncData} {ps : List Str} {sp : Sp} {dvs : List V} {ds : List Value} {E : XK} {x m : Str} {p pos apos : Pos} {e o : Expr} {es : List Expr} {ta : TE} {t : TA}
theorem run_fn {pins : List (Addr × Obj)} {σ : St} {H : Hp} {s : Shared} {Q : VK} {us : List Value} {vs : List V} (F : FnOk X.prog X.w X.K X.mg X.base CX k f fd ps sp) (hr : Room k X.A) (hb : Binds X.K fd ps ds) (hd : Vals dvs ds) (hx : Passes CX X E)
  (I : Inv X pins σ H s) (r : Vals vs us) (h : sp (vs ++ dvs) H Q E) : wpAny (model X.prog X.w) X.A (call (.ref f) us) (EP X pins σ Q) X.xe s := by
 have r2 : Vals (vs ++ dvs) (us ++ ds) := r.append hd
 have hl : (us ++ ds).length = ps.length := by rw [← r2.length]; exact F.len _ _ _ _ h
 refine wpAny_call (codeAny_mono (F.run X.A X.stack s H ⟨us, []⟩ (us ++ ds) (vs ++ dvs) Q E hr I.env0 (hb s us I.kIn hl) r2 h) fun r s' hq => ?_)
 cases r with
 | error e => exact hx pins σ H s e s' I hq
 | ok fl =>
  cases fl with
  | ret u => exact I.after hq
  | next => exact False.elim hq
  | brk => exact False.elim hq
  | cont => exact False.elim hq
theorem pe_call (F : FnOk X.prog X.w X.K X.mg X.base CX k f fd ps sp) (hr : Room k X.A) (hg : Gl X x) (hm : X.mg x = some (.ref f)) (hk : PySem.W.keepIn X.K (.ref f) = true) (hb : Binds X.K fd ps ds) (hd : Vals dvs ds) (hx : Passes CX X E)
  (ha : PA X (e :: es) t) (hdb : (x == ("__debug__" : Str)) = false := by decide) (he : starEach (e :: es) X.env = (false, eval e X.env) :: starEach es X.env := by rfl) (hpl : (backTo pos (starEach es X.env)).any (·.1) = false := by rfl) :
  PE X (.Call (.Name x p) (e :: es) [] pos) (tCall sp dvs E t) := by
 intro pins s σ H Q I h
 refine wpAny_Call_Name_kw (ld_glob I hg hm ?_ hdb)
 refine PySem.W.callWith_K (h₀ := X.base) I.ok.mod.kin hk (thn (ha pos pins s σ H _ I h) fun us s1 ⟨vs, H1, I1, r, q⟩ => ⟨I1.kIn, ?_⟩) he hpl
 exact run_fn F hr hb hd hx I1 r q
theorem pe_meth {pl : Sem Bool} (he : PE X o ta) (c : Cls X.K C) (hm : Meth X.K C m f) (F : FnOk X.prog X.w X.K X.mg X.base CX k f fd ps sp) (hr : Room k X.A) (hb : Binds X.K fd ps ds) (hd : Vals dvs ds) (hx : Passes CX X E) (ha : PA X (e :: es) t)
  (hst : starEach (e :: es) X.env = (false, eval e X.env) :: starEach es X.env := by rfl) (hpl : (backTo pos (starEach es X.env)).any (·.1) = false := by rfl)
  (ht : eval (.Call (.Attribute o m apos) (e :: es) [] pos) X.env = (do
   let ov ← eval o X.env
   standAt apos.atName
   let (f, first) ← holding [ov] (getMethod ov m pl)
   callWith pos f first (backTo pos (starEach (e :: es) X.env)) (backToKw pos (keywordEach [] X.env))) := by rfl) :
  PE X (.Call (.Attribute o m apos) (e :: es) [] pos) (tMeth C m sp dvs E ta t) := by
 intro pins s σ H Q I h
 refine PySem.W.methodCall_KW (pl := pl) (thn (he pins s σ H _ I h) fun u s1 ⟨x, H1, I1, rx, a, dx, fs, ex, ea, l, q⟩ => ?_) ht
 subst ex
 obtain rfl : u = Value.ref a := rx
 refine getmeth_ok I1 ea c hm l ?_
 refine PySem.W.callWith_K (first := [.ref a]) (h₀ := X.base) I.ok.mod.kin hm.kp (thn (ha pos pins s1 σ H1 _ I1 q) fun us s2 ⟨vs, H2, I2, r, q2⟩ => ⟨I2.kIn, ?_⟩) hst hpl
 exact run_fn (us := .ref a :: us) (vs := .ref a :: vs) F hr hb hd hx I2 (.cons rfl r) q2
theorem pe_meth0 {pl : Sem Bool} (he : PE X o ta) (c : Cls X.K C) (hm : Meth X.K C m f) (F : FnOk X.prog X.w X.K X.mg X.base CX k f fd ps sp) (hr : Room k X.A) (hb : Binds X.K fd ps ds) (hd : Vals dvs ds) (hx : Passes CX X E)
  (ht : eval (.Call (.Attribute o m apos) [] [] pos) X.env = (do
   let ov ← eval o X.env
   standAt apos.atName
   let (f, first) ← holding [ov] (getMethod ov m pl)
   callWith pos f first (backTo pos (starEach [] X.env)) (backToKw pos (keywordEach [] X.env))) := by rfl) :
  PE X (.Call (.Attribute o m apos) [] [] pos) (tMeth C m sp dvs E ta tNil) := by
 intro pins s σ H Q I h
 refine PySem.W.methodCall_KW (pl := pl) (thn (he pins s σ H _ I h) fun u s1 ⟨x, H1, I1, rx, a, dx, fs, ex, ea, l, q⟩ => ?_) ht
 subst ex
 obtain rfl : u = Value.ref a := rx
 refine getmeth_ok I1 ea c hm l ?_
 exact PySem.W.callWith_K0 (first := [.ref a]) I1.kIn hm.kp (run_fn (us := [.ref a]) (vs := [.ref a]) F hr hb hd hx I1 (.cons rfl .nil) q)
structure Mk (K : PySem.W.Frag) (C f : Addr) : Prop where
 makes : PySem.W.makesIn K C = true
 init : PySem.W.findIn K (.ref C) "__init__" = some (some (.ref f))
 fn : PySem.W.isFn K (.ref f) = true
 kp : PySem.W.keepIn K (.ref C) = true
theorem run_make {pins : List (Addr × Obj)} {σ : St} {H : Hp} {s : Shared} {Q : VK} {us : List Value} {vs : List V} (M : Mk X.K C f) (F : FnOk X.prog X.w X.K X.mg X.base CX k f fd ps sp) (hr : Room (k + 1) X.A) (hb : Binds X.K fd ps ds) (hd : Vals dvs ds)
  (hx : Passes CX X E) (I : Inv X pins σ H s) (r : Vals vs us)
  (h : ∀ x dx, H x = none → H dx = none → dx ≠ x → sp (.ref x :: (vs ++ dvs)) (upd (upd H dx (.own x)) x (.ins C dx [])) (fun v H2 => v = .non ∧ Q (.ref x) H2) E) :
  wpAny (model X.prog X.w) X.A (call (.ref C) us) (EP X pins σ Q) X.xe s := by
 have hq := h (s.heap.objs.size + 1) s.heap.objs.size (I.hok.fresh (Nat.le_succ _)) (I.hok.fresh (Nat.le_refl _)) (Nat.ne_of_lt (Nat.lt_succ_self _))
 have I2 := Inv.made (C := C) I
 have r2 : Vals (V.ref (s.heap.objs.size + 1) :: (vs ++ dvs)) (Value.ref (s.heap.objs.size + 1) :: (us ++ ds)) := .cons rfl (r.append hd)
 have hl : (Value.ref (s.heap.objs.size + 1) :: us ++ ds).length = ps.length := by
  have e := r2.length
  rw [F.len _ _ _ _ hq] at e
  exact e.symm
 refine wpAny_call (make_map (f := f) I.kIn M.makes M.init (beq_iff_eq.mp M.fn) (codeAny_mono (F.run _ X.stack _ _ ⟨Value.ref (s.heap.objs.size + 1) :: us, []⟩ (Value.ref (s.heap.objs.size + 1) :: (us ++ ds)) _ _ E (hr.make C us [])
  (I2.env0.make C us []) (hb _ (Value.ref (s.heap.objs.size + 1) :: us) I2.kIn hl) r2 hq) fun r s' hq' => ?_))
 cases r with
 | error e => exact hx pins σ _ _ e s' I2 hq'
 | ok fl =>
  cases fl with
  | ret u =>
   obtain ⟨v, H', I3, rv, ev, q3⟩ := I2.after hq'
   subst ev
   exact ⟨rv, ⟨V.ref (s.heap.objs.size + 1), H', I3, rfl, q3⟩⟩
  | next => exact False.elim hq'
  | brk => exact False.elim hq'
  | cont => exact False.elim hq'
theorem pe_make (M : Mk X.K C f) (F : FnOk X.prog X.w X.K X.mg X.base CX k f fd ps sp) (hr : Room (k + 1) X.A) (hg : Gl X x) (hm : X.mg x = some (.ref C)) (hb : Binds X.K fd ps ds) (hd : Vals dvs ds) (hx : Passes CX X E)
  (ha : PA X (e :: es) t) (hdb : (x == ("__debug__" : Str)) = false := by decide) (he : starEach (e :: es) X.env = (false, eval e X.env) :: starEach es X.env := by rfl) (hpl : (backTo pos (starEach es X.env)).any (·.1) = false := by rfl) :
  PE X (.Call (.Name x p) (e :: es) [] pos) (tMake C sp dvs E t) := by
 intro pins s σ H Q I h
 refine wpAny_Call_Name_kw (ld_glob I hg hm ?_ hdb)
 refine PySem.W.callWith_K (h₀ := X.base) I.ok.mod.kin M.kp (thn (ha pos pins s σ H _ I h) fun us s1 ⟨vs, H1, I1, r, q⟩ => ⟨I1.kIn, ?_⟩) he hpl
 exact run_make M F hr hb hd hx I1 r q
end
structure FnScope (N P : List Str) (sc : Scope) : Prop where
 kind : sc.kind = .function
 co : sc.isCoroutine = false
 gen : sc.isGenerator = false
 nd : N.Nodup
 pre : N.take P.length = P
 par : ∀ x ∈ P, sc.names.lookup x = some .local ∨ sc.names.lookup x = some .cell
 nofree : ∀ y ∈ sc.names, y.2 ≠ .free
theorem bindL_out {kindOf : Str → Option NameKind} {x : Str} : ∀ {binds : List (Str × Value)} {m : Str → Option Value}, (∀ v, (x, v) ∉ binds) → bindL kindOf binds m x = m x
 | [], _, _ => rfl
 | (n, v) :: r, m, h => by
  unfold bindL
  rw [bindL_out fun w hw => h w (List.mem_cons_of_mem _ hw)]
  split
  ·have : x ≠ n := by rintro rfl; exact h v List.mem_cons_self
   simp [this]
  ·rfl
theorem bindC_out {kindOf : Str → Option NameKind} {x : Str} : ∀ {binds : List (Str × Value)} {m : Str → Option Value}, (∀ v, (x, v) ∉ binds) → bindC kindOf binds m x = m x
 | [], _, _ => rfl
 | (n, v) :: r, m, h => by
  unfold bindC
  rw [bindC_out fun w hw => h w (List.mem_cons_of_mem _ hw)]
  split
  ·rfl
  ·have : x ≠ n := by rintro rfl; exact h v List.mem_cons_self
   simp [this]
theorem bindL_get {kindOf : Str → Option NameKind} {x : Str} {v : Value} : ∀ {P : List Str} {vs : List Value} {i : Nat} {m : Str → Option Value}, P.Nodup → P[i]? = some x → vs[i]? = some v → kindOf x = some .local →
  bindL kindOf (P.zip vs) m x = some v
 | [], _, _, _, _, h, _, _ => by simp at h
 | _ :: _, [], _, _, _, _, h, _ => by simp at h
 | p :: P, w :: vs, 0, m, nd, h1, h2, hk => by
  simp at h1 h2; subst h1; subst h2
  show bindL kindOf ((p, w) :: P.zip vs) m p = _
  unfold bindL
  rw [bindL_out fun v hv => (List.nodup_cons.mp nd).1 (List.of_mem_zip hv).1, if_pos hk]
  simp
 | p :: P, w :: vs, i + 1, m, nd, h1, h2, hk => by
  show bindL kindOf ((p, w) :: P.zip vs) m x = _
  unfold bindL
  exact bindL_get (i := i) (List.nodup_cons.mp nd).2 (by simpa using h1) (by simpa using h2) hk
theorem bindC_get {kindOf : Str → Option NameKind} {x : Str} {v : Value} : ∀ {P : List Str} {vs : List Value} {i : Nat} {m : Str → Option Value}, P.Nodup → P[i]? = some x → vs[i]? = some v → kindOf x ≠ some .local →
  bindC kindOf (P.zip vs) m x = some v
 | [], _, _, _, _, h, _, _ => by simp at h
 | _ :: _, [], _, _, _, _, h, _ => by simp at h
 | p :: P, w :: vs, 0, m, nd, h1, h2, hk => by
  simp at h1 h2; subst h1; subst h2
  show bindC kindOf ((p, w) :: P.zip vs) m p = _
  unfold bindC
  rw [bindC_out fun v hv => (List.nodup_cons.mp nd).1 (List.of_mem_zip hv).1, if_neg hk]
  simp
 | p :: P, w :: vs, i + 1, m, nd, h1, h2, hk => by
  show bindC kindOf ((p, w) :: P.zip vs) m x = _
  unfold bindC
  exact bindC_get (i := i) (List.nodup_cons.mp nd).2 (by simpa using h1) (by simpa using h2) hk
def start (N : List Str) (vs : List V) : St := vs.map some ++ List.replicate (N.length - vs.length) none
def cxOf (CX : CXT) (P : Program) (w : World) (K : PySem.W.Frag) (mg : Str → Option Value) (base : Heap) (N : List Str) (qual : Str) (scope : Scope) (f : Addr) (cd : Value) (A : Around) (outer : List Env) (s : Shared) (H : Hp) (E : XK) : Cx where
 prog := P
 w := w
 K := K
 mg := mg
 base := base
 A := A.deeper (envOfC qual scope s.heap.objs.size f cd)
 N := N
 s₀ := s
 H₀ := H
 env := envOfC qual scope s.heap.objs.size f cd
 outer := outer
 stack := envOfC qual scope s.heap.objs.size f cd :: outer
 ex := []
 calm := true
 fn := fun _ => true
 pn := []
 xe := fun e s' => wpAny (model P w) (A.deeper (envOfC qual scope s.heap.objs.size f cd)) (leaving (envOfC qual scope s.heap.objs.size f cd) e) (fun _ s'' => CX outer H s E e s'') (fun e' s'' => CX outer H s E e' s'') s'
theorem cell_has {sc : Scope} {n : Nat} {x : Str} (h : sc.names.lookup x = some .cell) : ∃ c, (cellsFrom n sc.names []).lookup x = some c := by
 have q := PySem.W.cellsFrom_some sc.names n [] (.inl h)
 exact Option.isSome_iff_exists.mp q
theorem inv_start {CX : CXT} {P : Program} {w : World} {K : PySem.W.Frag} {mg : Str → Option Value} {base : Heap} {N ps : List Str} {qual : Str} {scope : Scope} {f : Addr} {cd : Value} {A : Around} {outer : List Env} {s s1 : Shared} {H : Hp} {E : XK} {us : List Value} {vs : List V}
  (S : FnScope N ps scope) (hd : A.handled = none) (e0 : Env0 P w K mg base A outer s H) (hl : vs.length = ps.length) (r : Vals vs us)
  (x : InCallC s s.heap.objs.size (bindL (envOfC qual scope s.heap.objs.size f cd).kindOf (ps.zip us) fun _ => none) (cellsFrom (s.heap.objs.size + 1) scope.names []) (bindC (envOfC qual scope s.heap.objs.size f cd).kindOf (ps.zip us) fun _ => none) s1) :
  Inv (cxOf CX P w K mg base N qual scope f cd A outer s H E) [] (start N vs) H s1 := by
 have hpl : ps.length ≤ N.length := by have := congrArg List.length S.pre; rw [List.length_take] at this; omega
 obtain ⟨h1, tk, rfl, hk⟩ := x.done
 have noA : ∀ b : Addr, b ∉ (cxOf CX P w K mg base N qual scope f cd A outer s H E).ex := fun b z => absurd (show b ∈ ([] : List Addr) from z) (by simp)
 refine ⟨⟨e0.mod, S.kind, rfl, rfl, Nat.le_refl _, fun y z c h1 h2 => ?_, fun y hy => ?_, fun y c _ h => ?_, fun _ => hd, Around.frames_deeper e0.frames, .inr ⟨rfl, rfl⟩, fun b z => absurd z (noA b), e0.bs, e0.bsz, fun b _ _ => noA b, fun b z => absurd z (noA b), e0.funs, e0.frf⟩,
  rfl, e0.bare, Un.kept hk, ⟨_, x.toInCall.ns, fun i y v h1 h2 h3 => ?_⟩, fun y c h => ⟨_, x.cell y c h⟩, e0.hok.fresh (Nat.le_refl _), fun y c h => ?_, fun p hp => absurd (show p ∈ ([] : List (Addr × Obj)) from hp) (by simp), e0.hok.kept hk, ?_⟩
 ·exact name_of_addr x.apart (PySem.mem_of_lookup h1) (PySem.mem_of_lookup h2)
 ·have hy : scope.names.lookup y = some .cell ∨ scope.names.lookup y = some .free := hy
  rcases hy with hy | hy
  ·exact cell_has hy
  ·exact absurd rfl (S.nofree _ (PySem.mem_of_lookup hy))
 ·exact Nat.le_of_lt (x.above y c (PySem.mem_of_lookup h))
 ·have hi : i < vs.length := by
   unfold start at h2
   by_cases hi : i < vs.length
   ·exact hi
   ·rw [List.getElem?_append_right (by simpa using hi)] at h2
    rw [List.getElem?_replicate] at h2
    split at h2 <;> cases h2
  have ha : vs[i]? = some v := by
   unfold start at h2
   rw [List.getElem?_append_left (by simpa using hi), List.getElem?_map] at h2
   cases e : vs[i]? with
   | none => rw [e] at h2; cases h2
   | some a => rw [e] at h2; cases h2; rfl
  obtain ⟨u, hu, rv⟩ := r.get ha
  have hp : ps[i]? = some y := by
   rw [← S.pre, List.getElem?_take_of_lt (by omega)]; exact h1
  have ndP : ps.Nodup := by rw [← S.pre]; exact S.nd.sublist (List.take_sublist _ _)
  refine ⟨u, rv, ?_⟩
  rcases S.par y (List.mem_of_getElem? hp) with k | k
  ·exact .inl ⟨k, bindL_get ndP hp hu k⟩
  ·obtain ⟨c, e⟩ := cell_has (n := s.heap.objs.size + 1) k
   refine .inr ⟨.inl k, c, e, ?_⟩
   have q := x.cell y c e
   rw [bindC_get ndP hp hu (by show scope.names.lookup y ≠ _; rw [k]; decide)] at q
   exact q
 ·exact e0.hok.fresh (Nat.le_of_lt (x.above y c (PySem.mem_of_lookup h)))
 ·unfold start
  show _ = N.length
  rw [List.length_append, List.length_map, List.length_replicate]
  omega
theorem fn_of {CX : CXT} {P : Program} {w : World} {K : PySem.W.Frag} {mg : Str → Option Value} {base : Heap} {k : Nat} {f : Addr} {name qual : Str} {params : Arguments} {body : List Stmt} {scope : Scope} {dV kV doc pm cdv ct oc : Value} {an od : Option Addr}
  {osl : Array (Option Value)} {N ps : List Str} {sp : Sp} (lk : K.lookup f = some ⟨oc, od, .func (PySem.W.fnOf name qual params body scope dV kV doc pm an cdv ct), osl⟩) (hcd : PySem.W.codeIn K cdv qual = true) (S : FnScope N ps scope)
  (len : ∀ vs H Q E, sp vs H Q E → vs.length = ps.length)
  (hbody : ∀ (A : Around) (outer : List Env) (s : Shared) (H : Hp) (vs : List V) (Q : VK) (E : XK), Room k (A.deeper (envOfC qual scope s.heap.objs.size f cdv)) → sp vs H Q E →
   ∃ t, PSs (cxOf CX P w K mg base N qual scope f cdv A outer s H E) body t ∧ t { nx := fun _ H' => Q .non H', rt := Q } (start N vs) H) :
  FnOk P w K mg base CX (k + 1) f (PySem.W.fnOf name qual params body scope dV kV doc pm an cdv ct) ps sp := by
 refine ⟨len, fun A outer s H args us vs Q E hr e0 hb r hsp => ?_⟩
 have hl := len _ _ _ _ hsp
 have KX : K.In s.heap := e0.mod.kin.keeps fun b o e => (e0.bs b o e).1
 have lim : s.heap.NoLimit := e0.mod.nolimit.keeps fun b o e => (e0.bs b o e).1
 have hkind : ∀ y ∈ ps.zip us, scope.names.lookup y.1 = some .local ∨ (scope.names.lookup y.1 = some .cell ∧ ((cellsFrom (s.heap.objs.size + 1) scope.names []).lookup y.1).isSome = true) := fun ⟨n, v⟩ hy => by
  rcases S.par n (List.of_mem_zip hy).1 with q | q
  ·exact .inl q
  ·exact .inr ⟨q, PySem.W.cellsFrom_some _ _ _ (.inl q)⟩
 refine codeAny_call_function hr.depth (KX _ _ lk) rfl S.co S.gen rfl (PySem.W.codeRec_of KX hcd) (hb _ _ _ _ ?_)
 refine wpAny_newFunctionEnv_cells S.kind hkind fun env he s1 x => ?_
 subst he
 refine ⟨lim.keeps x.toInCall.keep, codeAny_func ?_⟩
 obtain ⟨t, ht, hq⟩ := hbody A outer s H vs Q E (hr.deeper _) hsp
 have I : Inv (cxOf CX P w K mg base N qual scope f cdv A outer s H E) [] (start N vs) H s1 := inv_start S hr.hd e0 hl r x
 refine wpAny_mono (ht [] s1 (start N vs) H _ I hq) (fun fl s' hs => ?_) fun e s' hs => hs
 have fin : ∀ {σ' : St} {H' : Hp} {v : V} {u : Value}, Inv (cxOf CX P w K mg base N qual scope f cdv A outer s H E) [] σ' H' s' → RelV v u → Q v H' → CE outer P w H s Q u s' :=
  fun {σ' H' v u} J rv q => ⟨v, H', J.os, J.bare, J.base, J.hok, rv, q⟩
 cases fl with
 | ret u =>
  obtain ⟨v, σ', H', J, rv, q⟩ := hs
  exact fin J rv q
 | next =>
  obtain ⟨σ', H', J, q⟩ := hs
  exact fin (v := V.non) (u := Value.none) J rfl q
 | brk =>
  obtain ⟨_, _, _, q⟩ := hs
  exact False.elim q
 | cont =>
  obtain ⟨_, _, _, q⟩ := hs
  exact False.elim q
end L2
namespace L2
open PySem PySem.Spec PyProof.Rows
section
variable {X : Cx} {x : Str} {p pos : Pos} {e : Expr} {es : List Expr} {t : TA} {id T : String} {r : List V → Hp → VK → Prop}
def tCB (r : List V → Hp → VK → Prop) (t : TA) : TE := fun σ H Q => t σ H fun vs H1 => r vs H1 Q
theorem pe_callB (hc : CallR X (.builtin id) r) (hg : Gl X x) (hm : X.mg x = none) (hv : bootBuiltins x = some (.builtin id)) (ha : PA X (e :: es) t) (hn : x ≠ "__name__" := by decide) (hdb : (x == ("__debug__" : Str)) = false := by decide)
  (he : starEach (e :: es) X.env = (false, eval e X.env) :: starEach es X.env := by rfl) (hpl : (backTo pos (starEach es X.env)).any (·.1) = false := by rfl) : PE X (.Call (.Name x p) (e :: es) [] pos) (tCB r t) := by
 intro pins s σ H Q I h
 refine wpAny_Call_Name_kw (ld_blt I hg hm hv ?_ hn hdb)
 exact PyProof.Rows.callWith_builtin1 (thn (ha pos pins s σ H _ I h) fun us s1 ⟨vs, H1, I1, r1, q1⟩ => hc pins s1 σ H1 vs us Q I1 r1 q1) he hpl
theorem pe_callTy (hc : CallR X (.type T) r) (hg : Gl X x) (hm : X.mg x = none) (hv : bootBuiltins x = some (.type T)) (ha : PA X (e :: es) t) (hn : x ≠ "__name__" := by decide) (hdb : (x == ("__debug__" : Str)) = false := by decide)
  (he : starEach (e :: es) X.env = (false, eval e X.env) :: starEach es X.env := by rfl) (hpl : (backTo pos (starEach es X.env)).any (·.1) = false := by rfl) : PE X (.Call (.Name x p) (e :: es) [] pos) (tCB r t) := by
 intro pins s σ H Q I h
 refine wpAny_Call_Name_kw (ld_blt I hg hm hv ?_ hn hdb)
 exact PyProof.Rows.callWith_type1 (thn (ha pos pins s σ H _ I h) fun us s1 ⟨vs, H1, I1, r1, q1⟩ => hc pins s1 σ H1 vs us Q I1 r1 q1) he hpl
end
end L2
namespace HT
open PySem PyProof.Rows
def lexLt : List Int → List Int → Bool
 | [], [] => false
 | [], _ :: _ => true
 | _ :: _, [] => false
 | x :: xs, y :: ys => if x = y then lexLt xs ys else decide (x < y)
theorem lexLt_cons (x y : Int) (xs ys : List Int) : lexLt (x :: xs) (y :: ys) = if x = y then lexLt xs ys else decide (x < y) := rfl
theorem lexLt_nil_nil : lexLt [] [] = false := rfl
theorem lexLt_nil_cons (y : Int) (ys : List Int) : lexLt [] (y :: ys) = true := rfl
theorem lexLt_cons_nil (x : Int) (xs : List Int) : lexLt (x :: xs) [] = false := rfl
theorem eqAt_int (A : Around) (s : Shared) (a : Int) (t : Tok) (c : Int) (u : Tok) : ∃ e, SeqAt.EqAt A s (.int a t) (.int c u) e ∧ (e = true ↔ a = c) :=
 ⟨(a == c), SeqAt.EqAt.int_int a t c u, by simp⟩
theorem rcLt_int (A : Around) (s : Shared) (a : Int) (t : Tok) (c : Int) (u : Tok) (prog : Program) (w : World) (E : Value → Shared → Prop) (Q : Value → Shared → Prop) (h : Q (.bool (decide (a < c))) s) :
  wpAny (model prog w) A (richCompare .Lt (.int a t) (.int c u)) Q E s :=
 (PyProof.Rows.lt_int h : wpAny (model prog w) A (compareOp .Lt (.int a t) (.int c u)) Q E s)
section
variable {prog : Program} {w : World} {A : Around} {E : Value → Shared → Prop} {s : Shared}
def sIx (n d : Nat) : Option Int → Nat
 | none => d
 | some v => if v < 0 then (v + (n : Int)).toNat else min v.toNat n
theorem sIx_none (n d : Nat) : sIx n d none = d := rfl
theorem sIx_nat (n d k : Nat) : sIx n d (some (k : Int)) = min k n := by
 show (if (k : Int) < 0 then ((k : Int) + (n : Int)).toNat else min (k : Int).toNat n) = min k n
 rw [if_neg (by omega), Int.toNat_natCast]
end
end HT
namespace L2
open PySem PySem.Spec PyProof.Rows
abbrev TO := St → Hp → (Option Int → Hp → Prop) → Prop
def PO (X : Cx) (e : Option Expr) (t : TO) : Prop :=
 ∀ (pins : List (Addr × Obj)) (s : Shared) (σ : St) (H : Hp) (Q : Option Int → Hp → Prop), Inv X pins σ H s → t σ H Q →
  wpAny (model X.prog X.w) X.A (evalPart e X.env) (fun u s' => ∃ o H', Inv X pins σ H' s' ∧ IsPart u o ∧ Q o H') X.xe s
def tNoPart : TO := fun _ H Q => Q none H
def tPart (t : TE) : TO := fun σ H Q => t σ H fun x H1 => ∃ i, x = .int i ∧ Q (some i) H1
theorem intsAre_of {ns : List Int} : ∀ {us : List Value}, Vals (ns.map V.int) us → IntsAre us ns := by
 induction ns with
 | nil => intro us r; rw [List.map_nil] at r; cases r; exact .nil
 | cons n ns ih =>
  intro us r
  rw [List.map_cons] at r
  cases r with
  | cons r1 r2 =>
   obtain ⟨t, e⟩ := r1
   subst e
   exact .cons n t (ih r2)
section
variable {X : Cx} {e : Expr} {te : TE} {lo hi : Option Expr} {tl th : TO} {pos p2 : Pos}
theorem po_none : PO X none tNoPart := by
 intro pins s σ H Q I h
 rw [evalPart_none]
 exact wpAny_pure ⟨none, H, I, .none, h⟩
theorem po_some (h : PE X e te) : PO X (some e) (tPart te) := by
 intro pins s σ H Q I hw
 rw [evalPart_some]
 refine thn (h pins s σ H _ I hw) fun u s1 ⟨x, H1, I1, r1, q1⟩ => ?_
 obtain ⟨i, rfl, q⟩ := q1
 obtain ⟨t, rfl⟩ := r1
 exact ⟨some i, H1, I1, .int i t, q⟩
def SlR (X : Cx) (r : V → Option Int → Option Int → Hp → VK → Prop) : Prop :=
 ∀ (pins : List (Addr × Obj)) (s : Shared) (σ : St) (H : Hp) (x : V) (v vl vu : Value) (lo hi : Option Int) (sl : Addr) (Q : VK), Inv X pins σ H s → RelV x v → s.heap.IsSliceOf sl vl vu .none → IsPart vl lo → IsPart vu hi → r x lo hi H Q →
  ∃ T id, typeLookup (.type T) "__getitem__" = pure (some (.builtin id)) ∧ s.TypeIs v T ∧ wpAny (model X.prog X.w) X.A (getItem v (.ref sl)) (EP X pins σ Q) X.xe s
def tSl (r : V → Option Int → Option Int → Hp → VK → Prop) (te : TE) (tl th : TO) : TE := fun σ H Q => te σ H fun x H1 => tl σ H1 fun l H2 => th σ H2 fun u H3 => r x l u H3 Q
theorem pe_slice {r : V → Option Int → Option Int → Hp → VK → Prop} (hr : SlR X r) (he : PE X e te) (hl : PO X lo tl) (hu : PO X hi th) : PE X (.Subscript e (.Slice lo hi none p2) pos) (tSl r te tl th) := by
 intro pins s σ H Q I h
 refine Subscript_ (thn (he pins s σ H _ I h) fun v s1 ⟨x, H1, I1, r1, q1⟩ => ?_)
 refine wpAny_Slice (thn (hl pins s1 σ H1 _ I1 q1) fun vl s2 ⟨l, H2, I2, pl, q2⟩ => thn (hu pins s2 σ H2 _ I2 q2) fun vu s3 ⟨u, H3, I3, pu, q3⟩ => ?_)
 rw [evalPart_none]
 refine wpAny_pure ?_
 have I4 : Inv X pins σ H3 { s3 with heap := s3.heap.push { cls := .type "slice", data := .fields #[vl, vu, .none] } } := I3.kept (t' := s3.toks) fun b ob q => Heap.get?_push_of_some _ q
 obtain ⟨T, id, hT, ht, hg⟩ := hr pins { s3 with heap := s3.heap.push { cls := .type "slice", data := .fields #[vl, vu, .none] } } σ H3 x v vl vu l u s3.heap.objs.size Q I4 r1 (Heap.IsSliceOf.new ..) pl pu q3
 show wpAny (model X.prog X.w) X.A (subscriptTail e (.Slice lo hi none p2) v (.ref s3.heap.objs.size)) (EP X pins σ Q) X.xe { s3 with heap := s3.heap.push { cls := .type "slice", data := .fields #[vl, vu, .none] } }
 exact tail_any (ops := [.ref s3.heap.objs.size, v]) ht hT hg (by with_unfolding_all rfl)
def cutV (xs : List V) (lo hi : Option Int) : List V := (xs.drop (HT.sIx xs.length 0 lo)).take (HT.sIx xs.length xs.length hi - HT.sIx xs.length 0 lo)
theorem cutV_length (xs : List V) (lo hi : Option Int) : (cutV xs lo hi).length ≤ xs.length := by
 unfold cutV
 rw [List.length_take, List.length_drop]
 omega
end
end L2
namespace L2
open PySem PySem.Spec PyProof.Rows
def ixN (n : Nat) (i : Int) : Option Nat := if 0 ≤ i then (if i < n then some i.toNat else none) else if -(n : Int) ≤ i then some (i + n).toNat else none
def atI {α : Type} (xs : List α) (i : Int) : Option α := (ixN xs.length i).bind fun j => xs[j]?
theorem ixN_seq {n : Nat} {i : Int} {j : Nat} (h : ixN n i = some j) : seqIndex? i n = some j ∧ j < n ∧ -(n : Int) ≤ i ∧ i < n := by
 unfold ixN at h
 by_cases h0 : 0 ≤ i
 ·rw [if_pos h0] at h
  by_cases h1 : i < n
  ·rw [if_pos h1] at h
   have e : i.toNat = j := Option.some.inj h
   exact ⟨by rw [seqIndex_of h0 h1, e], by omega, by omega, h1⟩
  ·rw [if_neg h1] at h; cases h
 ·rw [if_neg h0] at h
  by_cases h1 : -(n : Int) ≤ i
  ·rw [if_pos h1] at h
   have e : (i + n).toNat = j := Option.some.inj h
   exact ⟨by rw [seqIndex_neg (by omega) h1, e], by omega, h1, by omega⟩
  ·rw [if_neg h1] at h; cases h
theorem atI_get {α : Type} {xs : List α} {i : Int} {v : α} (h : atI xs i = some v) : ∃ j, seqIndex? i xs.length = some j ∧ xs[j]? = some v ∧ j < xs.length ∧ -(xs.length : Int) ≤ i ∧ i < xs.length := by
 unfold atI at h
 cases e : ixN xs.length i with
 | none => rw [e] at h; cases h
 | some j =>
  rw [e] at h
  obtain ⟨h1, h2, h3, h4⟩ := ixN_seq e
  exact ⟨j, h1, h, h2, h3, h4⟩
theorem atI_nat {α : Type} {xs : List α} {j : Nat} {v : α} (h : xs[j]? = some v) : atI xs (j : Int) = some v := by
 have hj : j < xs.length := (List.getElem?_eq_some_iff.mp h).1
 have e : ixN xs.length (j : Int) = some j := by
  unfold ixN
  rw [if_pos (by omega), if_pos (by omega)]; simp
 unfold atI; rw [e]; exact h
def PlainIx (b : Expr) : Prop := ∀ o i, subscripted b false o i = operate [o, i] (getItem o i)
def IxR (X : Cx) (r : R2) : Prop :=
 ∀ (value slice : Expr) (pins : List (Addr × Obj)) (s : Shared) (σ : St) (H : Hp) (x y : V) (v u : Value) (Q : VK), Inv X pins σ H s → RelV x v → RelV y u → r x y H Q →
  subscripted slice false v u = operate [v, u] (getItem v u) → wpAny (model X.prog X.w) X.A (subscriptTail value slice v u) (EP X pins σ Q) X.xe s
def MtR (X : Cx) (id : String) (r : V → List V → Hp → VK → Prop) : Prop :=
 ∀ (pins : List (Addr × Obj)) (s : Shared) (σ : St) (H : Hp) (x : V) (xs : List V) (v : Value) (us : List Value) (Q : VK), Inv X pins σ H s → RelV x v → Vals xs us → r x xs H Q →
  wpAny (model X.prog X.w) X.A (call (.builtin id) (v :: us)) (EP X pins σ Q) X.xe s
section
variable {X : Cx} {a b : Expr} {ta tb : TE} {pos : Pos}
theorem pe_ix {r : R2} (hr : IxR X r) (ha : PE X a ta) (hb : PE X b tb) (hs : PlainIx b) : PE X (.Subscript a b pos) (tOp r ta tb) := by
 intro pins s σ H Q I h
 exact Subscript_ (binT ha hb I h fun v u s2 x y H2 I2 rx ry q => hr a b pins s2 σ H2 x y v u Q I2 rx ry q (hs _ _))
def rIxL (K : PySem.W.Frag) : R2 := fun x y H Q => ∃ p xs i v, x = .ref p ∧ y = .int i ∧ SqL K H p xs ∧ atI xs i = some v ∧ Q v H
def rIxT (K : PySem.W.Frag) : R2 := fun x y H Q => ∃ p xs i v, x = .ref p ∧ y = .int i ∧ SqT K H p xs ∧ atI xs i = some v ∧ Q v H
theorem ix_list : IxR X (rIxL X.K) := by
 intro value slice pins s σ H x y v u Q I rx ry h hs
 obtain ⟨p, xs, i, z, rfl, rfl, hq, he, q⟩ := h
 cases rx
 obtain ⟨t, rfl⟩ := ry
 obtain ⟨its, r, pl, hz⟩ := I.list hq
 obtain ⟨j, h1, h2, h3, h4, h5⟩ := atI_get he
 obtain ⟨w, ew, rw'⟩ := r.get h2
 have hl := r.length
 have hn := line63
 have fin : EP X pins σ Q w s := ⟨z, H, I, rw', q⟩
 by_cases h0 : 0 ≤ i
 ·have hj : i.toNat = j := by
   rw [seqIndex_of h0 h5] at h1
   exact Option.some.inj h1
  exact item_listR pl.isList h0 (by omega) (by rw [hj]; simpa using ew) fin hs
 ·have hj : (i + (its.toArray.size : Int)).toNat = j := by
   rw [seqIndex_neg (by omega) h4] at h1
   rw [List.size_toArray, ← hl]
   exact Option.some.inj h1
  exact subscriptTail_builtinR (x := w) pl.isList.typeIs slot_list_getitem.lookup
   (wpAny_getItem_list_neg (Q := fun r s' => r = w ∧ EP X pins σ Q r s') pl.isList (by omega) (by rw [List.size_toArray] <;> omega) (by omega) (by rw [hj]; simpa using ew) ⟨rfl, fin⟩) hs
theorem ix_tup : IxR X (rIxT X.K) := by
 intro value slice pins s σ H x y v u Q I rx ry h hs
 obtain ⟨p, xs, i, z, rfl, rfl, hq, he, q⟩ := h
 cases rx
 obtain ⟨t, rfl⟩ := ry
 obtain ⟨its, r, pl, hz⟩ := I.tuple hq
 obtain ⟨j, h1, h2, h3, h4, h5⟩ := atI_get he
 obtain ⟨w, ew, rw'⟩ := r.get h2
 have hl := r.length
 have hn := line63
 have fin : EP X pins σ Q w s := ⟨z, H, I, rw', q⟩
 exact subscriptTail_builtinR (x := w) pl.typeIs slot_tuple_getitem.lookup
  (getItem_tuple (j := j) (Q := fun r s' => r = w ∧ EP X pins σ Q r s') pl (by omega) (by omega) (by rw [List.size_toArray, ← hl]; exact h1) (by simpa using ew) ⟨rfl, fin⟩) hs
theorem mapSeq_set (its : List Value) (n j : Nat) (u : Value) : Obj.mapSeq (·.setIfInBounds j u) { cls := .type "list", data := .seq its.toArray n } = { cls := .type "list", data := .seq (its.set j u).toArray n } := by
 simp [Obj.mapSeq]
theorem Inv.lst {pins : List (Addr × Obj)} {σ : St} {H : Hp} {s : Shared} {p : Addr} {xs : List V} (I : Inv X pins σ H s) (h : H p = some (.lst xs)) :
  ∃ (its : List Value) (n : Nat), Vals xs its ∧ s.heap.get? p = some { cls := .type "list", data := .seq its.toArray n } ∧ xs.length ≤ sizeLine := by
 obtain ⟨z, its, n, r, e⟩ := I.hok p _ h
 exact ⟨its, n, r, e, z⟩
theorem Inv.lstUpd {pins : List (Addr × Obj)} {σ : St} {H : Hp} {s : Shared} {p : Addr} {xs ys : List V} {its its' : List Value} {n n' : Nat} {f : Obj → Obj} (I : Inv X pins σ H s) (h : H p = some (.lst xs))
  (ho : s.heap.get? p = some { cls := .type "list", data := .seq its.toArray n }) (hf : f { cls := .type "list", data := .seq its.toArray n } = { cls := .type "list", data := .seq its'.toArray n' }) (r : Vals ys its') (hz : ys.length ≤ sizeLine) (t : Nat) :
  Inv X pins σ (upd H p (.lst ys)) { s with heap := s.heap.update p f, toks := t } := by
 have e : (s.heap.update p f).get? p = some { cls := .type "list", data := .seq its'.toArray n' } := by
  rw [Heap.get?_update_self f ho (by rw [hf] <;> rfl), hf]
 refine I.write (x := p) (e := p) (by rw [h]; trivial) (.inl rfl) (fun b u hb q => (Heap.get?_update_other _ _ (Ne.symm hb)).trans q) ⟨_, e⟩ ?_
 exact ⟨hz, its', n', r, e⟩
def rSetL : V → V → V → Hp → (Hp → Prop) → Prop := fun o i v H Q => ∃ p xs k j, o = .ref p ∧ i = .int k ∧ H p = some (.lst xs) ∧ ixN xs.length k = some j ∧ Q (upd H p (.lst (xs.set j v)))
theorem set_list : PSet X rSetL := by
 intro pins s σ H o i v ov iv u Q I ro ri rv h
 obtain ⟨p, xs, k, j, rfl, rfl, hp, hj, q⟩ := h
 cases ro
 obtain ⟨t, rfl⟩ := ri
 obtain ⟨its, n, r, ho, hz⟩ := I.lst hp
 obtain ⟨h1, h2, h3, h4⟩ := ixN_seq hj
 have hl := r.length
 have hn := line63
 have I' : Inv X pins σ (upd H p (.lst (xs.set j v))) { s with heap := s.heap.update p (Obj.mapSeq (·.setIfInBounds j u)) } :=
  I.lstUpd hp ho (mapSeq_set its n j u) (r.set rv j) (by rw [List.length_set]; exact hz) s.toks
 by_cases h0 : 0 ≤ k
 ·have hk : k.toNat = j := by
   rw [seqIndex_of h0 h4] at h1
   exact Option.some.inj h1
  exact PySem.W.ki_setAt ho h0 (by omega) (by rw [List.size_toArray, ← hl]; exact h4) (by rw [hk]; exact ⟨_, I', q⟩)
 ·have hk : (k + (its.toArray.size : Int)).toNat = j := by
   rw [seqIndex_neg (by omega) h3] at h1
   rw [List.size_toArray, ← hl]
   exact Option.some.inj h1
  exact PySem.W.ki_setBack ho (by omega) (by rw [List.size_toArray, ← hl]; exact h3) (by omega) (by rw [hk]; exact ⟨_, I', q⟩)
theorem slice_bounds (lo hi : Option Int) (n : Nat) : (sliceBounds lo hi none n).1 = ((HT.sIx n 0 lo : Nat) : Int) ∧ (sliceBounds lo hi none n).2.1 = ((HT.sIx n n hi : Nat) : Int) ∧ (sliceBounds lo hi none n).2.2 = 1 := by
 refine ⟨?_, ?_, rfl⟩
 ·cases lo with
  | none => simp [sliceBounds, HT.sIx]
  | some i =>
   simp only [sliceBounds, HT.sIx, Option.getD_none, show (1 : Int) > 0 by decide, if_true]
   by_cases h : i < 0
   ·simp only [h, if_true] <;> omega
   ·simp only [h, if_false] <;> omega
 ·cases hi with
  | none => simp [sliceBounds, HT.sIx]
  | some i =>
   simp only [sliceBounds, HT.sIx, Option.getD_none, show (1 : Int) > 0 by decide, if_true]
   by_cases h : i < 0
   ·simp only [h, if_true] <;> omega
   ·simp only [h, if_false] <;> omega
theorem slicePick_cut (its : List Value) (lo hi : Option Int) : slicePick its.toArray lo hi none = ((its.drop (HT.sIx its.length 0 lo)).take (HT.sIx its.length its.length hi - HT.sIx its.length 0 lo)).toArray := by
 obtain ⟨h1, h2, h3⟩ := slice_bounds lo hi its.toArray.size
 unfold slicePick
 rw [h1, h2, h3]
 simp only [sliceRange_one, pick_run, List.size_toArray] <;> rfl
def rSlL (K : PySem.W.Frag) : V → Option Int → Option Int → Hp → VK → Prop := fun x lo hi H Q => ∃ a xs, x = .ref a ∧ SqL K H a xs ∧ ∀ p, H p = none → Q (.ref p) (upd H p (.lst (cutV xs lo hi)))
theorem sl_list : SlR X (rSlL X.K) := by
 intro pins s σ H x v vl vu lo hi sl Q I rx hs pl pu h
 obtain ⟨a, xs, rfl, hx, q⟩ := h
 cases rx
 obtain ⟨its, r, ht, hz⟩ := I.list hx
 have hlen := r.length
 refine ⟨"list", _, slot_list_getitem.lookup, ht.isList.typeIs, ?_⟩
 refine wpAny_getItem_list_slice ht.isList hs pl pu .none (by simp) ?_ (by rw [List.size_toArray] <;> omega)
 rw [slicePick_cut, ← hlen]
 refine ⟨.ref s.heap.objs.size, _, I.laid (t' := s.toks) (o := .lst (cutV xs lo hi)) (fun b ob q => Heap.get?_push_of_some _ q) (Nat.le_refl _) ?_, rfl, q _ (I.hok.fresh (Nat.le_refl _))⟩
 exact ⟨Nat.le_trans (cutV_length xs lo hi) hz, _, 0, (r.drop (HT.sIx xs.length 0 lo)).take (HT.sIx xs.length xs.length hi - HT.sIx xs.length 0 lo), Heap.get?_push_size _ rfl⟩
def flatV : V → Bool
 | .non => true
 | .bl _ => true
 | .int _ => true
 | .str _ => true
 | _ => false
def eqV : V → V → Bool
 | .non, .non => true
 | .bl a, .bl b => a == b
 | .bl a, .int b => (if a then 1 else 0) == b
 | .int a, .bl b => a == (if b then 1 else 0)
 | .int a, .int b => a == b
 | .str a, .str b => a == b
 | _, _ => false
theorem eqAt_V {A : Around} {s : Shared} {y x : V} {u v : Value} (ry : RelV y u) (rx : RelV x v) (fy : flatV y = true) (fx : flatV x = true) : SeqAt.EqAt A s u v (eqV y x) := by
 cases y with
 | non =>
  cases ry
  cases x with
  | non => cases rx; exact SeqAt.EqAt.same _
  | bl b => cases rx; exact SeqAt.EqAt.none_bool b
  | int b => obtain ⟨t, rfl⟩ := rx; exact SeqAt.EqAt.none_int b t
  | str b => obtain ⟨t, rfl⟩ := rx; exact SeqAt.EqAt.none_str b t
  | _ => exact absurd (show false = true from fx) Bool.false_ne_true
 | bl a =>
  cases ry
  cases x with
  | non => cases rx; exact SeqAt.EqAt.bool_none a
  | bl b => cases rx; exact SeqAt.EqAt.bool_bool a b
  | int b => obtain ⟨t, rfl⟩ := rx; exact SeqAt.EqAt.bool_int a b t
  | str b => obtain ⟨t, rfl⟩ := rx; exact SeqAt.EqAt.bool_str a b t
  | _ => exact absurd (show false = true from fx) Bool.false_ne_true
 | int a =>
  obtain ⟨t', rfl⟩ := ry
  cases x with
  | non => cases rx; exact SeqAt.EqAt.int_none a t'
  | bl b => cases rx; exact SeqAt.EqAt.int_bool a t' b
  | int b => obtain ⟨t, rfl⟩ := rx; exact SeqAt.EqAt.int_int a t' b t
  | str b => obtain ⟨t, rfl⟩ := rx; exact SeqAt.EqAt.int_str a t' b t
  | _ => exact absurd (show false = true from fx) Bool.false_ne_true
 | str a =>
  obtain ⟨t', rfl⟩ := ry
  cases x with
  | non => cases rx; exact SeqAt.EqAt.str_none a t'
  | bl b => cases rx; exact SeqAt.EqAt.str_bool a t' b
  | int b => obtain ⟨t, rfl⟩ := rx; exact SeqAt.EqAt.str_int a t' b t
  | str b => obtain ⟨t, rfl⟩ := rx; exact SeqAt.EqAt.str_str a t' b t
  | _ => exact absurd (show false = true from fx) Bool.false_ne_true
 | _ => exact absurd (show false = true from fy) Bool.false_ne_true
def eqU (x : V) (u : Value) : Bool := match u with
 | .none => eqV .non x
 | .bool b => eqV (.bl b) x
 | .int i _ => eqV (.int i) x
 | .str z _ => eqV (.str z) x
 | _ => false
theorem eqU_of {x y : V} {u : Value} (r : RelV y u) (f : flatV y = true) : eqU x u = eqV y x := by
 cases y with
 | non => cases r; rfl
 | bl b => cases r; rfl
 | int i => obtain ⟨t, rfl⟩ := r; rfl
 | str z => obtain ⟨t, rfl⟩ := r; rfl
 | _ => exact absurd (show false = true from f) Bool.false_ne_true
theorem any_eqU {x : V} : ∀ {xs : List V} {us : List Value}, Vals xs us → xs.all flatV = true → us.any (eqU x) = xs.any fun y => eqV y x
 | _, _, .nil, _ => rfl
 | y :: xs, u :: us, .cons r t, f => by
  rw [List.all_cons, Bool.and_eq_true] at f
  rw [List.any_cons, List.any_cons, eqU_of r f.1, any_eqU t f.2]
theorem mem_eqAt {A : Around} {s : Shared} {x : V} {v : Value} (rx : RelV x v) (fx : flatV x = true) : ∀ {xs : List V} {us : List Value}, Vals xs us → xs.all flatV = true → ∀ u ∈ us, SeqAt.EqAt A s u v (eqU x u)
 | _, _, .nil, _ => fun u hu => by cases hu
 | y :: xs, u :: us, .cons r t, f => fun u' hu => by
  rw [List.all_cons, Bool.and_eq_true] at f
  rcases List.mem_cons.mp hu with rfl | hu
  ·rw [eqU_of r f.1]; exact eqAt_V r rx f.1 fx
  ·exact mem_eqAt rx fx t f.2 u' hu
def inV (x : V) (xs : List V) : Bool := xs.any fun y => eqV y x
def rIn (K : PySem.W.Frag) (neg : Bool) : R2 := fun x y H Q => ∃ p xs, y = .ref p ∧ (SqL K H p xs ∨ SqT K H p xs) ∧ flatV x = true ∧ xs.all flatV = true ∧ Q (.bl (if neg then !inV x xs else inV x xs)) H
theorem op_notIn_seq : OpR X (compareOp .NotIn) (rIn X.K true) := by
 intro pins s σ H x y v u Q I rx ry h
 obtain ⟨p, xs, rfl, hq, fx, fs, q⟩ := h
 cases ry
 rcases hq with hq | hq
 ·obtain ⟨its, r, pl, hz⟩ := I.list hq
  refine SeqAt.notIn_listAt (eqU x) pl.isList (fun w hw => mem_eqAt rx fx r fs w (by simpa using hw)) ⟨.bl _, H, I, rfl, ?_⟩
  rw [show its.toArray.any (eqU x) = its.any (eqU x) by simp, any_eqU r fs]
  exact q
 ·obtain ⟨its, r, pl, hz⟩ := I.tuple hq
  refine SeqAt.notIn_tupleAt (eqU x) pl (fun w hw => mem_eqAt rx fx r fs w (by simpa using hw)) ⟨.bl _, H, I, rfl, ?_⟩
  rw [show its.toArray.any (eqU x) = its.any (eqU x) by simp, any_eqU r fs]
  exact q
theorem call_len_seq : CallR X (.builtin "len") (fun xs H Q => ∃ p ys, xs = [.ref p] ∧ (SqL X.K H p ys ∨ SqT X.K H p ys) ∧ Q (.int ys.length) H) := by
 intro pins s σ H xs us Q I r h
 obtain ⟨p, ys, rfl, hq, q⟩ := h
 obtain ⟨u, rfl, rx⟩ := vals1 r
 cases rx
 have hn := line63
 rcases hq with hq | hq
 ·obtain ⟨its, r', pl, hz⟩ := I.list hq
  have hlen := r'.length
  exact Calls.call_len_list pl.isList (by simp only [List.size_toArray] <;> omega) ⟨.int ys.length, H, I.tok _, ⟨s.toks + 1, by rw [List.size_toArray, hlen]⟩, q⟩
 ·obtain ⟨its, r', pl, hz⟩ := I.tuple hq
  have hlen := r'.length
  exact len_tuple pl (by simp only [List.size_toArray] <;> omega) ⟨.int ys.length, H, I.tok _, ⟨s.toks + 1, by rw [List.size_toArray, hlen]⟩, q⟩
theorem call_list_of : CallR X (.type "list") (fun xs H Q => ∃ p ys, xs = [.ref p] ∧ (SqL X.K H p ys ∨ SqT X.K H p ys) ∧ ∀ l, H l = none → Q (.ref l) (upd H l (.lst ys))) := by
 intro pins s σ H xs us Q I r h
 obtain ⟨p, ys, rfl, hq, q⟩ := h
 obtain ⟨u, rfl, rx⟩ := vals1 r
 cases rx
 have fin : ∀ (its : List Value), Vals ys its → ys.length ≤ sizeLine → ∀ (h' : Heap) (c' : Nat), (∀ b o', s.heap.get? b = some o' → h'.get? b = some o') →
   h'.get? s.heap.objs.size = some { cls := .type "list", dict := none, data := .seq its.toArray c', slots := #[] } → EP X pins σ Q (.ref s.heap.objs.size) { s with heap := h' } := fun its r' hz h' c' kp e =>
  ⟨.ref s.heap.objs.size, _, I.laid (t' := s.toks) kp (Nat.le_refl _) (show ObjOk X.prog X.w _ h' _ (.lst ys) from ⟨hz, its, c', r', e⟩), rfl, q _ (I.hok.fresh (Nat.le_refl _))⟩
 rcases hq with hq | hq
 ·obtain ⟨its, r', pl, hz⟩ := I.list hq
  have hlen := r'.length
  obtain ⟨o, ho, hc, n, hd⟩ := pl.isList
  exact call_list_seq p (.inl rfl) ho hc hd (fun h' c' kp e => fin its r' hz h' c' kp e) (by simp only [List.size_toArray] <;> omega)
 ·obtain ⟨its, r', pl, hz⟩ := I.tuple hq
  have hlen := r'.length
  obtain ⟨o, ho, hc, n, hd⟩ := pl
  exact call_list_seq p (.inr rfl) ho hc hd (fun h' c' kp e => fin its r' hz h' c' kp e) (by simp only [List.size_toArray] <;> omega)
theorem call_tuple_of : CallR X (.type "tuple") (fun xs H Q => ∃ p ys, xs = [.ref p] ∧ ((SqL X.K H p ys ∧ ∀ l, H l = none → Q (.ref l) (upd H l (.tup ys))) ∨ (SqT X.K H p ys ∧ Q (.ref p) H))) := by
 intro pins s σ H xs us Q I r h
 obtain ⟨p, ys, rfl, h⟩ := h
 obtain ⟨u, rfl, rx⟩ := vals1 r
 cases rx
 rcases h with ⟨hq, q⟩ | ⟨hq, q⟩
 ·obtain ⟨its, r', pl, hz⟩ := I.list hq
  have hlen := r'.length
  refine call_tuple_list pl.isList (fun h' kp => ?_) (by simp only [List.size_toArray] <;> omega)
  have I1 : Inv X pins σ H { s with heap := h' } := I.kept (t' := s.toks) kp
  have I2 : Inv X pins σ (upd H h'.objs.size (.tup ys)) { s with heap := h'.push { cls := .type "tuple", data := .seq its.toArray } } :=
   I1.laid (t' := s.toks) (fun b o e => Heap.get?_push_of_some _ e) (Nat.le_refl _) (show ObjOk X.prog X.w _ _ _ (.tup ys) from ⟨hz, its, r', IsTup.new _ _⟩)
  exact ⟨.ref h'.objs.size, _, I2, rfl, q _ (I1.hok.fresh (Nat.le_refl _))⟩
 ·obtain ⟨its, r', pl, hz⟩ := I.tuple hq
  exact call_tuple_same pl ⟨.ref p, H, I, rfl, q⟩
def tyV (K : PySem.W.Frag) (T : String) (x : V) (H : Hp) : Prop := match x with
 | .str _ => T = "str"
 | .int _ => T = "int"
 | .ref p => (T = "list" ∧ ∃ xs, SqL K H p xs) ∨ (T = "tuple" ∧ ∃ o, K.lookup p = some o ∧ o.cls = .type "tuple" ∧ o.dict = none) ∨
   (T = "dict" ∧ ((∃ kvs, H p = some (.dK kvs)) ∨ ∃ kvs, H p = some (.dT kvs))) ∨ (T = "set" ∧ ∃ S n, H p = some (.set S n))
 | _ => False
theorem tyV_is {pins : List (Addr × Obj)} {σ : St} {H : Hp} {s : Shared} {T : String} {x : V} {v : Value} (I : Inv X pins σ H s) (r : RelV x v) (ty : tyV X.K T x H) :
  s.TypeIs v T ∧ ∀ a, v = .ref a → ∃ ob, s.heap.get? a = some ob ∧ ob.dict = none := by
 cases x with
 | str z =>
  obtain ⟨t, rfl⟩ := r
  cases (show T = "str" from ty)
  exact ⟨typeIs_str s z t, fun _ e => nomatch e⟩
 | int i =>
  obtain ⟨t, rfl⟩ := r
  cases (show T = "int" from ty)
  exact ⟨typeIs_int s i t, fun _ e => nomatch e⟩
 | ref p =>
  cases r
  rcases ty with ⟨rfl, xs, hq⟩ | ⟨rfl, o, hk, hc, hd⟩ | ⟨rfl, hk⟩ | ⟨rfl, S, n, hk⟩
  ·obtain ⟨its, _, pl, _⟩ := I.list hq
   refine ⟨pl.isList.typeIs, fun a e => ?_⟩
   cases e
   obtain ⟨o, n, e, c, hd, _⟩ := pl
   exact ⟨o, e, hd⟩
  ·refine ⟨⟨o, I.kIn p o hk, hc⟩, fun a e => ?_⟩
   cases e
   exact ⟨o, I.kIn _ o hk, hd⟩
  ·have z : ∃ o, s.heap.get? p = some o ∧ o.ExactDict := by
    rcases hk with ⟨kvs, hk⟩ | ⟨kvs, hk⟩
    ·obtain ⟨_, _, _, _, o, _, _, e, ex, _⟩ := I.hok p _ hk
     exact ⟨o, e, ex⟩
    ·obtain ⟨_, _, _, _, o, _, _, e, ex, _⟩ := I.hok p _ hk
     exact ⟨o, e, ex⟩
   obtain ⟨o, e, ex⟩ := z
   refine ⟨⟨o, e, ex.1⟩, fun a e2 => ?_⟩
   cases e2
   exact ⟨o, e, ex.2.1⟩
  ·obtain ⟨o, _, _, _, e, ex, _⟩ := I.hok p _ hk
   refine ⟨⟨o, e, ex.1⟩, fun a e2 => ?_⟩
   cases e2
   exact ⟨o, e, ex.2.1⟩
 | _ => exact False.elim ty
def tBM (K : PySem.W.Frag) (T : String) (r : V → List V → Hp → VK → Prop) (to : TE) (t : TA) : TE := fun σ H Q => to σ H fun x H1 => tyV K T x H1 ∧ t σ H1 fun xs H2 => r x xs H2 Q
variable {o e : Expr} {es : List Expr} {to : TE} {t : TA} {name : Str} {apos cpos : Pos} {T id : String} {r : V → List V → Hp → VK → Prop}
theorem pe_bm (pa : PlainAttrs T) (slot : Slot T name id) (hty : typeOf (.builtin id) = pure (.type "method_descriptor")) (hm : MtR X id r) (ho : PE X o to) (ha : PA X (e :: es) t)
  (hbase : attributeBase o name X.env (eval o X.env) = eval o X.env := by rfl)
  (hfew : ((backTo cpos (starEach (e :: es) X.env)).all (fun x => !x.1) && (backToKw cpos (keywordEach [] X.env)).all (fun x => x.1.isSome)
   && decide ((e :: es).length + ([] : List Keyword).length + (if ([] : List Keyword).isEmpty then 0 else 1) < 30)) = true := by rfl)
  (hline : (apos.endLine == cpos.line) = true := by rfl) (hs : starEach (e :: es) X.env = (false, eval e X.env) :: starEach es X.env := by rfl) (hplain : (backTo cpos (starEach es X.env)).any (·.1) = false := by rfl) :
  PE X (.Call (.Attribute o name apos) (e :: es) [] cpos) (tBM X.K T r to t) := by
 intro pins s σ H Q I h
 refine wpAny_Call_method_late hbase hfew hline rfl (thn (ho pins s σ H _ I h) fun v s1 ⟨x, H1, I1, r1, ty, q1⟩ => ?_)
 obtain ⟨h1, h2⟩ := tyV_is I1 r1 ty
 refine ⟨T, id, pa, slot, hty, h1, h2, ?_⟩
 have hA := ha cpos pins s1 σ H1 _ I1 q1
 rw [hs] at hA ⊢
 refine Calls.callWith_builtin (by show (false || (backTo cpos (starEach es X.env)).any (·.1)) = false; rw [hplain] <;> rfl) (Calls.evalArgs_plain ?_)
 exact thn hA fun us s2 ⟨vs, H2, I2, r2, q2⟩ => hm pins s2 σ H2 x vs v us Q I2 r1 r2 q2
end
end L2
namespace L2
open PySem PySem.Spec PyProof.Rows
def MtM (X : Cx) (id : String) (r : V → List V → Hp → VK → Prop) : Prop :=
 ∀ (pins : List (Addr × Obj)) (s : Shared) (σ : St) (H : Hp) (x : V) (xs : List V) (v : Value) (us : List Value) (Q : VK), Inv X pins σ H s → RelV x v → Vals xs us → r x xs H Q →
  wpAny (model X.prog X.w) X.A (call (.builtin id) (v :: us)) (EP X pins σ Q) X.xe s
theorem Vals.one : ∀ {x : V} {us : List Value}, Vals [x] us → ∃ u, us = [u] ∧ RelV x u
 | _, _, .cons r .nil => ⟨_, rfl, r⟩
theorem Vals.two : ∀ {x y : V} {us : List Value}, Vals [x, y] us → ∃ u v, us = [u, v] ∧ RelV x u ∧ RelV y v
 | _, _, _, .cons r (.cons q .nil) => ⟨_, _, rfl, r, q⟩
theorem Vals.eraseIdx : ∀ {xs : List V} {us : List Value} (i : Nat), Vals xs us → Vals (xs.eraseIdx i) (us.eraseIdx i)
 | _, _, _, .nil => .nil
 | _, _, 0, .cons _ t => t
 | _, _, i + 1, .cons r t => .cons r (Vals.eraseIdx i t)
theorem Vals.rep {xs : List V} {us : List Value} (h : Vals xs us) : ∀ k : Nat, Vals (List.replicate k xs).flatten (List.replicate k us).flatten
 | 0 => .nil
 | k + 1 => by
  rw [List.replicate_succ, List.replicate_succ, List.flatten_cons, List.flatten_cons]
  exact Vals.append h (Vals.rep h k)
theorem len_erase {α : Type} : ∀ (l : List α) (i : Nat), (l.eraseIdx i).length ≤ l.length
 | [], _ => Nat.le_refl _
 | _ :: _, 0 => Nat.le_succ _
 | _ :: r, i + 1 => Nat.succ_le_succ (len_erase r i)
theorem foldl_rep (its : List Value) : ∀ (k : Nat) (acc : List Value),
  List.foldl (fun x1 x2 => x1 ++ x2) acc.toArray (List.replicate k its.toArray) = (acc ++ (List.replicate k its).flatten).toArray
 | 0, acc => by simp
 | k + 1, acc => by
  have e : acc.toArray ++ its.toArray = (acc ++ its).toArray := by simp
  have e2 : (acc ++ its) ++ (List.replicate k its).flatten = acc ++ (List.replicate (k + 1) its).flatten := by
   rw [List.replicate_succ, List.flatten_cons, List.append_assoc]
  rw [← e2, ← foldl_rep its k (acc ++ its), ← e, List.replicate_succ, List.foldl_cons]
section
variable {X : Cx} {pins : List (Addr × Obj)} {σ : St} {H : Hp} {s : Shared} {l b : Addr} {xs ys zs : List V}
theorem Inv.lset {its its' : List Value} {n : Nat} {f : Array Value → Array Value} {t' : Nat} (I : Inv X pins σ H s) (hH : H l = some (.lst xs))
  (e : s.heap.get? l = some { cls := .type "list", data := .seq its.toArray n }) (hf : f its.toArray = its'.toArray) (hv : Vals ys its') (hz : ys.length ≤ sizeLine) :
  Inv X pins σ (upd H l (.lst ys)) { s with heap := s.heap.update l (Obj.mapSeq f), toks := t' } := by
 have q := PySem.IsL.update e f
 rw [hf] at q
 refine I.write (x := l) (e := l) (by rw [hH]; exact trivial) (.inl rfl) (fun b' u hb hu => (Heap.get?_update_other s.heap (Obj.mapSeq f) (Ne.symm hb)).trans hu) ⟨_, q⟩ ?_
 exact ⟨hz, its', _, hv, q⟩
theorem Inv.lnew {its : List Value} {t' : Nat} (I : Inv X pins σ H s) (hv : Vals ys its) (hz : ys.length ≤ sizeLine) :
  Inv X pins σ (upd H s.heap.objs.size (.lst ys)) { s with heap := s.heap.push { cls := .type "list", data := .seq its.toArray }, toks := t' } :=
 I.laid (fun _ _ q => Heap.get?_push_of_some _ q) (Nat.le_refl _) ⟨hz, its, 0, hv, Heap.get?_push_size _ rfl⟩
theorem Inv.fresh (I : Inv X pins σ H s) : H s.heap.objs.size = none := I.hok.fresh (Nat.le_refl _)
theorem Inv.lstM (I : Inv X pins σ H s) (hH : H l = some (.lst xs)) : xs.length ≤ sizeLine ∧ ∃ (its : List Value) (n : Nat), Vals xs its ∧ xs.length = its.length ∧ s.heap.get? l = some { cls := .type "list", data := .seq its.toArray n } := by
 obtain ⟨z, its, n, r, e⟩ := I.hok l _ hH
 exact ⟨z, its, n, r, r.length, e⟩
theorem notLongL {n : Nat} (h : n ≤ sizeLine) : Builtin.List.listTooLong n = false := by
 unfold Builtin.List.listTooLong
 exact decide_eq_false (by omega)
end
section
variable {X : Cx}
def rAppend : V → List V → Hp → VK → Prop := fun x vs H Q => ∃ l xs y, x = .ref l ∧ vs = [y] ∧ H l = some (.lst xs) ∧ xs.length < sizeLine ∧ Q .non (upd H l (.lst (xs ++ [y])))
theorem mt_append : MtM X "list.append" rAppend := by
 intro pins s σ H x vs v us Q I rx rv h
 obtain ⟨l, xs, y, rfl, rfl, hH, hz, q⟩ := h
 cases rx
 obtain ⟨u, rfl, ru⟩ := rv.one
 obtain ⟨z, its, n, r, hl, e⟩ := I.lstM hH
 refine call_meets F.slot_list_append ⟨_, e, rfl⟩ F.entry_list_append (F.args_list_append_2 _ _) (PySem.list_append l its.toArray n u (by rw [List.size_toArray]; omega)) ⟨e, ?_⟩
 refine ⟨.non, _, I.lset (its' := its ++ [u]) hH e (by simp) (r.append (.cons ru .nil)) ?_, rfl, q⟩
 rw [List.length_append, List.length_singleton]
 omega
def rExtend : V → List V → Hp → VK → Prop := fun x vs H Q => ∃ l b xs zs, x = .ref l ∧ vs = [.ref b] ∧ H l = some (.lst xs) ∧ H b = some (.lst zs) ∧ xs.length + zs.length ≤ sizeLine ∧ Q .non (upd H l (.lst (xs ++ zs)))
theorem mt_extend : MtM X "list.extend" rExtend := by
 intro pins s σ H x vs v us Q I rx rv h
 obtain ⟨l, b, xs, zs, rfl, rfl, hH, hB, hz, q⟩ := h
 cases rx
 obtain ⟨u, rfl, ru⟩ := rv.one
 cases ru
 obtain ⟨z, its, n, r, hl, e⟩ := I.lstM hH
 obtain ⟨z2, its2, n2, r2, hl2, e2⟩ := I.lstM hB
 have hsz : its.toArray.size + its2.toArray.size ≤ sizeLine := by rw [List.size_toArray, List.size_toArray]; omega
 have hlong : ¬ (!its.toArray.isEmpty && Builtin.List.listTooLong (its.toArray.size + its2.toArray.size)) = true := by
  rw [notLongL hsz, Bool.and_false]
  exact Bool.false_ne_true
 refine call_meets F.slot_list_extend ⟨_, e, rfl⟩ F.entry_list_extend (F.args_list_extend_2 _ _)
  (AutoSeq1.list_extend_list_list_0 l its.toArray n b its2.toArray n2 hlong (by rw [List.size_toArray]; omega) (by omega)) ⟨e, e2, ?_⟩
 refine ⟨.non, _, I.lset (its' := its ++ its2) hH e (by simp) (r.append r2) ?_, rfl, q⟩
 rw [List.length_append]
 omega
def rPopAt : V → List V → Hp → VK → Prop := fun x vs H Q => ∃ l xs i k y, x = .ref l ∧ vs = [.int i] ∧ H l = some (.lst xs) ∧ -(2 ^ 63) ≤ i ∧ i < 2 ^ 63 ∧ seqIndex? i xs.length = some k ∧ xs[k]? = some y ∧ Q y (upd H l (.lst (xs.eraseIdx k)))
theorem mt_popAt : MtM X "list.pop" rPopAt := by
 intro pins s σ H x vs v us Q I rx rv h
 obtain ⟨l, xs, i, k, y, rfl, rfl, hH, h1, h2, hk, hy, q⟩ := h
 cases rx
 obtain ⟨u, rfl, ru⟩ := rv.one
 obtain ⟨t, rfl⟩ := ru
 obtain ⟨z, its, n, r, hl, e⟩ := I.lstM hH
 obtain ⟨w, hw, rw'⟩ := r.get hy
 refine call_meets F.slot_list_pop ⟨_, e, rfl⟩ F.entry_list_pop (F.args_list_pop_2 _ _)
  (MeetsSeq.list_pop_at l its.toArray n i t k w (fitsIndex_both h1 h2) (by rw [List.size_toArray, ← hl]; exact hk) (by rw [← Array.getElem?_toList]; exact hw) (by rw [List.size_toArray]; omega)) ⟨e, ?_⟩
 refine ⟨y, _, I.lset (its' := its.eraseIdx k) hH e ?_ (r.eraseIdx k) ?_, rw', q⟩
 ·show its.toArray.eraseIdxIfInBounds k = (its.eraseIdx k).toArray
  rw [List.eraseIdxIfInBounds_toArray]
 ·have := len_erase xs k
  omega
def rCat : R2 := fun x y H Q => ∃ l b xs zs, x = .ref l ∧ y = .ref b ∧ H l = some (.lst xs) ∧ H b = some (.lst zs) ∧ xs.length + zs.length ≤ sizeLine ∧ ∀ p, H p = none → Q (.ref p) (upd H p (.lst (xs ++ zs)))
theorem op_cat : OpR X (binaryOp .Add) rCat := by
 intro pins s σ H x y v u Q I rx ry h
 obtain ⟨l, b, xs, zs, rfl, rfl, hH, hB, hz, q⟩ := h
 cases rx
 cases ry
 obtain ⟨z, its, n, r, hl, e⟩ := I.lstM hH
 obtain ⟨z2, its2, n2, r2, hl2, e2⟩ := I.lstM hB
 refine PySem.P.add_list e e2 ?_ (by rw [List.size_toArray, List.size_toArray]; omega)
 have ea : its.toArray ++ its2.toArray = (its ++ its2).toArray := by simp
 rw [ea]
 exact ⟨.ref _, _, I.lnew (t' := s.toks) (r.append r2) (by rw [List.length_append]; omega), rfl, q _ I.fresh⟩
def rRep : R2 := fun x y H Q => ∃ l k xs, x = .ref l ∧ y = .int k ∧ H l = some (.lst xs) ∧ -(2 ^ 63) ≤ k ∧ k < 2 ^ 63 ∧ xs.length * k.toNat ≤ sizeLine ∧
 ∀ p, H p = none → Q (.ref p) (upd H p (.lst (List.replicate k.toNat xs).flatten))
theorem len_rep {α : Type} (xs : List α) (k : Nat) : (List.replicate k xs).flatten.length = k * xs.length := by
 induction k with
 | zero => simp
 | succ k ih => rw [List.replicate_succ, List.flatten_cons, List.length_append, ih, Nat.succ_mul, Nat.add_comm]
theorem op_rep : OpR X (binaryOp .Mult) rRep := by
 intro pins s σ H x y v u Q I rx ry h
 obtain ⟨l, k, xs, rfl, rfl, hH, h1, h2, hz, q⟩ := h
 cases rx
 obtain ⟨t, rfl⟩ := ry
 obtain ⟨z, its, n, r, hl, e⟩ := I.lstM hH
 have hlen : its.toArray.size * k.toNat ≤ sizeLine := by rw [List.size_toArray, ← hl]; exact hz
 have hcap : ¬ its.toArray.size * k.toNat > (2 ^ 63 - 1) / 8 := by
  have : (sizeLine : Nat) ≤ (2 ^ 63 - 1) / 8 := by decide
  omega
 have hfit : ¬ (!Builtin.List.listFitsIndex k) = true := by
  rw [fitsIndex_both h1 h2]
  exact Bool.false_ne_true
 have hlong : ¬ Builtin.List.listTooLong (its.toArray.size * k.toNat) = true := by
  rw [notLongL hlen]
  exact Bool.false_ne_true
 have hnew : List.foldl (fun x1 x2 => x1 ++ x2) #[] (List.replicate (if its.toArray.isEmpty = true then 0 else k.toNat) its.toArray) = (List.replicate k.toNat its).flatten.toArray := by
  have f0 : ∀ m : Nat, List.foldl (fun x1 x2 => x1 ++ x2) #[] (List.replicate m its.toArray) = (List.replicate m its).flatten.toArray := fun m => by
   have := foldl_rep its m []
   rw [List.nil_append] at this
   exact this
  rw [f0]
  cases its with
  | nil => simp
  | cons a r' => rw [if_neg (by simp)]
 refine wpAny_binaryOp_repeat_ref (T := "list") (U := "int") (by decide) ⟨_, e, rfl⟩ (fun s' => typeIs_int s' k t) noFill_list_mul F.fills_int_mul F.slot_int_rmul repeat_list F.slot_int_index.lookup
  (call_meets F.slot_int_rmul (typeIs_int s k t) F.entry_int_rmul (F.args_int_rmul_2 _ _) (int___rmul___int_list k t l its.toArray n)
   ⟨e, rfl, ⟨_, e, rfl⟩, call_meets F.slot_list_mul ⟨_, e, rfl⟩ F.entry_list_mul (F.args_list_mul_2 _ _) (AutoListH.list___mul___list_int_3 l its.toArray n k t hfit hcap hlong) ⟨e, ?_⟩⟩)
 rw [hnew]
 exact ⟨.ref _, _, I.lnew (t' := s.toks) (r.rep k.toNat) (by rw [len_rep, Nat.mul_comm]; exact hz), rfl, q _ I.fresh⟩
end
end L2
namespace L2
open PySem PySem.Spec PyProof.Rows
section
variable {κ : Type} [DecidableEq κ]
def valV (kvs : List (κ × V)) (k : κ) : Option V := (kvs.find? fun kv => decide (kv.1 = k)).map (·.2)
def putK (kvs : List (κ × V)) (k : κ) (v : V) : List (κ × V) :=
 if (kvs.any fun kv => decide (kv.1 = k)) = true then kvs.map (fun kv => if kv.1 = k then (kv.1, v) else kv) else kvs ++ [(k, v)]
theorem valV_pos {p : κ × V} {r : List (κ × V)} {k : κ} (e : p.1 = k) : valV (p :: r) k = some p.2 := by simp [valV, List.find?_cons, e]
theorem valV_neg {p : κ × V} {r : List (κ × V)} {k : κ} (e : ¬ p.1 = k) : valV (p :: r) k = valV r k := by simp [valV, List.find?_cons, e]
theorem valV_any (k : κ) : ∀ kvs : List (κ × V), (kvs.any fun kv => decide (kv.1 = k)) = (valV kvs k).isSome
 | [] => rfl
 | p :: r => by
  rw [List.any_cons]
  by_cases e : p.1 = k
  ·simp only [valV_pos e, decide_eq_true e, Bool.true_or, Option.isSome_some]
  ·rw [valV_neg e, decide_eq_false e, Bool.false_or]; exact valV_any k r
theorem length_putK (kvs : List (κ × V)) (k : κ) (v : V) : (putK kvs k v).length ≤ kvs.length + 1 := by
 unfold putK
 split
 ·rw [List.length_map]; omega
 ·rw [List.length_append, List.length_cons, List.length_nil]; omega
theorem RelO.isSome_eq {o : Option V} {u : Option Value} (r : RelO o u) : o.isSome = u.isSome := by
 cases o with
 | none => cases u with
  | none => rfl
  | some _ => exact (show False from r).elim
 | some _ => cases u with
  | none => exact (show False from r).elim
  | some _ => rfl
theorem RelO.getD {o : Option V} {u : Option Value} {d : V} {d' : Value} (r : RelO o u) (rd : RelV d d') : RelV (o.getD d) (u.getD d') := by
 cases o with
 | none => cases u with
  | none => exact rd
  | some _ => exact (show False from r).elim
 | some _ => cases u with
  | none => exact (show False from r).elim
  | some _ => exact r
theorem KV.val {kvs : List (κ × V)} {vs : List (κ × Value)} (r : KV kvs vs) (k : κ) : RelO (valV kvs k) (valueAt vs k) := by
 unfold KV at r
 induction r with
 | nil => exact True.intro
 | @cons p q ps qs h t ih =>
  obtain ⟨h1, h2⟩ := h
  by_cases e : p.1 = k
  ·have e' : q.1 = k := h1.symm.trans e
   have b : valueAt (q :: qs) k = some q.2 := by simp [valueAt, List.find?_cons, e']
   rw [valV_pos e, b]; exact h2
  ·have e' : ¬ q.1 = k := fun z => e (h1.trans z)
   have b : valueAt (q :: qs) k = valueAt qs k := by simp [valueAt, List.find?_cons, e']
   rw [valV_neg e, b]; exact ih
theorem KV.any {kvs : List (κ × V)} {vs : List (κ × Value)} (r : KV kvs vs) (k : κ) : (kvs.any fun kv => decide (kv.1 = k)) = vs.any fun kv => decide (kv.1 = k) := by
 unfold KV at r
 induction r with
 | nil => rfl
 | cons h t ih => rw [List.any_cons, List.any_cons, ih, h.1]
theorem KV.repl {kvs : List (κ × V)} {vs : List (κ × Value)} (r : KV kvs vs) (k : κ) {y : V} {u : Value} (ry : RelV y u) :
  KV (kvs.map fun kv => if kv.1 = k then (kv.1, y) else kv) (vs.map fun kv => if kv.1 = k then (kv.1, u) else kv) := by
 unfold KV at r ⊢
 induction r with
 | nil => exact .nil
 | @cons p q ps qs h t ih =>
  rw [List.map_cons, List.map_cons]
  refine .cons ?_ ih
  obtain ⟨h1, h2⟩ := h
  by_cases e : p.1 = k
  ·rw [if_pos e, if_pos (h1.symm.trans e)]; exact ⟨h1, ry⟩
  ·rw [if_neg e, if_neg (fun z => e (h1.trans z))]; exact ⟨h1, h2⟩
theorem KV.put {kvs : List (κ × V)} {vs : List (κ × Value)} (r : KV kvs vs) (k : κ) {y : V} {u : Value} (ry : RelV y u) : KV (putK kvs k y) (stored vs k u) := by
 unfold putK stored
 rw [r.any k]
 by_cases e : (vs.any fun kv => decide (kv.1 = k)) = true
 ·rw [if_pos e, if_pos e]; exact r.repl k ry
 ·rw [if_neg e, if_neg e]; exact Paired.snoc r ⟨rfl, ry⟩
theorem KV.length {kvs : List (κ × V)} {vs : List (κ × Value)} (r : KV kvs vs) : kvs.length = vs.length := Paired.length r
end
theorem kV_is {P : Program} {w : World} {k : Key} {u : Value} (r : RelV (kV k) u) : (mixKind P w).is k u = true := by
 cases k with
 | inl i => obtain ⟨t, e⟩ := (show ∃ t, u = Value.int i t from r); subst e; exact mixKind_int P w i t
 | inr x => obtain ⟨t, e⟩ := (show ∃ t, u = Value.str x t from r); subst e; exact mixKind_str P w x t
theorem items_are {P : Program} {w : World} : ∀ {ks : List Key} {us : List Value}, Vals (ks.map kV) us → ItemsAre (mixKind P w) ks us
 | [], _, r => by rw [List.map_nil] at r; cases r; exact .nil
 | k :: ks, _, r => by
  rw [List.map_cons] at r
  cases r with
  | cons h t => exact .cons (kV_is h) (items_are t)
abbrev KT (H : Hp) : List (List Key × V) → List (List Key × Addr × Value) → Prop := Paired fun p q => p.1 = q.1 ∧ H q.2.1 = some (.tup (p.1.map kV)) ∧ RelV p.2 q.2.2
theorem KT.val {H : Hp} {kvs : List (List Key × V)} {xs : List (List Key × Addr × Value)} (r : KT H kvs xs) (k : List Key) : RelO (valV kvs k) ((atKey xs k).map (·.2)) := by
 induction r with
 | nil => exact True.intro
 | @cons p q ps qs h t ih =>
  obtain ⟨h1, _, h2⟩ := h
  by_cases e : p.1 = k
  ·have e' : q.1 = k := h1.symm.trans e
   have b : atKey (q :: qs) k = some q.2 := by simp [atKey, List.find?_cons, e']
   rw [valV_pos e, b]; exact h2
  ·have e' : ¬ q.1 = k := fun z => e (h1.trans z)
   have b : atKey (q :: qs) k = atKey qs k := by simp [atKey, List.find?_cons, e']
   rw [valV_neg e, b]; exact ih
theorem KT.repl {H : Hp} {kvs : List (List Key × V)} {xs : List (List Key × Addr × Value)} (r : KT H kvs xs) (k : List Key) {y : V} {u : Value} (ry : RelV y u) :
  KT H (kvs.map fun kv => if kv.1 = k then (kv.1, y) else kv) (xs.map (putAt k u)) := by
 induction r with
 | nil => exact .nil
 | @cons p q ps qs h t ih =>
  rw [List.map_cons, List.map_cons]
  refine .cons ?_ ih
  obtain ⟨h1, h2, h3⟩ := h
  unfold putAt
  by_cases e : p.1 = k
  ·rw [if_pos e, if_pos (h1.symm.trans e)]; exact ⟨h1, h2, ry⟩
  ·rw [if_neg e, if_neg (fun z => e (h1.trans z))]; exact ⟨h1, h2, h3⟩
theorem KT.put {H : Hp} {kvs : List (List Key × V)} {xs : List (List Key × Addr × Value)} (r : KT H kvs xs) (k : List Key) {b : Addr} {y : V} {u : Value} (hb : H b = some (.tup (k.map kV))) (ry : RelV y u) :
  KT H (putK kvs k y) (storedH xs k b u) := by
 have e : (kvs.any fun kv => decide (kv.1 = k)) = (atKey xs k).isSome := by
  rw [valV_any, (r.val k).isSome_eq, Option.isSome_map]
 unfold putK storedH
 rw [e]
 by_cases q : (atKey xs k).isSome = true
 ·rw [if_pos q, if_pos q]; exact r.repl k ry
 ·rw [if_neg q, if_neg q]; exact Paired.snoc r ⟨rfl, hb, ry⟩
theorem KT.keeps {H H' : Hp} {kvs : List (List Key × V)} {xs : List (List Key × Addr × Value)} (r : KT H kvs xs) (ht : ∀ b ys, H b = some (.tup ys) → H' b = some (.tup ys)) : KT H' kvs xs :=
 Paired.mapP r fun _ _ z => ⟨z.1, ht _ _ z.2.1, z.2.2⟩
section
variable {P : Program} {w : World} {H : Hp} {h : Heap} {a : Addr}
theorem rd_of {u : HO} (ok : HOk P w H h) (e : Rd H a u) : ObjOk P w H h a u := e.ok ok
theorem dk_rd {kvs : List (Key × V)} (ok : HOk P w H h) (e : Rd H a (.dK kvs)) : kvs.length ≤ sizeLine ∧ (a == sysModules) = false ∧ ∃ vs, KV kvs vs ∧ h.DictOf (mixKind P w) a vs :=
 show ObjOk P w H h a (.dK kvs) from rd_of ok e
theorem dk_of {kvs : List (Key × V)} (ok : HOk P w H h) (e : H a = some (.dK kvs)) : kvs.length ≤ sizeLine ∧ (a == sysModules) = false ∧ ∃ vs, KV kvs vs ∧ h.DictOf (mixKind P w) a vs := dk_rd ok (.inl e)
theorem key_of {ks : List Key} (ok : HOk P w H h) (e : H a = some (.tup (ks.map kV))) : (tupleKind (mixKind P w)).is h ks a := by
 obtain ⟨_, its, r, o, h1, h2, n, h3⟩ := (show ObjOk P w H h a (.tup (ks.map kV)) from ok a _ e)
 exact ⟨o, its.toArray, n, h1, h2, h3, by simpa using items_are r⟩
theorem dt_rd {kvs : List (List Key × V)} (ok : HOk P w H h) (e : Rd H a (.dT kvs)) : kvs.length ≤ sizeLine ∧ (a == sysModules) = false ∧
  ∃ xs, KT H kvs xs ∧ h.DictOfH (tupleKind (mixKind P w)) a xs := by
 obtain ⟨z, y, xs, r, o, es, ep, h1, h2, h3, h4, h5⟩ := (show ObjOk P w H h a (.dT kvs) from rd_of ok e)
 refine ⟨z, y, xs, r, o, es, ep, h1, h2, h3, h4, fun x hx => ?_, h5⟩
 have all : ∀ {l : List (List Key × V)} {m : List (List Key × Addr × Value)}, KT H l m → ∀ x ∈ m, (tupleKind (mixKind P w)).is h x.1 x.2.1 := by
  intro l m q
  induction q with
  | nil => intro x hx; exact nomatch hx
  | @cons p q ps qs hq t ih =>
   intro x hx
   rcases List.mem_cons.mp hx with e | hx
   ·subst e
    exact key_of ok (by rw [← hq.1]; exact hq.2.1)
   ·exact ih x hx
 exact all r x hx
theorem dt_of {kvs : List (List Key × V)} (ok : HOk P w H h) (e : H a = some (.dT kvs)) : kvs.length ≤ sizeLine ∧ (a == sysModules) = false ∧
  ∃ xs, KT H kvs xs ∧ h.DictOfH (tupleKind (mixKind P w)) a xs := dt_rd ok (.inl e)
end
def DGet (H : Hp) (a : Addr) (y : V) (r : Option V) : Prop :=
 (∃ kvs k, Rd H a (.dK kvs) ∧ y = kV k ∧ r = valV kvs k) ∨ ∃ kvs k b, Rd H a (.dT kvs) ∧ y = .ref b ∧ H b = some (.tup (k.map kV)) ∧ r = valV kvs k
def DPut (H : Hp) (a : Addr) (y v : V) (H' : Hp) : Prop :=
 (∃ kvs k, H a = some (.dK kvs) ∧ y = kV k ∧ kvs.length < sizeLine ∧ H' = upd H a (.dK (putK kvs k v))) ∨
 ∃ kvs k b, H a = some (.dT kvs) ∧ y = .ref b ∧ H b = some (.tup (k.map kV)) ∧ kvs.length < sizeLine ∧ H' = upd H a (.dT (putK kvs k v))
theorem DGet.k {H : Hp} {a : Addr} {kvs : List (Key × V)} {k : Key} (e : H a = some (.dK kvs)) : DGet H a (kV k) (valV kvs k) := .inl ⟨kvs, k, .inl e, rfl, rfl⟩
theorem DPut.k {H : Hp} {a : Addr} {kvs : List (Key × V)} {k : Key} {v : V} (e : H a = some (.dK kvs)) (hl : kvs.length < sizeLine) : DPut H a (kV k) v (upd H a (.dK (putK kvs k v))) := .inl ⟨kvs, k, e, rfl, hl, rfl⟩
section
variable {X : Cx} {pins : List (Addr × Obj)} {σ : St} {H : Hp} {s : Shared} {a : Addr} {y v : V} {u r : Value} {o : Option V} {A : Around} {E : Value → Shared → Prop}
theorem Inv.big (I : Inv X pins σ H s) : sysModules < s.heap.objs.size := by
 have h : mainGlobals < s.heap.objs.size := (I.mod.glob.keeps I.bk).lt
 exact Nat.lt_trans (by decide) h
theorem d_getItem {Q : Value → Shared → Prop} (hu : A.units + 1 < cLine) (I : Inv X pins σ H s) (g : DGet H a y (some v)) (ry : RelV y u) (h : ∀ w' s', Inv X pins σ H s' → RelV v w' → Q w' s') :
  wpAny (model X.prog X.w) A (getItem (.ref a) u) Q E s := by
 rcases g with ⟨kvs, k, e, ey, l⟩ | ⟨kvs, k, b, e, ey, eb, l⟩
 ·subst ey
  obtain ⟨z, hd, vs, rel, dd⟩ := dk_rd I.hok e
  obtain ⟨w', hw, rw'⟩ := RelO.some_of (v := v) (o := valueAt vs k) (by rw [l]; exact rel.val k)
  exact wpAny_getItem_of (kV_is ry) dd.mapOf hw (h w' _ (I.tok _) rw')
 ·subst ey
  cases (show u = Value.ref b from ry)
  obtain ⟨z, hd, xs, rel, dd⟩ := dt_rd I.hok e
  obtain ⟨w', hw, rw'⟩ := RelO.some_of (v := v) (o := (atKey xs k).map (·.2)) (by rw [l]; exact rel.val k)
  obtain ⟨p, hp, hp2⟩ := Option.map_eq_some_iff.mp hw
  refine wpAny_getItem_heap (tupleKind_room_in1 hu) (key_of I.hok eb) dd hp ?_
  rw [hp2]
  exact h w' _ (I.tok _) rw'
theorem d_notIn {Q : Value → Shared → Prop} (hu : A.units + 1 < cLine) (I : Inv X pins σ H s) (g : DGet H a y o) (ry : RelV y u) (h : ∀ s', Inv X pins σ H s' → Q (.bool (!o.isSome)) s') :
  wpAny (model X.prog X.w) A (compareOp .NotIn u (.ref a)) Q E s := by
 rcases g with ⟨kvs, k, e, ey, l⟩ | ⟨kvs, k, b, e, ey, eb, l⟩
 ·subst ey
  obtain ⟨z, hd, vs, rel, dd⟩ := dk_rd I.hok e
  refine wpAny_notIn_of (kV_is ry) hd dd.mapOf ?_
  rw [← (rel.val k).isSome_eq, ← l]
  exact h _ (I.tok _)
 ·subst ey
  cases (show u = Value.ref b from ry)
  obtain ⟨z, hd, xs, rel, dd⟩ := dt_rd I.hok e
  refine wpAny_notIn_heap (tupleKind_room_in1 hu) (key_of I.hok eb) hd dd ?_
  have q := (rel.val k).isSome_eq
  rw [Option.isSome_map] at q
  rw [← q, ← l]
  exact h _ (I.tok _)
theorem d_write {h' : Heap} {t' : Nat} {ob : HO} (I : Inv X pins σ H s) (mu : Mut (H a)) (hs : Heap.SameBut a s.heap h') (he : ∃ q, h'.get? a = some q) (new : ObjOk X.prog X.w (upd H a ob) h' a ob) :
  Inv X pins σ (upd H a ob) { s with heap := h', toks := t' } :=
 I.write (x := a) (e := a) mu (.inl rfl) (fun b q hb z => (hs.2 b hb).trans z) he new
theorem dk_new {P : Program} {w : World} {H' : Hp} {h' : Heap} {kvs : List (Key × V)} {vs : List (Key × Value)} (z : kvs.length ≤ sizeLine) (hd : (a == sysModules) = false) (rel : KV kvs vs) (dd : h'.DictOf (mixKind P w) a vs) :
  ObjOk P w H' h' a (.dK kvs) := ⟨z, hd, vs, rel, dd⟩
theorem d_setItem {H' : Hp} {Q : Unit → Shared → Prop} (hu : A.units + 1 < cLine) (I : Inv X pins σ H s) (g : DPut H a y v H') (ry : RelV y u) (rv : RelV v r) (h : ∀ s', Inv X pins σ H' s' → Q () s') :
  wpAny (model X.prog X.w) A (setItem (.ref a) u r) Q E s := by
 rcases g with ⟨kvs, k, e, ey, l, eH⟩ | ⟨kvs, k, b, e, ey, eb, l, eH⟩
 ·subst ey eH
  obtain ⟨z, hd, vs, rel, dd⟩ := dk_of I.hok e
  have hz : vs.length ≤ sizeLine := by rw [← rel.length]; exact z
  have hl : (putK kvs k v).length ≤ sizeLine := by have := length_putK kvs k v; omega
  refine wpAny_setItem_pairs (hsz := hz) (kV_is ry) dd fun h' dd' hs => h _ ?_
  have he : ∃ q, h'.get? a = some q := let ⟨q, _, _, hq, _⟩ := dd'; ⟨q, hq⟩
  exact d_write I (by rw [e]; exact True.intro) hs he (dk_new hl hd (rel.put k rv) dd')
 ·subst ey eH
  cases (show u = Value.ref b from ry)
  obtain ⟨z, hd, xs, rel, dd⟩ := dt_of I.hok e
  have hz : xs.length ≤ sizeLine := by rw [← Paired.length rel]; exact z
  have hl : (putK kvs k v).length ≤ sizeLine := by have := length_putK kvs k v; omega
  refine wpAny_setItem_heap (hsz := hz) (tupleKind_room_in1 hu) (key_of I.hok eb) dd fun h' dd' hs => h _ ?_
  obtain ⟨q, es, ep, hq, h2, h3, h4, _, h5⟩ := dd'
  refine d_write I (by rw [e]; exact True.intro) hs ⟨q, hq⟩ ⟨hl, hd, _, (rel.put k eb rv).keeps fun c ys ec => ?_, q, es, ep, hq, h2, h3, h4, h5⟩
  rw [upd_ne (ne_of ec e (fun z => nomatch z))]
  exact ec
end
section
variable {X : Cx} {pins : List (Addr × Obj)} {σ : St} {H : Hp} {s : Shared} {a : Addr} {kvs : List (Key × V)} {k : Key} {u : Value} {A : Around} {E : Value → Shared → Prop}
theorem d_len {Q : Value → Shared → Prop} (I : Inv X pins σ H s) (e : Rd H a (.dK kvs)) (h : ∀ t s', Inv X pins σ H s' → Q (.int kvs.length t) s') : wpAny (model X.prog X.w) A (call (.builtin "len") [.ref a]) Q E s := by
 obtain ⟨z, hd, vs, rel, dd⟩ := dk_rd I.hok e
 refine call_len_dict hd dd (by rw [← rel.length]; rw [sizeLine_eq] at z; omega) ?_
 rw [← rel.length]
 exact h _ _ (I.tok _)
end
def NoSl (i : Expr) : Prop := ∀ ov iv, subscripted i false ov iv = operate [ov, iv] (getItem ov iv)
theorem subD_of {prog : Program} {w : World} {A : Around} {E : Value → Shared → Prop} {s : Shared} {env : Env} {value slice : Expr} {pos : Pos} {T id : String} {Q : Value → Shared → Prop}
  (hl : typeLookup (.type T) "__getitem__" = pure (some (.builtin id))) (hs : NoSl slice)
  (h : wpAny (model prog w) A (eval value env) (fun o s₁ => wpAny (model prog w) A (eval slice env) (fun i s₂ => s₂.TypeIs o T ∧ wpAny (model prog w) A (getItem o i) Q E s₂) E s₁) E s) :
  wpAny (model prog w) A (eval (.Subscript value slice pos) env) Q E s := by
 refine Subscript_ (wpAny_mono h (fun o s₁ h₁ => wpAny_mono h₁ (fun i s₂ h₂ => ?_) fun _ _ x => x) fun _ _ x => x)
 obtain ⟨hT, h₂⟩ := h₂
 unfold subscriptTail
 refine wpAny_bind ?_
 rw [getitemInPython_of_ne hT.not_modules]
 refine wpAny_bind (wpAny_specialOf hT hl ?_)
 have fin : wpAny (model prog w) A (subscripted slice false o i) (fun r s₃ => wpAny (model prog w) A (letTemporaryGo value o r >>= fun _ => pure r) Q E s₃) E s₂ := by
  rw [hs o i]
  exact wpAny_operating (wpAny_mono h₂ (fun r s₃ h₃ => wpAny_bind (wpAny_letTemporaryGo (wpAny_pure h₃))) fun _ _ x => x)
 first
  | exact wpAny_pure (wpAny_bind fin)
  | exact wpAny_bind (wpAny_pure (wpAny_bind fin))
  | exact wpAny_bind fin
theorem dict_typeIs {X : Cx} {pins : List (Addr × Obj)} {σ : St} {H : Hp} {s : Shared} {a : Addr} {y : V} {o : Option V} (I : Inv X pins σ H s) (g : DGet H a y o) : s.TypeIs (.ref a) "dict" := by
 rcases g with ⟨kvs, k, e, _, _⟩ | ⟨kvs, k, b, e, _, _, _⟩
 ·obtain ⟨_, _, vs, _, dd⟩ := dk_rd I.hok e
  exact dd.typeIs
 ·obtain ⟨_, _, xs, _, dd⟩ := dt_rd I.hok e
  exact dd.typeIs
def tDGet (td ty : TE) : TE := fun σ H Q => td σ H fun x H1 => ty σ H1 fun y H2 => ∃ a v, x = .ref a ∧ DGet H2 a y (some v) ∧ Q v H2
def tDNotIn (ty td : TE) : TE := fun σ H Q => ty σ H fun y H1 => td σ H1 fun x H2 => ∃ a o, x = .ref a ∧ DGet H2 a y o ∧ Q (.bl (!o.isSome)) H2
def sDPut (td ty tv : TE) : TS := fun D σ H => tv σ H fun v H1 => td σ H1 fun x H2 => ty σ H2 fun y H3 => ∃ a H4, x = .ref a ∧ DPut H3 a y v H4 ∧ D.nx σ H4
def sDAug (td ty tv : TE) (rd : V → V → Hp → VK → Prop) : TS := fun D σ H => td σ H fun x H1 => ty σ H1 fun y H2 => ∃ a v, x = .ref a ∧ DGet H2 a y (some v) ∧
 tv σ H2 fun y2 H3 => rd v y2 H3 fun z H4 => ∃ H5, DPut H4 a y z H5 ∧ D.nx σ H5
section
variable {X : Cx} {o i e value : Expr} {pos pos' tpos : Pos} {td ty tv : TE}
theorem pe_dget (hu : X.A.units + 1 < cLine) (ho : PE X o td) (hi : PE X i ty) (hs : NoSl i) : PE X (.Subscript o i pos) (tDGet td ty) := by
 intro pins s σ H Q I h
 refine subD_of PySem.F.slot_dict_getitem.lookup hs (thn (ho pins s σ H _ I h) fun u s1 ⟨x, H1, I1, rx, q1⟩ => thn (hi pins s1 σ H1 _ I1 q1) fun iv s2 ⟨y, H2, I2, ry, a, v, ex, g, q2⟩ => ?_)
 subst ex
 obtain rfl : u = Value.ref a := rx
 exact ⟨dict_typeIs I2 g, d_getItem hu I2 g ry fun w' s3 I3 rw' => ⟨v, H2, I3, rw', q2⟩⟩
theorem pc_dnotin (hu : X.A.units + 1 < cLine) (hi : PE X i ty) (ho : PE X o td) : PC X .NotIn i o (tDNotIn ty td) := by
 intro pins s σ H Q I h
 refine thn (hi pins s σ H _ I h) fun iv s1 ⟨y, H1, I1, ry, q1⟩ => thn (ho pins s1 σ H1 _ I1 q1) fun u s2 ⟨x, H2, I2, rx, a, ov, ex, g, q2⟩ => ?_
 subst ex
 obtain rfl : u = Value.ref a := rx
 exact d_notIn hu I2 g ry fun s3 I3 => ⟨.bl (!ov.isSome), H2, I3, rfl, q2⟩
theorem ps_dput (hu : X.A.units + 1 < cLine) (ho : PE X o td) (hi : PE X i ty) (hv : PE X value tv) (hs : swapsWith value (some (.Subscript o i pos')) pos.line X.env = pure false) :
  PS X (.Assign [.Subscript o i pos'] value pos) (sDPut td ty tv) := by
 intro pins s σ H D I h
 refine wpAny_Assign_Subscript (thn (hv pins s σ H _ I h) fun r s1 ⟨v, H1, I1, rv, q1⟩ => thn (ho pins s1 σ H1 _ I1 q1) fun u s2 ⟨x, H2, I2, rx, q2⟩ => thn (hi pins s2 σ H2 _ I2 q2) fun iv s3 ⟨y, H3, I3, ry, a, H4, ex, g, q3⟩ => ?_) hs
 subst ex
 obtain rfl : u = Value.ref a := rx
 exact d_setItem hu I3 g ry rv fun s4 I4 => ⟨σ, H4, I4, q3⟩
theorem ps_daug {op : Operator} {rd : V → V → Hp → VK → Prop} (hu : X.A.units + 1 < cLine) (ho : PE X o td) (hi : PE X i ty) (hv : PE X value tv) (hop : InOp X op rd)
  (ha : ∀ ov iv new, augStore i ov iv new = (do holding [new, ov, iv] (setItem ov iv new); release [new, ov, iv] []; pure .next)) : PS X (.AugAssign (.Subscript o i tpos) op value pos) (sDAug td ty tv rd) := by
 intro pins s σ H D I h
 refine wpAny_AugAssign_SubscriptAny (thn (ho pins s σ H _ I h) fun u s1 ⟨x, H1, I1, rx, q1⟩ => thn (hi pins s1 σ H1 _ I1 q1) fun iv s2 ⟨y, H2, I2, ry, a, v, ex, g, q2⟩ => ?_) ha
 subst ex
 obtain rfl : u = Value.ref a := rx
 refine d_getItem hu I2 g ry fun w' s3 I3 rw' => thn (hv pins s3 σ H2 _ I3 q2) fun w2 s4 ⟨y2, H3, I4, ry2, q3⟩ => thn (hop pins s4 σ H3 v y2 w' w2 _ I4 rw' ry2 q3) fun w3 s5 ⟨z, H4, I5, rz, H5, g5, q4⟩ => ?_
 exact d_setItem hu I5 g5 ry rz fun s6 I6 => ⟨σ, H5, I6, q4⟩
end
theorem dk_empty {P : Program} {w : World} {H : Hp} (h : Heap) (hb : sysModules < h.objs.size) : ObjOk P w H (h.push { cls := .type "dict", data := .dict #[] }) h.objs.size (.dK []) :=
 ⟨Nat.zero_le _, beq_eq_false_iff_ne.mpr (Ne.symm (Nat.ne_of_lt hb)), [], .nil, Heap.DictOf.new h⟩
def tDNewK : TE := fun _ H Q => ∀ p, H p = none → Q (.ref p) (upd H p (.dK []))
section
variable {X : Cx} {pos : Pos}
theorem pe_dnewK : PE X (.Dict [] [] pos) tDNewK := fun pins s σ H Q I h =>
 wpAny_Dict_empty ⟨.ref s.heap.objs.size, _, I.laid (a := s.heap.objs.size) (o := .dK []) (t' := s.toks) (fun _ _ q => Heap.get?_push_of_some _ q) (Nat.le_refl _) (dk_empty s.heap I.big), rfl, h _ (I.hok.fresh (Nat.le_refl _))⟩
end
def tPairs : List (TE × TE) → St → Hp → (List (V × V) → Hp → Prop) → Prop
 | [], _, H, Q => Q [] H
 | (tk, tv) :: r, σ, H, Q => tk σ H fun x H1 => tv σ H1 fun y H2 => tPairs r σ H2 fun ps H3 => Q ((x, y) :: ps) H3
abbrev VV : List (V × V) → List (Value × Value) → Prop := Paired fun p q => RelV p.1 q.1 ∧ RelV p.2 q.2
def PPs (X : Cx) (pos : Pos) (keys : List (Option Expr)) (values : List Expr) (trs : List (TE × TE)) : Prop :=
 ∀ (pins : List (Addr × Obj)) (s : Shared) (σ : St) (H : Hp) (Q : List (V × V) → Hp → Prop), Inv X pins σ H s → tPairs trs σ H Q →
  wpAny (model X.prog X.w) X.A (evalPairs (pairTrees keys values X.env pos)) (fun vs s' => ∃ ps H', Inv X pins σ H' s' ∧ VV ps vs ∧ Q ps H') X.xe s
theorem pps_nil {X : Cx} {pos : Pos} : PPs X pos [] [] [] := fun pins s σ H Q I h => pairTrees_nil_walk ⟨[], H, I, .nil, h⟩
theorem pps_cons {X : Cx} {pos : Pos} {k v : Expr} {ks : List (Option Expr)} {vs : List Expr} {tk tv : TE} {trs : List (TE × TE)} (hk : PE X k tk) (hv : PE X v tv) (hr : PPs X pos ks vs trs) :
  PPs X pos (some k :: ks) (v :: vs) ((tk, tv) :: trs) := fun pins s σ H Q I h =>
 pairTrees_cons_walk (thn (hk pins s σ H _ I h) fun u s1 ⟨x, H1, I1, rx, q1⟩ => thn (hv pins s1 σ H1 _ I1 q1) fun w2 s2 ⟨y, H2, I2, ry, q2⟩ =>
  thn (hr pins s2 σ H2 _ I2 q2) fun ws s3 ⟨ps, H3, I3, rel, q3⟩ => ⟨(x, y) :: ps, H3, I3, .cons ⟨rx, ry⟩ rel, q3⟩)
def mergeK (kvs more : List (Key × V)) : List (Key × V) := more.foldl (fun acc kv => putK acc kv.1 kv.2) kvs
theorem KV.merge : ∀ {more : List (Key × V)} {rs : List (Key × Value)} {kvs : List (Key × V)} {vs : List (Key × Value)}, KV more rs → KV kvs vs → KV (mergeK kvs more) (merged vs rs) := by
 intro more rs kvs vs r
 unfold KV at r
 induction r generalizing kvs vs with
 | nil => intro q; exact q
 | @cons p q ps qs h t ih =>
  intro r0
  have e : KV (putK kvs p.1 p.2) (stored vs q.1 q.2) := by
   have := r0.put p.1 h.2
   rw [← h.1]; exact this
  exact ih e
theorem length_mergeK : ∀ (more kvs : List (Key × V)), (mergeK kvs more).length ≤ kvs.length + more.length
 | [], kvs => by show kvs.length ≤ kvs.length + 0; omega
 | p :: r, kvs => by
  have h1 := length_mergeK r (putK kvs p.1 p.2)
  have h2 := length_putK kvs p.1 p.2
  show (mergeK (putK kvs p.1 p.2) r).length ≤ _
  rw [List.length_cons]; omega
theorem carries_of {P : Program} {w : World} : ∀ {kvs : List (Key × V)} {ws : List (Value × Value)}, VV (kvs.map fun kv => (kV kv.1, kv.2)) ws → ∃ rs, Carries (mixKind P w) ws rs ∧ KV kvs rs
 | [], _, r => by rw [List.map_nil] at r; cases r; exact ⟨[], True.intro, .nil⟩
 | p :: kvs, _, r => by
  rw [List.map_cons] at r
  cases r with
  | @cons a b as bs h t =>
   obtain ⟨rs, c, q⟩ := carries_of (P := P) (w := w) t
   obtain ⟨b1, b2⟩ := b
   exact ⟨(p.1, b2) :: rs, ⟨kV_is h.1, rfl, c⟩, .cons ⟨rfl, h.2⟩ q⟩
def tDisp (trs : List (TE × TE)) : TE := fun σ H Q => ∀ p, H p = none → tPairs trs σ (upd H p (.dK [])) fun ps H2 => H2 p = some (.dK []) ∧ ∃ kvs : List (Key × V), ps = kvs.map (fun kv => (kV kv.1, kv.2)) ∧ kvs.length ≤ 15 ∧ Q (.ref p) (upd H2 p (.dK (mergeK [] kvs)))
theorem pe_disp {X : Cx} {pos : Pos} {keys : List (Option Expr)} {values : List Expr} {trs : List (TE × TE)} (h : PPs X pos keys values trs) (hall : keys.all (·.isSome) = true) (hl : keys.length = values.length) (h0 : keys ≠ [])
  (h15 : keys.length ≤ 15) : PE X (.Dict keys values pos) (tDisp trs) := by
 intro pins s σ H Q I q
 have hn := I.hok.fresh (Nat.le_refl s.heap.objs.size)
 have I1 := I.laid (a := s.heap.objs.size) (o := .dK []) (h' := s.heap.push { cls := .type "dict", data := .dict #[] }) (t' := s.toks) (fun _ _ q => Heap.get?_push_of_some _ q) (Nat.le_refl _) (dk_empty s.heap I.big)
 refine wpAny_Dict_walk (knd := mixKind X.prog X.w) hall hl h0 h15 (thn (h pins _ σ _ _ I1 (q _ hn)) fun ws s2 ⟨ps, H2, I2, rel, e, kvs, ep, lk, q2⟩ => ?_)
 subst ep
 obtain ⟨rs, c, rk⟩ := carries_of (P := X.prog) (w := X.w) rel
 obtain ⟨z, hd, vs0, r0, dd⟩ := dk_of I2.hok e
 cases r0
 refine ⟨rs, c, dd, fun h' dd' hs => ⟨.ref s.heap.objs.size, _, ?_, rfl, q2⟩⟩
 have hz : (mergeK [] kvs).length ≤ sizeLine := by
  have h1 := length_mergeK kvs []
  rw [List.length_nil] at h1
  rw [sizeLine_eq]; omega
 have he : ∃ q, h'.get? s.heap.objs.size = some q := let ⟨q, _, _, hq, _⟩ := dd'; ⟨q, hq⟩
 exact d_write I2 (by rw [e]; exact True.intro) hs he (dk_new hz hd (rk.merge .nil) dd')
structure M2 (X : Cx) (o : Expr) (m : Str) (apos : Pos) (e f : Expr) (cpos : Pos) : Prop where
 base : attributeBase o m X.env (eval o X.env) = eval o X.env
 few : ((backTo cpos (starEach [e, f] X.env)).all (fun x => !x.1) && (backToKw cpos (keywordEach [] X.env)).all (fun x => x.1.isSome)
  && decide (([e, f] : List Expr).length + ([] : List Keyword).length + (if ([] : List Keyword).isEmpty then 0 else 1) < 30)) = true
 line : (apos.endLine == cpos.line) = true
 trees : backTo cpos (starEach [e, f] X.env) = [(false, eval e X.env), (false, eval f X.env)]
def IsD (H : Hp) (a : Addr) : Prop := (∃ kvs, Rd H a (.dK kvs)) ∨ ∃ kvs, Rd H a (.dT kvs)
theorem isD_at {X : Cx} {pins : List (Addr × Obj)} {σ : St} {H : Hp} {s : Shared} {a : Addr} (I : Inv X pins σ H s) (d : IsD H a) :
  s.TypeIs (.ref a) "dict" ∧ (∀ b, Value.ref a = .ref b → ∃ ob, s.heap.get? b = some ob ∧ ob.dict = none) ∧ (a == sysModules) = false := by
 rcases d with ⟨kvs, e⟩ | ⟨kvs, e⟩
 ·obtain ⟨_, hd, vs, _, dd⟩ := dk_rd I.hok e
  refine ⟨dd.typeIs, fun b q => ?_, hd⟩
  cases q
  obtain ⟨ob, _, _, h1, h2, _⟩ := dd
  exact ⟨ob, h1, h2.2.1⟩
 ·obtain ⟨_, hd, xs, _, dd⟩ := dt_rd I.hok e
  refine ⟨dd.typeIs, fun b q => ?_, hd⟩
  cases q
  obtain ⟨ob, _, _, h1, h2, _⟩ := dd
  exact ⟨ob, h1, h2.2.1⟩
section
variable {X : Cx} {pins : List (Addr × Obj)} {σ : St} {H : Hp} {s : Shared} {a : Addr} {y d : V} {u r : Value} {o : Option V} {A : Around} {E : Value → Shared → Prop}
theorem d_get2 {Q : Value → Shared → Prop} (hu : A.units + 1 < cLine) (I : Inv X pins σ H s) (g : DGet H a y o) (ry : RelV y u) (rd : RelV d r) (h : ∀ w' s', Inv X pins σ H s' → RelV (o.getD d) w' → Q w' s') :
  wpAny (model X.prog X.w) A (call (.builtin "dict.get") [.ref a, u, r]) Q E s := by
 rcases g with ⟨kvs, k, e, ey, l⟩ | ⟨kvs, k, b, e, ey, eb, l⟩
 ·subst ey
  obtain ⟨z, hd, vs, rel, dd⟩ := dk_rd I.hok e
  refine call_meetsIn PySem.F.slot_dict_get dd.typeIs PySem.F.entry_dict_get (PySem.F.args_dict_get_3 _ _ _) (meets_dict_get_default (mixKind X.prog X.w) a (kV_is ry) hd r) ⟨_, dd.mapOf, h _ _ (I.tok _) ?_⟩
  rw [l]
  exact (rel.val k).getD rd
 ·subst ey
  cases (show u = Value.ref b from ry)
  obtain ⟨z, hd, xs, rel, dd⟩ := dt_rd I.hok e
  refine call_meetsIn PySem.F.slot_dict_get dd.typeIs PySem.F.entry_dict_get (PySem.F.args_dict_get_3 _ _ _) (meetsH_dict_get_default (tupleKind (mixKind X.prog X.w)) a b hd r) ⟨tupleKind_room_in1 hu, k, xs, key_of I.hok eb, dd, h _ _ (I.tok _) ?_⟩
  rw [l]
  exact (rel.val k).getD rd
end
def tDGet2 (td ty tx : TE) : TE := fun σ H Q => td σ H fun x H1 => ∃ a, x = .ref a ∧ IsD H1 a ∧ ty σ H1 fun y H2 => tx σ H2 fun z H3 => ∃ o, DGet H3 a y o ∧ Q (o.getD z) H3
section
variable {X : Cx} {o e f : Expr} {apos cpos : Pos} {td ty tx : TE}
theorem pe_dget2 (hu : X.A.units + 1 < cLine) (ho : PE X o td) (he : PE X e ty) (hf : PE X f tx) (m : M2 X o "get" apos e f cpos) : PE X (.Call (.Attribute o "get" apos) [e, f] [] cpos) (tDGet2 td ty tx) := by
 intro pins s σ H Q I h
 refine wpAny_Call_method m.base m.few m.line PySem.F.plainAttrs_dict PySem.F.slot_dict_get PySem.F.type_dict_get (thn (ho pins s σ H _ I h) fun u s1 ⟨x, H1, I1, rx, a, ex, d, q1⟩ => ?_)
 subst ex
 obtain rfl : u = Value.ref a := rx
 obtain ⟨t1, t2, _⟩ := isD_at I1 d
 refine ⟨t1, t2, ?_⟩
 rw [m.trees]
 refine Calls.callWith_builtin rfl (Calls.evalArgs_plain (Calls.spliced_cons (thn (he pins s1 σ H1 _ I1 q1) fun iv s2 ⟨y, H2, I2, ry, q2⟩ =>
  Calls.spliced_cons (thn (hf pins s2 σ H2 _ I2 q2) fun fv s3 ⟨z, H3, I3, rz, ov, g, q3⟩ => Calls.spliced_nil ?_))))
 exact d_get2 hu I3 g ry rz fun w' s4 I4 rw' => ⟨_, H3, I4, rw', q3⟩
end
end L2
namespace Att
open PySem PySem.W PySem.Calls PyProof.Rows
theorem ints_of_wellAll {P : Params} {h : Heap} : ∀ (ns : List Int) (vs : List Value), WellAll P h vs (ns.map WData.int) → IntsAre vs ns := by
 intro ns
 induction ns with
 | nil =>
  intro vs w
  rw [List.map_nil] at w
  cases w
  exact .nil
 | cons n ns ih =>
  intro vs w
  rw [List.map_cons] at w
  cases w with
  | cons a b =>
   cases a
   exact .cons _ _ (ih _ b)
theorem script_of {l : OpenLaw} {n : Nat} (hn : l.most = some n) {P : Params} {h : Heap} {args : List WData} {vals : List Value}
  (hpre : l.row.toRowW.claim.pre args = true) (hwl : WellAll P h vals args) :
  ∃ a vs ns, vals = [Value.ref a] ∧ args = [WData.list (ns.map WData.int)] ∧ h.get? a = some { cls := .type "list", data := .seq vs.toArray } ∧ IntsAre vs ns ∧ ns.length ≤ n := by
 have hsh : WShape.hasAll [] args [.list .int] = true := (pre_splitW hpre).1
 have hc : l.pre.holds [] { args := args } = true := (pre_splitW hpre).2
 obtain ⟨d, r, rfl, h1, h2⟩ := hasAllW_cons hsh
 obtain rfl := hasAllW_nil h2
 obtain ⟨xs, rfl, h3⟩ := hasW_list h1
 obtain ⟨ns, rfl⟩ := items_int h3
 have hlen : ns.length ≤ n := by
  unfold OpenLaw.pre at hc
  have h4 : (WTm.not (.lt (.lit (.int (n : Int))) (.len (.arg 0)))).holds [] { args := [.list (ns.map .int)] } = true := by
   have h4 := (holds_andW hc).1
   rw [hn] at h4
   exact h4
  have h5 := condW_of h4 (w_not (w_lt w_lit (w_len_list (w_arg rfl))))
  rw [List.length_map] at h5
  refine Nat.le_of_not_lt fun q => ?_
  have q' : (n : Int) < ((ns.length : Nat) : Int) := by omega
  first
   | (rw [decide_eq_true q'] at h5; exact absurd h5 (by decide))
   | (simp at h5; omega)
 cases hwl with
 | cons w1 w2 =>
  cases w2
  cases w1 with
  | list ho hall => exact ⟨_, _, ns, rfl, rfl, ho, ints_of_wellAll ns _ hall, hlen⟩
theorem post_true (l : OpenLaw) (args : List WData) : l.row.toRowW.claim.post args (.bool true) args = true :=
 postW_of (r := l.row.toRowW) (X := (true == true))
  (show WShape.has [] (.bool true) .bool = true by first | rfl | decide | simp [WShape.has, WShape.arms, WShape.armsAll])
  (show (WTm.eq .res (.lit (.bool true))).value [] { args := args, res := some (.bool true), after := args } = some (.bool (true == true)) from w_eq_bool (w_res rfl) w_lit) rfl
theorem attach_call {l : OpenLaw} {n : Nat} {q : Program} {loose : List Str} {XP : (Str → Option Value) → Heap → Prop} {YP : World → Heap → Prop} {d : DefRec}
  (hn : l.most = some n) (hdf : d.params.defaults = [])
  (call : ∀ (w : World) (s₀ s₁ : Shared) (mg mb : Str → Option Value) (fa : Addr) (o : Obj) (pm cd doc : Value) (a : Addr) (vs : List Value) (ns : List Int),
   Ground q loose [] XP w s₀ mg mb s₁.heap → YP w s₁.heap →
   s₁.heap.get? fa = some o → o.data = .func (docDef d.name d.params d.body d.scope pm cd doc) → s₁.heap.CodeRec cd d.name → mg d.name = some (.ref fa) →
   s₁.heap.get? a = some { cls := .type "list", data := .seq vs.toArray } → IntsAre vs ns → ns.length ≤ n → s₁.gens = #[] →
   codeAny (model l.prog w) callerA (.call (.ref fa) ⟨[.ref a], []⟩) (fun r s' => r = .ok (.ret (.bool true)) ∧ OldK s₁.heap s'.heap ∧ s'.os = s₁.os ∧ AllBare s'.gens) s₁) :
  WalkO q loose XP YP l.row.toRowW d [] (fun f vs => PySem.call f vs) := by
 intro w s₀ s₁ mg mb G Y fa o pm cd doc dV kV ho hd hcd hD hmg hg args vals as hpre hlay hrd hwl hlo
 obtain rfl : dV = .none := Dflts.none hD hdf
 obtain rfl : kV = .none := Dflts.noKw hD
 obtain ⟨a, vs, ns, rfl, rfl, hobj, hints, hlen⟩ := script_of hn hpre hwl
 refine enter_call (codeAny_mono (call w s₀ s₁ mg mb fa o pm cd doc a vs ns G Y ho (fd_plain hd) hcd hmg hobj hints hlen hg) fun r s' hq => ?_)
 obtain ⟨rfl, h2, h3, h4⟩ := hq
 exact ⟨.inl ⟨.bool true, .bool true, [], rfl, fun _ => rfl, .bool true, post_true l _, fun _ => ⟨List.Pairwise.nil, fun _ hm => (nomatch hm)⟩⟩, h2, h3, h4⟩
end Att
namespace L2
open PySem PySem.Spec PyProof.Rows
theorem vals_ints : ∀ {vs : List Value} {ns : List Int}, IntsAre vs ns → Vals (ns.map V.int) vs
 | _, _, .nil => .nil
 | _, _, .cons n t h => .cons ⟨t, rfl⟩ (vals_ints h)
def Only (H : Hp) : Prop := ∀ b, H b = none ∨ ∃ o xs, H b = some (.frz o (.lst xs))
theorem law_call {P : Program} {w : World} {K : PySem.W.Frag} {mg mb : Str → Option Value} {CX : CXT} {k : Nat} {fa a : Addr} {fd : FuncData} {x : Str} {sp : Sp} {s₁ : Shared} {vs : List Value} {ns : List Int}
  (KX : K.In s₁.heap) (hns : s₁.heap.Ns mainGlobals mg) (hb : s₁.heap.Ns builtinsNs mb) (hbb : ∀ x : Str, x ≠ "__name__" → mb x = bootBuiltins x) (hlim : s₁.heap.NoLimit) (hg : s₁.gens = #[])
  (ha : s₁.heap.get? a = some { cls := .type "list", data := .seq vs.toArray }) (hi : IntsAre vs ns) (hl : ns.length ≤ sizeLine) (hr : Room k callerA)
  (F : ∀ base : Heap, K.In base → base.Ns mainGlobals mg → FnOk P w K mg base CX k fa fd [x] sp) (hbind : ∀ (s : Shared) (u : Value), BindsTo s fd ⟨[u], []⟩ [(x, u)])
  (hsp : ∀ H : Hp, Only H → SqL K H a (ns.map V.int) → sp [.ref a] H (fun v _ => v = .bl true) fun _ _ _ => False)
  (hCX : ∀ H e s', CX [] H s₁ (fun _ _ _ => False) e s' → False) :
  codeAny (model P w) callerA (.call (.ref fa) ⟨[.ref a], []⟩) (fun r s' => r = .ok (.ret (.bool true)) ∧ OldK s₁.heap s'.heap ∧ s'.os = s₁.os ∧ AllBare s'.gens) s₁ := by
 have rv := vals_ints hi
 have lenV := hi.length
 have core : ∀ H : Hp, Only H → SqL K H a (ns.map V.int) → HOk P w H s₁.heap → (∀ b, H b ≠ none → b = a) → (H a ≠ none → K.lookup a = none) →
   codeAny (model P w) callerA (.call (.ref fa) ⟨[.ref a], []⟩) (fun r s' => r = .ok (.ret (.bool true)) ∧ OldK s₁.heap s'.heap ∧ s'.os = s₁.os ∧ AllBare s'.gens) s₁ := by
  intro H hO hS hok hA hK
  have base_of : ∀ {b : Addr} {o : Obj}, s₁.heap.get? b = some o → H b = none → (hidT s₁.heap H).get? b = some o := fun e n => hidT_get e n
  have noA : ∀ {b : Addr} {o : Obj} {es : Array DictEntry} {ep : Nat}, s₁.heap.get? b = some o → o.data = .dict es ep → H b = none := fun {b o es ep} e d => by
   cases q : H b with
   | none => rfl
   | some u =>
    have e' : b = a := hA b (by rw [q]; simp)
    subst e'
    rw [ha] at e; cases e
    have d' : Data.seq vs.toArray _ = Data.dict es ep := d
    cases d'
  have nsK : ∀ {b : Addr} {m : Str → Option Value}, s₁.heap.Ns b m → (hidT s₁.heap H).Ns b m := fun {b m} ⟨o, es, ep, e, d, r⟩ => ⟨o, es, ep, base_of e (noA e d), d, r⟩
  have hKb : K.In (hidT s₁.heap H) := fun b o e => base_of (KX b o e) (by
   cases q : H b with
   | none => rfl
   | some u =>
    have e' : b = a := hA b (by rw [q]; simp)
    subst e'
    rw [hK (by rw [q]; simp)] at e; cases e)
  have hM : Mod K mg (hidT s₁.heap H) := ⟨hKb, nsK hns, ⟨mb, nsK hb, hbb⟩, let ⟨mc, h1, h2⟩ := hlim; ⟨mc, nsK h1, h2⟩⟩
  have e0 : Env0 P w K mg (hidT s₁.heap H) callerA [] s₁ H := ⟨rfl, hM, fun b o e => of_hidT e, Nat.le_of_eq (hidT_size _ _), trivial, fun b hb => absurd (show b ∈ ([] : List Addr) from hb) (by simp), hok, .of_eq hg⟩
  refine codeAny_mono ((F _ hKb (nsK hns)).run callerA [] s₁ H ⟨[.ref a], []⟩ [.ref a] [.ref a] _ _ hr e0 (hbind s₁ (.ref a)) (.cons rfl .nil) (hsp H hO hS)) fun r s' h => ?_
  cases r with
  | error e => exact (hCX H e s' h).elim
  | ok fl =>
   cases fl with
   | next => exact False.elim h
   | brk => exact False.elim h
   | cont => exact False.elim h
   | ret u =>
    obtain ⟨v, H', os, bare, un, hok', r', q⟩ := h
    have q' : v = .bl true := q
    subst q'
    obtain rfl : u = Value.bool true := r'
    refine ⟨rfl, OldK.of_keep fun b o e => ?_, os, bare⟩
    cases q : H b with
    | none => exact un.keep b o e q (by intro z; exact absurd (show b ∈ ([] : List Addr) from z) (by simp)) (by simp)
    | some u =>
     rcases hO b with z | ⟨ob, xs, z⟩
     ·rw [q] at z; cases z
     ·have z2 := un.frzs b ob _ z
      obtain ⟨e1, _⟩ := hok b _ z
      obtain ⟨e2, _⟩ := hok' b _ z2
      rw [e] at e1; cases e1
      exact e2
 cases hk : K.lookup a with
 | some o =>
  have e := KX a o hk
  rw [ha] at e
  cases e
  refine core (fun _ => none) (fun _ => .inl rfl) (.inr ⟨_, vs.toArray, _, hk, rfl, rfl, rfl, by rw [List.size_toArray, lenV]; exact hl, by simpa using rv⟩) (fun b u z => by have z' : (none : Option HO) = some u := z; cases z') (fun b z => absurd rfl z) fun z => absurd rfl z
 | none =>
  refine core (fun b => if b = a then some (.frz { cls := .type "list", data := .seq vs.toArray } (.lst (ns.map V.int))) else none) (fun b => ?_) (.inl (.inr ⟨{ cls := .type "list", data := .seq vs.toArray }, if_pos rfl⟩)) (fun b u z => ?_) (fun b z => ?_) fun _ => hk
  ·by_cases hb : b = a
   ·exact .inr ⟨_, _, if_pos hb⟩
   ·exact .inl (if_neg hb)
  ·by_cases hb : b = a
   ·have z' := (if_pos hb).symm.trans z
    cases z'
    subst hb
    exact ⟨ha, by rw [List.length_map]; exact hl, vs, _, rv, ha⟩
   ·have z' := (if_neg hb).symm.trans z
    cases z'
  ·by_cases hb : b = a
   ·exact hb
   ·exact absurd (if_neg hb) z
end L2
namespace L2
open PySem PySem.Spec PyProof.Rows
abbrev KOf {K : PySem.W.Frag} {h : Heap} (_ : K.In h) : PySem.W.Frag := K
theorem walk_of {l : PySem.W.OpenLaw} {n k : Nat} {q : Program} {loose : List Str} {XP : (Str → Option Value) → Heap → Prop} {YP : World → Heap → Prop} {d : DefRec} {K : Params → PySem.W.Frag} {CX : World → CXT} {sp : World → Sp} {x : Str}
  (hn : l.most = some n) (hn2 : n ≤ sizeLine) (hdf : d.params.defaults = []) (hr : Room k callerA)
  (hY : ∀ (w : World) (h : Heap), YP w h → (K w.params).In h)
  (F : ∀ (w : World) (mg : Str → Option Value) (fa : Addr) (h : Heap), (K w.params).In h → h.Ns mainGlobals mg → mg d.name = some (.ref fa) →
   ∃ fd : FuncData, (∀ (s : Shared) (u : Value), BindsTo s fd ⟨[u], []⟩ [(x, u)]) ∧
    ∀ base : Heap, (K w.params).In base → base.Ns mainGlobals mg → FnOk l.prog w (K w.params) mg base (CX w) k fa fd [x] (sp w))
  (hsp : ∀ (w : World) (H : Hp) (a : Addr) (ns : List Int), ns.length ≤ n → Only H → SqL (K w.params) H a (ns.map V.int) → sp w [.ref a] H (fun v _ => v = .bl true) fun _ _ _ => False)
  (hCX : ∀ (w : World) (H : Hp) (s : Shared) (e : Value) (s' : Shared), CX w [] H s (fun _ _ _ => False) e s' → False) :
  PySem.W.WalkO q loose XP YP l.row.toRowW d [] (fun f vs => PySem.call f vs) := by
 refine Att.attach_call hn hdf fun w s₀ s₁ mg mb fa o pm cd doc a vs ns G Y ho hd hcd hmg hobj hints hlen hg => ?_
 have KX := hY w _ Y
 obtain ⟨fd, hb, hF⟩ := F w mg fa _ KX G.T.g hmg
 exact law_call KX G.T.g G.T.b G.T.builtins G.T.nolimit hg hobj hints (Nat.le_trans hlen hn2) hr hF hb (fun H hO hS => hsp w H a ns hlen hO hS) fun H e s' => hCX w H s₁ e s'
end L2
namespace L2
open PySem PySem.Spec PyProof.Rows
def inClass (s : Stmt) (j : Nat) : Stmt := match s with
 | .ClassDef _ _ _ body _ _ _ _ _ _ _ => body.getD j (.Pass ⟨0, 0, 0, 0⟩)
 | _ => .Pass ⟨0, 0, 0, 0⟩
def defArgs (s : Stmt) : Arguments := match s with
 | .FunctionDef _ a _ _ _ _ _ _ _ _ => a
 | _ => { posonlyargs := [], args := [], vararg := none, kwonlyargs := [], kw_defaults := [], kwarg := none, defaults := [] }
def defBody (s : Stmt) : List Stmt := match s with
 | .FunctionDef _ _ b _ _ _ _ _ _ _ => b
 | _ => []
def defScope (s : Stmt) : Scope := match s with
 | .FunctionDef _ _ _ _ _ _ sc _ _ _ => sc
 | _ => { kind := .function, names := [], isGenerator := false, isCoroutine := false }
abbrev E0 : XK := fun _ _ _ => False
structure Fun (K : PySem.W.Frag) (x qual : Str) (st : Stmt) (f : Addr) (fd : FuncData) : Prop where
 ex : ∃ (oc : Value) (od : Option Addr) (kV doc pm : Value) (an : Option Addr) (cdv ct : Value) (osl : Array (Option Value)),
  fd = PySem.W.fnOf x qual (defArgs st) (defBody st) (defScope st) .none kV doc pm an cdv ct ∧ K.lookup f = some ⟨oc, od, .func fd, osl⟩ ∧ PySem.W.codeIn K cdv qual = true
 kp : PySem.W.keepIn K (.ref f) = true
section
variable {P : Program} {w : World} {K : PySem.W.Frag} {mg : Str → Option Value} {base : Heap}
theorem Fun.binds {x qual : Str} {st : Stmt} {f : Addr} {fd : FuncData} {ps : List Str} (F : Fun K x qual st f fd)
  (h : ∀ (kV doc pm : Value) (an : Option Addr) (cdv ct : Value) (us : List Value), us.length = ps.length → bindArgs (PySem.W.fnOf x qual (defArgs st) (defBody st) (defScope st) .none kV doc pm an cdv ct) ⟨us, []⟩ = pure (ps.zip us)) : Binds K fd ps [] := by
 obtain ⟨oc, od, kV, doc, pm, an, cdv, ct, osl, rfl, lk, hcd⟩ := F.ex
 exact .all (h kV doc pm an cdv ct)
theorem fun_mk {x qual : Str} {st : Stmt} {f : Addr} {oc : Value} {od an : Option Addr} {osl : Array (Option Value)} {kV doc pm cdv ct : Value} (l : K.lookup f = some ⟨oc, od, .func (PySem.W.fnOf x qual (defArgs st) (defBody st) (defScope st) .none kV doc pm an cdv ct), osl⟩)
  (c : PySem.W.codeIn K cdv qual = true) (k : PySem.W.keepIn K (.ref f) = true) : Fun K x qual st f (PySem.W.fnOf x qual (defArgs st) (defBody st) (defScope st) .none kV doc pm an cdv ct) := ⟨⟨oc, od, kV, doc, pm, an, cdv, ct, osl, rfl, l, c⟩, k⟩
end
theorem hu_of {A : Around} {k : Nat} (hr : Room k A) : A.units + 1 < cLine := Nat.lt_of_le_of_lt (Nat.add_le_add_left (by decide : 1 ≤ 64) _) hr.units
theorem small1000 {n : Nat} (h : n ≤ 1000) : n < sizeLine := Nat.lt_of_le_of_lt h (by decide)
section
variable {X : Cx}
theorem pv (i : Nat) {x : Str} {pos : Pos} (hN : X.N[i]? = some x := by rfl) (hv : Vis X.env.scope x := by first | exact Or.inl rfl | exact Or.inr (Or.inl rfl) | exact Or.inr (Or.inr rfl)) (hd : (x == ("__debug__" : Str)) = false := by decide)
  (hcd : (x == ("__classdict__" : Str)) = false := by decide) : PE X (.Name x pos) (tVar i) := pe_var hN hv hd hcd
end
theorem iteF {A B : Prop} (h : B) : if false = true then A else B := by
 rw [if_neg Bool.false_ne_true]
 exact h
theorem iteT {A B : Prop} (h : A) : if true = true then A else B := by
 rw [if_pos rfl]
 exact h
theorem ite2 {c A B : Prop} [Decidable c] (h1 : c → A) (h2 : ¬ c → B) : if c then A else B := by
 by_cases h : c
 ·rw [if_pos h]
  exact h1 h
 ·rw [if_neg h]
  exact h2 h
def Same (H H' : Hp) : Prop := ∀ b o, H b = some o → H' b = some o
theorem Same.refl (H : Hp) : Same H H := fun _ _ h => h
theorem Same.trans {H H1 H2 : Hp} (a : Same H H1) (b : Same H1 H2) : Same H H2 := fun c o h => b c o (a c o h)
theorem Same.free {H H' : Hp} (e : Same H H') {l : Addr} (h : H' l = Option.none) : H l = Option.none := by
 cases q : H l with
 | none => rfl
 | some o =>
  rw [e l o q] at h
  cases h
theorem Same.seq {K : PySem.W.Frag} {H H' : Hp} {a : Addr} {xs : List V} (e : Same H H') (h : SqL K H a xs) : SqL K H' a xs := by
 rcases h with (h | ⟨o, h⟩) | h
 ·exact .inl (.inl (e _ _ h))
 ·exact .inl (.inr ⟨o, e _ _ h⟩)
 ·exact .inr h
section
variable {X : Cx}
theorem call_lenD : CallR X (.builtin "len") (fun xs H Q => ∃ a kvs, xs = [V.ref a] ∧ H a = some (.dK kvs) ∧ Q (.int kvs.length) H) := by
 intro pins s σ H xs us Q I r h
 obtain ⟨a, kvs, rfl, ha, q⟩ := h
 obtain ⟨u, rfl, ru⟩ := vals1 r
 cases ru
 exact d_len I (.inl ha) fun t s' I' => ⟨.int kvs.length, H, I', ⟨t, rfl⟩, q⟩
end
end L2
set_option maxHeartbeats 4000000
namespace L2
open PySem PySem.Spec PyProof.Rows
def cloList (env : Env) : List (Str × NameKind) → List (Str × Addr) → List (Str × Addr)
 | [], acc => acc
 | (n, k) :: r, acc => if (k == NameKind.free) = true then (match env.cells.lookup n with
  | some c => cloList env r ((n, c) :: acc)
  | none => cloList env r acc) else cloList env r acc
theorem cloList_sound {env : Env} : ∀ (ns : List (Str × NameKind)) (acc : List (Str × Addr)), (∀ x c, acc.lookup x = some c → env.cells.lookup x = some c) →
  ∀ x c, (cloList env ns acc).lookup x = some c → env.cells.lookup x = some c
 | [], acc, h => h
 | (n, k) :: r, acc, h => by
  unfold cloList
  split
  ·cases e : env.cells.lookup n with
   | none => exact cloList_sound r acc h
   | some c =>
    refine cloList_sound r _ fun x d hx => ?_
    rw [List.lookup_cons] at hx
    cases hb : x == n with
    | true =>
     rw [hb] at hx
     cases hx
     rw [beq_iff_eq.mp hb]
     exact e
    | false =>
     rw [hb] at hx
     exact h x d hx
  ·exact cloList_sound r acc h
theorem cloList_keeps {env : Env} : ∀ (ns : List (Str × NameKind)) (acc : List (Str × Addr)) (x : Str), (∃ c, acc.lookup x = some c) → ∃ c, (cloList env ns acc).lookup x = some c
 | [], acc, x, h => h
 | (n, k) :: r, acc, x, h => by
  unfold cloList
  split
  ·cases e : env.cells.lookup n with
   | none => exact cloList_keeps r acc x h
   | some c =>
    refine cloList_keeps r _ x ?_
    rw [List.lookup_cons]
    cases hb : x == n with
    | true => exact ⟨c, rfl⟩
    | false => exact h
  ·exact cloList_keeps r acc x h
theorem cloList_has {env : Env} : ∀ (ns : List (Str × NameKind)) (acc : List (Str × Addr)) (x : Str), (x, NameKind.free) ∈ ns → (∃ c, env.cells.lookup x = some c) → ∃ c, (cloList env ns acc).lookup x = some c
 | [], acc, x, h, _ => by cases h
 | (n, k) :: r, acc, x, h, hc => by
  rcases List.mem_cons.mp h with e | h
  ·cases e
   obtain ⟨c, hc⟩ := hc
   unfold cloList
   rw [if_pos (show (NameKind.free == NameKind.free) = true by decide), hc]
   exact cloList_keeps r _ n ⟨c, by rw [List.lookup_cons, beq_self_eq_true]⟩
  ·unfold cloList
   split
   ·cases e : env.cells.lookup n with
    | none => exact cloList_has r acc x h hc
    | some c => exact cloList_has r _ x h hc
   ·exact cloList_has r acc x h hc
theorem cloFor_run {env : Env} (f : Str × NameKind → List (Str × Addr) → Sem (ForInStep (List (Str × Addr))))
  (hf : ∀ name kind cs, f (name, kind) cs = if (kind == NameKind.free) = true then (do let a ← cellOf env name; pure (.yield ((name, a) :: cs))) else pure (.yield cs)) :
  ∀ (ns : List (Str × NameKind)) (acc : List (Str × Addr)), (∀ y ∈ ns, y.2 = .free → ∃ c, env.cells.lookup y.1 = some c) → forIn ns acc f = pure (cloList env ns acc)
 | [], acc, _ => by rw [List.forIn_nil]; rfl
 | (n, k) :: r, acc, h => by
  rw [List.forIn_cons, hf]
  unfold cloList
  have hr : ∀ y ∈ r, y.2 = .free → ∃ c, env.cells.lookup y.1 = some c := fun y hy => h y (List.mem_cons_of_mem _ hy)
  split
  ·rename_i hk
   obtain ⟨c, hc⟩ := h (n, k) List.mem_cons_self (by simpa using hk)
   have hc' : env.cells.lookup n = some c := hc
   have e : cellOf env n = pure c := by unfold cellOf; rw [hc']
   rw [e, hc']
   exact cloFor_run f hf r ((n, c) :: acc) hr
  ·exact cloFor_run f hf r acc hr
theorem closure_run {env : Env} {scope : Scope} (h : ∀ y ∈ scope.names, y.2 = .free → ∃ c, env.cells.lookup y.1 = some c) : closureFor scope env = pure (cloList env scope.names []) := by
 unfold closureFor
 dsimp only
 rw [cloFor_run (env := env) _ (fun name kind cs => by split <;> rfl) scope.names [] h]
 rfl
theorem relabel_lookup (env : Env) : ∀ (names : List (Str × NameKind)) (x : Str),
  (names.map fun (n, k) => if (k == NameKind.free && env.scope.kind == .function && env.kindOf n == some .cell) then (n, NameKind.cell) else (n, k)).lookup x =
   (names.lookup x).map fun k => if (k == NameKind.free && env.scope.kind == .function && env.kindOf x == some .cell) = true then NameKind.cell else k
 | [], _ => rfl
 | (n, k) :: r, x => by
  have ih := relabel_lookup env r x
  have e : (if (k == NameKind.free && env.scope.kind == .function && env.kindOf n == some .cell) = true then (n, NameKind.cell) else (n, k)) = (n, if (k == NameKind.free && env.scope.kind == .function && env.kindOf n == some .cell) = true then NameKind.cell else k) := by split <;> rfl
  show List.lookup x ((if (k == NameKind.free && env.scope.kind == .function && env.kindOf n == some .cell) = true then (n, NameKind.cell) else (n, k)) :: _) = _
  rw [e, List.lookup_cons, List.lookup_cons]
  cases hx : x == n with
  | true =>
   have e2 : x = n := beq_iff_eq.mp hx
   subst e2
   rfl
  | false => exact ih
theorem relabel_free {env : Env} {names : List (Str × NameKind)} {x : Str} {k : NameKind} (hc : ∀ y ∈ names, y.2 ≠ .cell)
  (h : (names.map fun (n, k) => if (k == NameKind.free && env.scope.kind == .function && env.kindOf n == some .cell) then (n, NameKind.cell) else (n, k)).lookup x = some k) (hk : k = .cell ∨ k = .free) : names.lookup x = some .free := by
 rw [relabel_lookup] at h
 cases e : names.lookup x with
 | none => rw [e] at h; cases h
 | some k' =>
  rw [e] at h
  have hk' : k' ≠ .cell := hc _ (PySem.mem_of_lookup e)
  have h' : (if (k' == NameKind.free && env.scope.kind == .function && env.kindOf x == some .cell) = true then NameKind.cell else k') = k := Option.some.inj h
  split at h'
  ·rename_i q
   simp only [Bool.and_eq_true, beq_iff_eq] at q
   rw [q.1.1]
  ·subst h'
   rcases hk with z | z
   ·exact absurd z hk'
   ·rw [z]
theorem relabel_nolocal {env : Env} {names : List (Str × NameKind)} {x : Str} (h : names.lookup x = some .free) :
  (names.map fun (n, k) => if (k == NameKind.free && env.scope.kind == .function && env.kindOf n == some .cell) then (n, NameKind.cell) else (n, k)).lookup x ≠ some .local := by
 rw [relabel_lookup, h]
 intro z
 have z' : (if (NameKind.free == NameKind.free && env.scope.kind == .function && env.kindOf x == some .cell) = true then NameKind.cell else NameKind.free) = .local := Option.some.inj z
 split at z' <;> cases z'
def blkCx (X : Cx) (N' : List Str) (scope : Scope) (C : Addr) (s₀ : Shared) (H₀ : Hp) (ex : List Addr) : Cx :=
 { X with N := N', s₀ := s₀, H₀ := H₀, env := compEnvC scope (cloList X.env scope.names []) C X.env, outer := X.stack, ex := ex, fn := fun _ => false, pn := [], xe := fun _ _ => False }
def FvOk (X : Cx) (scope : Scope) : List (Str × Nat) → Prop
 | [] => True
 | (x, j) :: r => (X.N[j]? = some x ∧ scope.names.lookup x = some .free ∧ (X.env.kindOf x = some .cell ∨ X.env.kindOf x = some .free)) ∧ FvOk X scope r
theorem FvOk.mem {X : Cx} {scope : Scope} : ∀ {l : List (Str × Nat)}, FvOk X scope l → ∀ y ∈ l, X.N[y.2]? = some y.1 ∧ scope.names.lookup y.1 = some .free ∧ (X.env.kindOf y.1 = some .cell ∨ X.env.kindOf y.1 = some .free)
 | [], _, _, h => by cases h
 | (x, j) :: r, h, y, hy => by
  rcases List.mem_cons.mp hy with e | hy
  ·cases e; exact h.1
  ·exact FvOk.mem h.2 y hy
def blkN (ts : List Str) (fv : List (Str × Nat)) : List Str := ts ++ fv.map (·.1)
def blkS (ts : List Str) (fv : List (Str × Nat)) (σ : St) : St := ts.map (fun _ => none) ++ fv.map fun y => (σ[y.2]?).join
structure BlkOk (X : Cx) (scope : Scope) (fv : List (Str × Nat)) : Prop where
 kind : scope.kind = .function
 nocell : ∀ y ∈ scope.names, y.2 ≠ .cell
 names : ∀ y ∈ scope.names, y.2 = .local → scope.names.lookup y.1 = some .local
 free : ∀ y ∈ scope.names, y.2 = .free → X.env.kindOf y.1 = some .cell ∨ X.env.kindOf y.1 = some .free
 fvs : FvOk X scope fv
section
variable {X : Cx} {pins : List (Addr × Obj)} {σ : St} {H : Hp} {s : Shared} {scope : Scope} {ts : List Str} {fv : List (Str × Nat)}
theorem blk_start {h' : Heap} {fp : List Addr} {tk : Nat} (B : BlkOk X scope fv) (I : Inv X pins σ H s) (hf : ∀ b ∈ fp, FpOk X pins H b) (ho : ∀ b ∈ fp, ∃ o, s.heap.get? b = some o)
  (hn : h'.Ns s.heap.objs.size (fun _ => none)) (hk : ∀ b o, s.heap.get? b = some o → h'.get? b = some o) :
  Inv (blkCx X (blkN ts fv) scope s.heap.objs.size s H fp) [] (blkS ts fv σ) H { s with heap := h', toks := tk } := by
 have has : ∀ y ∈ scope.names, y.2 = .free → ∃ c, X.env.cells.lookup y.1 = some c := fun y hy e => I.ok.has y.1 (B.free y hy e)
 have snd : ∀ x c, (cloList X.env scope.names []).lookup x = some c → X.env.cells.lookup x = some c := cloList_sound _ _ (fun x c h => by simp at h)
 have fr : ∀ x, (scope.names.lookup x = some .free) → ∃ c, (cloList X.env scope.names []).lookup x = some c := fun x hx =>
  cloList_has _ _ x (PySem.mem_of_lookup hx) (has _ (PySem.mem_of_lookup hx) rfl)
 have nfs : ∀ b ∈ fp, b ∉ frs X.stack := fun b hb z => by
  obtain ⟨_, h1, h2, _⟩ := hf b hb
  rcases List.mem_cons.mp (I.stkSub b z) with e | e
  ·exact h1 e
  ·exact h2 e
 have lt : ∀ b ∈ fp, b < s.heap.objs.size := fun b hb => let ⟨o, e⟩ := ho b hb; Heap.lt_size e
 refine ⟨⟨I.ok.mod, ?_, I.ok.glob, I.ok.blt, Nat.le_refl _, fun x y c h1 h2 => I.ok.inj x y c (snd x c h1) (snd y c h2), fun x hx => ?_, fun _ _ h => absurd (show false = true from h) Bool.false_ne_true, I.ok.hd, I.ok.frames, .inl rfl, fun b hb => ⟨Nat.ne_of_lt (lt b hb), fun x c e => (hf b hb).2.2.2.2.1 x c (snd x c e)⟩, I.bs, Nat.le_trans I.ok.bsz I.sz, fun b o e hb => ?_, nfs, I.stack, I.stkFree⟩,
  rfl, I.bare, Un.kept hk, ⟨_, hn, fun i x v h1 h2 h3 => ?_⟩, fun x c e => ?_, I.fresh, fun x c e => I.freeC x c (snd x c e), fun p hp => ?_, I.hok.kept hk, ?_⟩
 ·exact B.kind
 ·refine fr x ?_
  have hx' : (relabel scope X.env).names.lookup x = some .cell ∨ (relabel scope X.env).names.lookup x = some .free := hx
  rcases hx' with e | e
  ·exact relabel_free B.nocell e (.inl rfl)
  ·exact relabel_free B.nocell e (.inr rfl)
 ·rcases (hf b hb).2.2.2.1 with z | z
  ·exact I.ok.noex b o e z
  ·exact absurd (Nat.lt_of_lt_of_le (Heap.lt_size e) (Nat.le_trans I.ok.bsz z)) (Nat.lt_irrefl _)
 ·have h1 : (ts ++ fv.map (·.1))[i]? = some x := h1
  have h2 : (ts.map (fun _ => (none : Option V)) ++ fv.map fun y => (σ[y.2]?).join)[i]? = some (some v) := h2
  by_cases hi : i < ts.length
  ·rw [List.getElem?_append_left (by simpa using hi), List.getElem?_map] at h2
   cases e : ts[i]? with
   | none => rw [e] at h2; cases h2
   | some z => rw [e] at h2; cases h2
  ·rw [List.getElem?_append_right (by simpa using hi), List.length_map, List.getElem?_map] at h2
   rw [List.getElem?_append_right (by simpa using hi), List.getElem?_map] at h1
   cases e : fv[i - ts.length]? with
   | none => rw [e] at h2; cases h2
   | some y =>
    rw [e] at h1 h2
    have e1 : y.1 = x := by simpa using h1
    have e2 : (σ[y.2]?).join = some v := by simpa using h2
    obtain ⟨f1, f2, f3⟩ := B.fvs.mem y (List.mem_of_getElem? e)
    have e3 : σ[y.2]? = some (some v) := by
     cases q : σ[y.2]? with
     | none => rw [q] at e2; cases e2
     | some z => rw [q] at e2; exact congrArg some e2
    obtain ⟨m, hm, hl⟩ := I.loc
    obtain ⟨u, r, l⟩ := hl y.2 y.1 v f1 e3 (by rcases f3 with z | z; exact .inr (.inl z); exact .inr (.inr z))
    rw [e1] at f2 f3 l
    refine ⟨u, r, ?_⟩
    obtain ⟨c, hc⟩ := fr x f2
    have hc' := snd x c hc
    rcases l with ⟨l1, _⟩ | ⟨_, c2, l2, l3⟩
    ·rcases f3 with z | z
     ·rw [l1] at z; cases z
     ·rw [l1] at z; cases z
    ·rw [hc'] at l2
     cases l2
     have hv : Vis (relabel scope X.env) x := h3
     rcases hv with z | z | z
     ·exfalso
      exact relabel_nolocal f2 z
     ·exact .inr ⟨.inl z, c, hc, l3.keeps hk⟩
     ·exact .inr ⟨.inr z, c, hc, l3.keeps hk⟩
 ·obtain ⟨v, z⟩ := I.cell x c (snd x c e)
  exact ⟨v, z.keeps hk⟩
 ·exact absurd (show p ∈ ([] : List (Addr × Obj)) from hp) (by simp)
 ·show (ts.map (fun _ => (none : Option V)) ++ fv.map fun y => (σ[y.2]?).join).length = (ts ++ fv.map (·.1)).length
  simp
theorem Inv.apart {C : Addr} {h' : Heap} (I : Inv X pins σ H s) (hs : Heap.SameBut C s.heap h') (hC : H C = none) (h0 : X.s₀.heap.objs.size ≤ C) (hL : C ≠ X.env.locals) (hc : ∀ x c, X.env.cells.lookup x = some c → c ≠ C) (hp : ∀ p ∈ X.pn ++ pins, p.1 ≠ C) :
  Inv X pins σ H { s with heap := h' } :=
 I.turned (t' := s.toks) (it := C) (fun b o hb e => (hs.2 b hb).trans e) hC hL (.inr h0) hc hp
theorem blk_end {s' : Shared} {H' : Hp} {σ' : St} {C : Addr} {N' : List Str} {fp : List Addr} (I : Inv X pins σ H s) (hf : ∀ b ∈ fp, FpOk X pins H b) (hC : s.heap.objs.size ≤ C)
  (J : Inv (blkCx X N' scope C s H fp) [] σ' H' s') : Inv X pins σ H' s' ∧ H' C = none ∧ X.s₀.heap.objs.size ≤ C ∧ C ≠ X.env.locals ∧ (∀ x c, X.env.cells.lookup x = some c → c ≠ C) ∧ (∀ p ∈ X.pn ++ pins, p.1 ≠ C) := by
 refine ⟨I.call' J.os J.base J.hok J.bare fun b hb => ?_, J.free, Nat.le_trans I.sz hC, Nat.ne_of_gt (Nat.lt_of_lt_of_le I.lt hC), fun x c e z => ?_, fun p hp z => ?_⟩
 ·obtain ⟨_, h1, _, h3, h4, h5⟩ := hf b hb
  exact ⟨h3, h1, h4, h5⟩
 ·obtain ⟨v, q⟩ := I.cell x c e
  exact absurd (Nat.lt_of_lt_of_le q.lt (by rw [z]; exact hC)) (Nat.lt_irrefl _)
 ·exact absurd (Nat.lt_of_lt_of_le (Heap.lt_size (I.pin p hp).1) (by rw [z]; exact hC)) (Nat.lt_irrefl _)
end
end L2
set_option maxHeartbeats 4000000
namespace L2
open PySem PySem.Spec PyProof.Rows
abbrev TB := St → Hp → (St → Hp → Prop) → Prop
def PTs (X : Cx) (ifs : List Expr) (t : TT) : Prop :=
 ∀ (pins : List (Addr × Obj)) (s : Shared) (σ : St) (H : Hp) (Q : Bool → Hp → Prop), Inv X pins σ H s → t σ H Q →
  wpAny (model X.prog X.w) X.A (forIn ifs true fun c r => if r = true then do let ok ← isTrue c X.env (eval c X.env); pure (ForInStep.yield ok) else pure (ForInStep.yield r)) (TP X pins σ Q) X.xe s
def tYes : TT := fun _ H Q => Q true H
theorem pts_nil {X : Cx} : PTs X [] tYes := fun pins s σ H Q I h => wpAny_tests_nil ⟨H, I, h⟩
theorem pts_one {X : Cx} {c : Expr} {t : TT} (h : PT X c t) : PTs X [c] t := fun pins s σ H Q I hq => wpAny_tests_one (h pins s σ H Q I hq)
def PB (X : Cx) (kont : Sem Fin) (c : Code) (t : TB) : Prop :=
 ∀ (pins : List (Addr × Obj)) (s : Shared) (σ : St) (H : Hp) (N : St → Hp → Prop), Inv X pins σ H s → t σ H N →
  wpAny (model X.prog X.w) X.A kont (fun fin s' => fin = .again c ∧ ∃ σ' H', Inv X pins σ' H' s' ∧ N σ' H') X.xe s
def LoopR (J : It) (g : TG) (tt : TT) (tb : TB) (R : St → Hp → Prop) (σ : St) (H : Hp) : Prop :=
 ∃ W : Nat → Nat → St → Hp → Prop, (∃ m, W 0 m σ H) ∧ ∀ i m σ H, W i m σ H →
  (J.stop i H ∧ R σ H) ∨ (J.go i H ∧ ∃ N : St → Hp → Prop, (∀ σ' H', N σ' H' → ∃ m', m' < m ∧ W (i + 1) m' σ' H') ∧
   ∀ x H', J.yld i H x H' → g x σ H' fun σ2 H2 => tt σ2 H2 fun b H3 => if b = true then tb σ2 H3 N else N σ2 H3)
section
variable {X : Cx}
theorem comp_loop {e tg : Expr} {d : Nat} {acc : Value} {ifs : List Expr} {kont : Sem Fin} {J : It} {fp : List Addr} {it : Addr} {tn : Nat → Heap → Prop} {g : TG} {tt : TT} {tb : TB} {p : Pos} {pins : List (Addr × Obj)} {s : Shared} {σ : St} {H : Hp} {R : St → Hp → Prop}
  {RR : Result → Shared → Prop} (hxe : X.xe = fun _ _ => False)
  (hcq : Code.quiet (.compLoop e d (.ref it) acc X.env) = true) (hden : (model X.prog X.w).den (.compLoop e d (.ref it) acc X.env) = (compTurn e d (.ref it) acc X.env).onRaise (fun x => do noteFrame x X.env; theTreesLotGoes x))
  (hund : X.A.under (.compLoop e d (.ref it) acc X.env) = X.A)
  (heq : compTurn e d (.ref it) acc X.env = (standAt p >>= fun _ => pyNext (.ref it) >>= fun r => match r with
   | none => pure (.done .next)
   | some v => letOwnedTupleGo tg (.ref it) v >>= fun _ => assign tg X.env v >>= fun _ =>
    (forIn ifs true fun c r => if r = true then do let ok ← isTrue c X.env (eval c X.env); pure (ForInStep.yield ok) else pure (ForInStep.yield r)) >>= fun ok =>
     if ok = true then kont else again (.compLoop e d (.ref it) acc X.env)))
  (T : Turn X.prog X.w X.K tg J fp it tn) (hc : X.calm = true) (hg : PG X tg g) (ht : PTs X ifs tt) (hb : PB X kont (.compLoop e d (.ref it) acc X.env) tb)
  (hf : ∀ b ∈ fp, FpOk X pins H b) (I : Inv X pins σ H s) (st : tn 0 s.heap) (h : LoopR J g tt tb R σ H)
  (hR : ∀ s' σ' H', Inv X pins σ' H' s' → R σ' H' → RR (.ok .next) s') :
  codeAny (model X.prog X.w) X.A (.compLoop e d (.ref it) acc X.env) RR s := by
 obtain ⟨W, ⟨m0, w0⟩, turn⟩ := h
 have stat : ∀ {H' : Hp}, (∀ b ∈ fp, H' b = none) → ∀ b ∈ fp, FpOk X pins H' b := fun hn b hb => ⟨hn b hb, (hf b hb).2⟩
 refine codeAny_loop hcq (fun n s' => ∃ i σ' H', Inv X pins σ' H' s' ∧ tn i s'.heap ∧ (∀ b ∈ fp, H' b = none) ∧ W i n σ' H') ?_ m0 ⟨0, σ, H, I, st, fun b hb => (hf b hb).1, w0⟩
 rintro n s3 ⟨i, σ3, H3, I3, st3, fr3, w3⟩
 rw [hden, hund]
 refine wpAny_noted (wpAny_mono (E := fun _ _ => False) ?_ (fun _ _ q => q) fun _ _ z => z.elim)
 rw [heq]
 have hxe' : ∀ {α : Type} {t : Sem α} {Q : α → Shared → Prop} {s : Shared}, wpAny (model X.prog X.w) X.A t Q X.xe s → wpAny (model X.prog X.w) X.A t Q (fun _ _ => False) s := fun h => by rw [hxe] at h; exact h
 refine wpAny_bind (wpAny_standAt (wpAny_bind ?_))
 rcases turn i n σ3 H3 w3 with ⟨stop, qn⟩ | ⟨go, N, hN, step⟩
 ·refine thn (T.done X rfl rfl rfl hc i pins s3 σ3 H3 _ I3 (stat fr3) st3 stop) fun r s4 ⟨hr, I4⟩ => ?_
  subst hr
  exact wpAny_pure (hR s4 σ3 H3 I4 qn)
 ·refine thn (T.item X rfl rfl rfl hc i pins s3 σ3 H3 _ I3 (stat fr3) st3 go) fun r s4 ⟨u, hr, h4⟩ => ?_
  subst hr
  refine wpAny_bind (thn h4 fun _ s5 ⟨x, H5, I5, r5, y5, st5, fr5⟩ => ?_)
  have I5' := I5.pinned (stat fr5) (T.obj _ _ st5)
  refine wpAny_bind (hxe' (thn (hg _ s5 σ3 H5 x u _ I5' r5 (step x H5 y5)) fun _ s6 ⟨σ6, H6, I6, q6⟩ => ?_))
  refine wpAny_bind (hxe ▸ thn (ht _ s6 σ6 H6 _ I6 q6) fun ok s7 ⟨H7, I7, q7⟩ => ?_)
  have back : ∀ {σ7 : St} {H7 : Hp} {s7 : Shared}, Inv X (pins ++ pinsAt fp s5.heap) σ7 H7 s7 → N σ7 H7 → ∃ m, m < n ∧ ∃ i σ' H', Inv X pins σ' H' s7 ∧ tn i s7.heap ∧ (∀ b ∈ fp, H' b = none) ∧ W i m σ' H' := fun {σ7 H7 s7} I7 n7 => by
   obtain ⟨m', hm, w7⟩ := hN σ7 H7 n7
   refine ⟨m', hm, i + 1, σ7, H7, I7.unpinned, T.keep _ _ _ st5 fun b hb o e => (I7.pin (b, o) (List.mem_append_right _ (List.mem_append_right _ (mem_pinsAt hb e)))).1, fun b hb => ?_, w7⟩
   obtain ⟨o, e, d⟩ := T.obj _ _ st5 b hb
   exact (I7.pin (b, o) (List.mem_append_right _ (List.mem_append_right _ (mem_pinsAt hb e)))).2.1
  cases ok with
  | false => exact hxe ▸ wpAny_pure ⟨rfl, back I7 q7⟩
  | true =>
   refine thn (hb _ s7 σ6 H7 N I7 q7) fun fin s8 ⟨hfin, σ8, H8, I8, q8⟩ => ?_
   subst hfin
   exact ⟨rfl, back I8 q8⟩
end
end L2
set_option maxHeartbeats 4000000
namespace L2
open PySem PySem.Spec PyProof.Rows
def tEmit (te : TE) (D : Addr) : TB := fun σ H N => te σ H fun v H1 => ∃ xs, H1 D = some (.lst xs) ∧ xs.length < sizeLine ∧ N σ (upd H1 D (.lst (xs ++ [v])))
section
variable {X : Cx}
theorem pb_emit {elt : Expr} {te : TE} {D : Addr} {c : Code} (he : PE X elt te) :
  PB X ((eval elt X.env >>= fun x => call (.builtin "list.append") [.ref D, x] >>= fun _ => pure ()) >>= fun _ => again c) c (tEmit te D) := by
 intro pins s σ H N I h
 refine wpAny_bind (wpAny_bind (thn (he pins s σ H _ I h) fun u s1 ⟨v, H1, I1, r1, q1⟩ => ?_))
 obtain ⟨xs, hD, hl, q⟩ := q1
 refine wpAny_bind (thn (mt_append pins s1 σ H1 (.ref D) [v] (.ref D) [u] (fun _ H2 => N σ H2) I1 rfl (.cons r1 .nil) ⟨D, xs, v, rfl, rfl, hD, hl, q⟩) fun _ s2 ⟨_, H2, I2, _, q2⟩ => ?_)
 exact wpAny_pure (wpAny_pure ⟨rfl, σ, H2, I2, q2⟩)
def tGen (wi : TI) (g : TG) (tt : TT) (tb : TB) : TB := fun σ H N => wi σ H fun J H1 => LoopR J g tt tb N σ H1
theorem compStart1 {prog : Program} {w : World} {A : Around} {R : Result → Shared → Prop} {s : Shared} {elt : Expr} {t0 i0 : Expr} {f0 : List Expr} {t1 i1 : Expr} {f1 : List Expr} {scope : Scope} {pos : Pos} {it acc : Value} {env : Env}
  (h0 : codeAny (model prog w) A (.compLoop (.ListComp elt [⟨t0, i0, f0, 0⟩, ⟨t1, i1, f1, 0⟩] scope pos) 1 it acc env) R s)
  (h : wpAny (model prog w) A (pyIter it) (fun it' s' => codeAny (model prog w) A (.compLoop (.ListComp elt [⟨t0, i0, f0, 0⟩, ⟨t1, i1, f1, 0⟩] scope pos) 1 it' acc env) R s')
   (notedBy (model prog w) A env fun x s' => R (.error x) s') s) :
  codeAny (model prog w) A (.compStart (.ListComp elt [⟨t0, i0, f0, 0⟩, ⟨t1, i1, f1, 0⟩] scope pos) 1 it acc env) R s := by
 refine codeAny_of_tree ?_
 show wpAny _ _ ((compStart (.ListComp elt [⟨t0, i0, f0, 0⟩, ⟨t1, i1, f1, 0⟩] scope pos) 1 it acc env).onRaise (fun x => do noteFrame x env; standAt theWindowsPlace)) _ _ s
 refine wpAny_notedAt ?_
 unfold compStart
 show wpAny _ _ (ask >>= _) _ _ s
 refine wpAny_bind (wpAny_askSetting (wpAny_ite ?_))
 split
 ·first
   | exact wpAny_bind (wpAny_pure (wpAny_pure (And.intro rfl h0)))
   | exact wpAny_pure (And.intro rfl h0)
 ·first
   | exact wpAny_bind (wpAny_rule (wpAny_bind (wpAny_standAt (wpAny_bind (wpAny_mono h (fun it' s' h' => wpAny_pure (And.intro rfl h')) fun _ _ x => x)))))
   | (refine wpAny_bind (wpAny_rule ?_); show wpAny _ _ (standAt i1.pos >>= _) _ _ s; exact wpAny_bind (wpAny_standAt (wpAny_bind (wpAny_mono h (fun it' s' h' => wpAny_pure (And.intro rfl h')) fun _ _ x => x))))
theorem pb_gen {elt t0 i0 t1 i1 : Expr} {f0 f1 : List Expr} {scope : Scope} {pos : Pos} {D : Addr} {c : Code} {wi : TI} {g : TG} {tt : TT} {te : TE} (hxe : X.xe = fun _ _ => False) (hc : X.calm = true)
  (hi : PI X t1 i1 wi) (hg : PG X t1 g) (ht : PTs X f1 tt) (he : PE X elt te) (hs : ∀ x, foldedSetIterable i1 X.env x = pure x := by intro _; rfl) :
  PB X (eval i1 X.env >>= fun x => standAt i1.pos >>= fun _ => foldedSetIterable i1 X.env x >>= fun x => holding [x] (pyIter x) >>= fun it =>
   runOwn (.compStart (.ListComp elt [⟨t0, i0, f0, 0⟩, ⟨t1, i1, f1, 0⟩] scope pos) 1 it (.ref D) X.env) X.env >>= fun _ => again c) c (tGen wi g tt (tEmit te D)) := by
 intro pins s σ H N I h
 refine wpAny_bind (thn (hi pins s σ H _ I h) fun v s1 h1 => wpAny_bind (wpAny_standAt ?_))
 rw [hs]
 refine wpAny_bind (wpAny_pure (wpAny_bind (wpAny_holding (thn h1 fun itv s2 h2 => ?_))))
 obtain ⟨it, fp, tn, J, H2, e, I2, T, st2, f2, L⟩ := h2
 subst e
 have loop : ∀ (A : Around), A = X.A → codeAny (model X.prog X.w) A (.compLoop (.ListComp elt [⟨t0, i0, f0, 0⟩, ⟨t1, i1, f1, 0⟩] scope pos) 1 (.ref it) (.ref D) X.env)
   (fun r s' => match r with | .ok f => wpAny (model X.prog X.w) X.A (again c) (fun fin s' => fin = .again c ∧ ∃ σ' H', Inv X pins σ' H' s' ∧ N σ' H') X.xe s' | .error e => cameBackBy (model X.prog X.w) X.A X.env X.xe e s') s2 := by
  rintro A rfl
  exact comp_loop (tg := t1) (ifs := f1) (R := N) hxe rfl rfl rfl rfl T hc hg ht (pb_emit (c := .compLoop (.ListComp elt [⟨t0, i0, f0, 0⟩, ⟨t1, i1, f1, 0⟩] scope pos) 1 (.ref it) (.ref D) X.env) he) f2 I2 st2 L fun s' σ' H' I' q => wpAny_pure ⟨rfl, σ', H', I', q⟩
 refine wpAny_bind (wpAny_runOwn (h := none) ?_)
 exact compStart1 (loop _ rfl) (T.self _ _ _ _ _ st2 (loop _ rfl))
end
end L2
set_option maxHeartbeats 4000000
namespace L2
open PySem PySem.Spec PyProof.Rows
def tComp (ts : List Str) (fv : List (Str × Nat)) (wi : TI) (g : TG) (tt : TT) (tb : Addr → TB) : TE := fun σ H Q => wi σ H fun J H1 => ∀ D, H1 D = none →
 LoopR J g tt (tb D) (fun _ H' => Q (.ref D) H') (blkS ts fv σ) (upd H1 D (.lst []))
section
variable {X : Cx} {ts : List Str} {fv : List (Str × Nat)} {scope : Scope} {elt t0 i0 : Expr} {f0 : List Expr} {rest : List Comprehension} {pos : Pos} {wi : TI} {g : TG} {tt : TT} {tb : Addr → TB} {kont : Env → Addr → Addr → Sem Fin}
theorem comp_core (B : BlkOk X scope fv) (hc : X.calm = true) (hi : PI X t0 i0 wi)
  (hg : ∀ C s₀ H₀ ex, PG (blkCx X (blkN ts fv) scope C s₀ H₀ ex) t0 g) (ht : ∀ C s₀ H₀ ex, PTs (blkCx X (blkN ts fv) scope C s₀ H₀ ex) f0 tt)
  (heq : ∀ (env : Env) (it D : Addr), compTurn (.ListComp elt (⟨t0, i0, f0, 0⟩ :: rest) scope pos) 0 (.ref it) (.ref D) env = (standAt i0.pos >>= fun _ => pyNext (.ref it) >>= fun r => match r with
   | none => pure (.done .next)
   | some v => letOwnedTupleGo t0 (.ref it) v >>= fun _ => assign t0 env v >>= fun _ =>
    (forIn f0 true fun c r => if r = true then do let ok ← isTrue c env (eval c env); pure (ForInStep.yield ok) else pure (ForInStep.yield r)) >>= fun ok =>
     if ok = true then kont env it D else again (.compLoop (.ListComp elt (⟨t0, i0, f0, 0⟩ :: rest) scope pos) 0 (.ref it) (.ref D) env)))
  (hb : ∀ C s₀ H₀ ex it D, PB (blkCx X (blkN ts fv) scope C s₀ H₀ ex) (kont (blkCx X (blkN ts fv) scope C s₀ H₀ ex).env it D) (.compLoop (.ListComp elt (⟨t0, i0, f0, 0⟩ :: rest) scope pos) 0 (.ref it) (.ref D) (blkCx X (blkN ts fv) scope C s₀ H₀ ex).env) (tb D))
  {pins : List (Addr × Obj)} {s : Shared} {σ : St} {H : Hp} {Q : VK} {RR : Value → Addr → Result → Shared → Prop} (I : Inv X pins σ H s) (h : tComp ts fv wi g tt tb σ H Q)
  (hRR : ∀ D C s' H', Inv X pins σ H' s' → H' C = none → X.s₀.heap.objs.size ≤ C → C ≠ X.env.locals → (∀ x c, X.env.cells.lookup x = some c → c ≠ C) → (∀ p ∈ X.pn ++ pins, p.1 ≠ C) → (∃ m, s'.heap.Ns C m) → Q (.ref D) H' → RR (.ref D) C (.ok .next) s') :
  wpAny (model X.prog X.w) X.A (eval i0 X.env) (fun x s₁ => wpAny (model X.prog X.w) X.A (pyIter x) (fun it s₂ => wpAny (model X.prog X.w) X.A (newList []) (fun acc s₃ =>
   wpAny (model X.prog X.w) X.A (newFunctionEnv scope X.env.globals (cloList X.env scope.names []) [] X.env.qual none .none (some X.env)) (fun cenv s₄ =>
    codeAny (model X.prog X.w) X.A (.compStart (.ListComp elt (⟨t0, i0, f0, 0⟩ :: rest) scope pos) 0 it acc { cenv with scope := relabel scope X.env }) (RR acc cenv.locals) s₄) X.xe s₃) X.xe s₂) X.xe s₁) X.xe s := by
 refine thn (hi pins s σ H _ I h) fun v s1 h1 => thn h1 fun itv s2 h2 => ?_
 obtain ⟨it, fp, tn, J, H2, e, I2, T, st2, f2, L⟩ := h2
 subst e
 have L := L s2.heap.objs.size I2.fresh
 refine wpAny_newObj_type ?_
 have I3 : Inv X pins σ (upd H2 s2.heap.objs.size (.lst [])) { s2 with heap := s2.heap.push { cls := .type "list", data := .seq ([] : List Value).toArray }, toks := s2.toks } := I2.lnew (its := []) (t' := s2.toks) .nil (Nat.zero_le _)
 have ho2 : ∀ b ∈ fp, ∃ o, s2.heap.get? b = some o ∧ ∀ v, o.data ≠ .cell v := T.obj _ _ st2
 have f3 : ∀ b ∈ fp, FpOk X pins (upd H2 s2.heap.objs.size (.lst [])) b := fun b hb => by
  obtain ⟨o, ho, _⟩ := ho2 b hb
  refine ⟨?_, (f2 b hb).2⟩
  rw [upd_ne (Nat.ne_of_lt (Heap.lt_size ho))]
  exact (f2 b hb).1
 have st3 : tn 0 (s2.heap.push { cls := .type "list", data := .seq ([] : List Value).toArray }) := T.keep _ _ _ st2 fun b _ o e => Heap.get?_push_of_some _ e
 have ho3 : ∀ b ∈ fp, ∃ o, (s2.heap.push { cls := .type "list", data := .seq ([] : List Value).toArray }).get? b = some o := fun b hb => let ⟨o, e, _⟩ := ho2 b hb; ⟨o, Heap.get?_push_of_some _ e⟩
 generalize hs3 : ({ s2 with heap := s2.heap.push { cls := .type "list", data := .seq ([] : List Value).toArray }, toks := s2.toks } : Shared) = s3 at I3
 have eh : s2.heap.push { cls := .type "list", data := .seq ([] : List Value).toArray } = s3.heap := by rw [← hs3]
 rw [eh] at st3 ho3
 refine wpAny_newFunctionEnv B.nocell (by intro y hy; simp at hy) (fun h₁ hns hsb => ?_) B.kind
 have hk : ∀ b o, s3.heap.get? b = some o → h₁.get? b = some o := fun b o e => hsb.extBut b o (Nat.ne_of_lt (Heap.lt_size e)) (Heap.get?_push_of_some _ e)
 have I4 := blk_start (ts := ts) (tk := s3.toks + ([] : List (Str × Value)).length) B I3 f3 ho3 hns hk
 have f4 : ∀ b ∈ fp, FpOk (blkCx X (blkN ts fv) scope s3.heap.objs.size s3 (upd H2 s2.heap.objs.size (.lst [])) fp) [] (upd H2 s2.heap.objs.size (.lst [])) b := fun b hb => by
  obtain ⟨f0, f1, f2', f3', f4', f5'⟩ := f3 b hb
  obtain ⟨o, eo⟩ := ho3 b hb
  exact ⟨f0, Nat.ne_of_lt (Heap.lt_size eo), I4.ok.exfs b hb, .inl hb, (I4.ok.exf b hb).2, fun p hp => absurd (show p ∈ ([] : List (Addr × Obj)) from hp) (by simp)⟩
 have st4 : tn 0 h₁ := T.keep _ _ _ st3 fun b _ o e => hk b o e
 have loop : codeAny (model X.prog X.w) X.A (.compLoop (.ListComp elt (⟨t0, i0, f0, 0⟩ :: rest) scope pos) 0 (.ref it) (.ref s2.heap.objs.size) (blkCx X (blkN ts fv) scope s3.heap.objs.size s3 (upd H2 s2.heap.objs.size (.lst [])) fp).env)
   (RR (.ref s2.heap.objs.size) s3.heap.objs.size) { s3 with heap := h₁, toks := s3.toks + ([] : List (Str × Value)).length } := by
  refine comp_loop (X := blkCx X (blkN ts fv) scope s3.heap.objs.size s3 (upd H2 s2.heap.objs.size (.lst [])) fp) (tg := t0) (ifs := f0) (R := fun _ H' => Q (.ref s2.heap.objs.size) H') rfl rfl rfl rfl (heq _ it s2.heap.objs.size) T hc (hg _ _ _ _) (ht _ _ _ _) (hb _ _ _ _ it s2.heap.objs.size) f4 I4 st4 L fun s' σ' H' J' q => ?_
  obtain ⟨e1, e2, e3, e4, e5, e6⟩ := blk_end I3 f3 (Nat.le_refl _) J'
  obtain ⟨m, hm, _⟩ := J'.loc
  exact hRR _ _ s' H' e1 e2 e3 e4 e5 e6 ⟨m, hm⟩ q
 exact codeAny_compStart_list loop (T.self _ _ _ _ _ st4 loop)
theorem pe_compG (B : BlkOk X scope fv) (hc : X.calm = true) (hi : PI X t0 i0 wi)
  (hg : ∀ C s₀ H₀ ex, PG (blkCx X (blkN ts fv) scope C s₀ H₀ ex) t0 g) (ht : ∀ C s₀ H₀ ex, PTs (blkCx X (blkN ts fv) scope C s₀ H₀ ex) f0 tt)
  (heq : ∀ (env : Env) (it D : Addr), compTurn (.ListComp elt (⟨t0, i0, f0, 0⟩ :: rest) scope pos) 0 (.ref it) (.ref D) env = (standAt i0.pos >>= fun _ => pyNext (.ref it) >>= fun r => match r with
   | none => pure (.done .next)
   | some v => letOwnedTupleGo t0 (.ref it) v >>= fun _ => assign t0 env v >>= fun _ =>
    (forIn f0 true fun c r => if r = true then do let ok ← isTrue c env (eval c env); pure (ForInStep.yield ok) else pure (ForInStep.yield r)) >>= fun ok =>
     if ok = true then kont env it D else again (.compLoop (.ListComp elt (⟨t0, i0, f0, 0⟩ :: rest) scope pos) 0 (.ref it) (.ref D) env)))
  (hb : ∀ C s₀ H₀ ex it D, PB (blkCx X (blkN ts fv) scope C s₀ H₀ ex) (kont (blkCx X (blkN ts fv) scope C s₀ H₀ ex).env it D) (.compLoop (.ListComp elt (⟨t0, i0, f0, 0⟩ :: rest) scope pos) 0 (.ref it) (.ref D) (blkCx X (blkN ts fv) scope C s₀ H₀ ex).env) (tb D))
  (hs : ∀ x, foldedSetIterable i0 X.env x = pure x := by intro _; rfl) :
  PE X (.ListComp elt (⟨t0, i0, f0, 0⟩ :: rest) scope pos) (tComp ts fv wi g tt tb) := by
 intro pins s σ H Q I h
 rw [eval_ListComp]
 refine wpAny_comprehension_free (use := none) rfl hs (closure_run fun y hy e => I.ok.has y.1 (B.free y hy e)) B.kind B.names ?_
 refine comp_core (RR := fun acc C => compPost (model X.prog X.w) X.A X.xe none (EP X pins σ Q) acc C) B hc hi hg ht heq hb I h fun D C s' H' I' e2 e3 e4 e5 e6 hm q => ?_
 obtain ⟨m, hm⟩ := hm
 exact ⟨m, hm, fun h' hs' => ⟨.ref D, H', I'.apart hs' e2 e3 e4 e5 e6, rfl, q⟩⟩
theorem ps_setCompG {i : Nat} {y : Str} {py spos : Pos} (B : BlkOk X scope fv) (hc : X.calm = true) (hN : X.N.Nodup) (hiy : X.N[i]? = some y) (hyl : X.env.scope.names.lookup y = some .local)
  (hsw : swapsWith (.ListComp elt (⟨t0, i0, f0, 0⟩ :: rest) scope pos) (some (.Name y py)) spos.line X.env = pure true) (hi : PI X t0 i0 wi)
  (hg : ∀ C s₀ H₀ ex, PG (blkCx X (blkN ts fv) scope C s₀ H₀ ex) t0 g) (ht : ∀ C s₀ H₀ ex, PTs (blkCx X (blkN ts fv) scope C s₀ H₀ ex) f0 tt)
  (heq : ∀ (env : Env) (it D : Addr), compTurn (.ListComp elt (⟨t0, i0, f0, 0⟩ :: rest) scope pos) 0 (.ref it) (.ref D) env = (standAt i0.pos >>= fun _ => pyNext (.ref it) >>= fun r => match r with
   | none => pure (.done .next)
   | some v => letOwnedTupleGo t0 (.ref it) v >>= fun _ => assign t0 env v >>= fun _ =>
    (forIn f0 true fun c r => if r = true then do let ok ← isTrue c env (eval c env); pure (ForInStep.yield ok) else pure (ForInStep.yield r)) >>= fun ok =>
     if ok = true then kont env it D else again (.compLoop (.ListComp elt (⟨t0, i0, f0, 0⟩ :: rest) scope pos) 0 (.ref it) (.ref D) env)))
  (hb : ∀ C s₀ H₀ ex it D, PB (blkCx X (blkN ts fv) scope C s₀ H₀ ex) (kont (blkCx X (blkN ts fv) scope C s₀ H₀ ex).env it D) (.compLoop (.ListComp elt (⟨t0, i0, f0, 0⟩ :: rest) scope pos) 0 (.ref it) (.ref D) (blkCx X (blkN ts fv) scope C s₀ H₀ ex).env) (tb D))
  (hs : ∀ x, foldedSetIterable i0 X.env x = pure x := by intro _; rfl) :
  PS X (.Assign [.Name y py] (.ListComp elt (⟨t0, i0, f0, 0⟩ :: rest) scope pos) spos) (tAsg (tComp ts fv wi g tt tb) (gName i)) := by
 intro pins s σ H D0 I h
 rw [exec_Assign_Name_used _ _ _ _ hsw]
 refine wpAny_bind (wpAny_standAt (wpAny_bind ?_))
 show wpAny _ X.A (do let _ ← comprehension (.ListComp elt (⟨t0, i0, f0, 0⟩ :: rest) scope pos) scope X.env _ (newList []) false (eval i0 X.env) (some (assign (.Name y py) X.env))) _ _ s
 refine wpAny_bind (wpAny_mono (wpAny_comprehension_free (use := some (assign (.Name y py) X.env)) (Q := fun _ s' => SP X pins D0 .next s') rfl hs (closure_run fun y hy e => I.ok.has y.1 (B.free y hy e)) B.kind B.names ?_) (fun _ s' hq => wpAny_pure (wpAny_pure hq)) fun _ _ e => e)
 refine comp_core (Q := fun x H1 => gName i x σ H1 D0.nx) (RR := fun acc C => compPost (model X.prog X.w) X.A X.xe (some (assign (.Name y py) X.env)) (fun _ s' => SP X pins D0 .next s') acc C) B hc hi hg ht heq hb I h fun D C s' H' I' e2 e3 e4 e5 e6 hm q => ?_
 obtain ⟨m, hm⟩ := hm
 show wpAny _ X.A (assign (.Name y py) X.env (.ref D)) _ _ _
 refine wpAny_assign_Name (store_ok2 I' hN hiy (.inl hyl) (show RelV (.ref D) (.ref D) from rfl) (fun s'' I'' hch => ?_) (.inr hyl))
 obtain ⟨a, hsb, ha⟩ := hch
 have haC : C ≠ a := by
  rcases ha with e | e
  ·rw [e]; exact e4
  ·exact fun z => e5 y a e z.symm
 exact ⟨m, hm.sameBut hsb haC, fun h' hs' => ⟨_, H', I''.apart hs' e2 e3 e4 e5 e6, q⟩⟩
end
end L2
set_option maxHeartbeats 4000000
namespace L2
open PySem PySem.Spec PyProof.Rows
def FlyT (e T : Addr) (cls a0 : Value) (h : Heap) : Prop :=
 ∃ oe vs oT ts, h.get? e = some oe ∧ (oe.cls = cls ∧ vs[0]? = some a0) ∧ oe.data = .fields vs ∧ vs[1]? = some (.ref T) ∧ T ≠ e ∧ h.get? T = some oT ∧ oT.data = .fields ts ∧ ts[3]? = some .none
def CXr (P : Program) (w : World) : CXT := fun outer H s E ev s' =>
 ∃ (e T : Addr) (cls a0 : Value) (H' : Hp), ev = .ref e ∧ s'.os = s.os ∧ AllBare s'.gens ∧ Un (frs outer) [] H H' s.heap s'.heap ∧ HOk P w H' s'.heap ∧
  s.heap.get? e = none ∧ s.heap.get? T = none ∧ H' e = none ∧ H' T = none ∧ FlyT e T cls a0 s'.heap ∧ E cls none H'
theorem passR {X : Cx} : Passes (CXr X.prog X.w) X E0 := fun _ _ _ _ _ _ _ h => by
 obtain ⟨_, _, _, _, _, _, _, _, _, _, _, _, _, _, _, z⟩ := h
 exact z.elim
theorem cxr_top {P : Program} {w : World} {H : Hp} {s : Shared} {e : Value} {s' : Shared} (h : CXr P w [] H s (fun _ _ _ => False) e s') : False := by
 obtain ⟨_, _, _, _, _, _, _, _, _, _, _, _, _, _, _, z⟩ := h
 exact z
section
variable {P : Program} {w : World} {K : PySem.W.Frag} {mg : Str → Option Value} {base : Heap}
theorem Fun.okR {x qual : Str} {st : Stmt} {f : Addr} {fd : FuncData} {N ps : List Str} {k : Nat} {sp : Sp} (F : Fun K x qual st f fd) (S : FnScope N ps (defScope st)) (len : ∀ vs H Q E, sp vs H Q E → vs.length = ps.length)
  (hbody : ∀ (cdv : Value) (A : Around) (outer : List Env) (s : Shared) (H : Hp) (vs : List V) (Q : VK) (E : XK), Room k (A.deeper (envOfC qual (defScope st) s.heap.objs.size f cdv)) → sp vs H Q E →
   ∃ t, PSs (cxOf (CXr P w) P w K mg base N qual (defScope st) f cdv A outer s H E).nox (defBody st) t ∧ t { nx := fun _ H' => Q .non H', rt := Q } (start N vs) H) : FnOk P w K mg base (CXr P w) (k + 1) f fd ps sp := by
 obtain ⟨oc, od, kV, doc, pm, an, cdv, ct, osl, rfl, lk, hcd⟩ := F.ex
 refine fn_of lk hcd S len fun A outer s H vs Q E hr hsp => ?_
 obtain ⟨t, h, q⟩ := hbody cdv A outer s H vs Q E hr hsp
 exact ⟨t, h.nox, q⟩
end
section
variable {X : Cx}
theorem call_isinst : CallR X (.builtin "isinstance") (fun xs H Q => ∃ x T t b, xs = [x, .ty T] ∧ TyOf X.K H x t ∧ PySem.W.kitOne X.K t (.type T) = some b ∧ Q (.bl b) H) := by
 intro pins s σ H xs us Q I r h
 obtain ⟨x, T, t, b, rfl, hty, hk, q⟩ := h
 obtain ⟨u, v, rfl, ru, rv⟩ := r.two
 obtain rfl : v = Value.type T := rv
 exact isinst_ok I ru hty hk fun tk => ⟨.bl b, H, I.tok _, rfl, q⟩
theorem kit_same {K : PySem.W.Frag} {T : String} : PySem.W.kitOne K (.type T) (.type T) = some true := by
 unfold PySem.W.kitOne
 rw [if_pos (by simp)]
theorem blkFree {X : Cx} {scope : Scope} (h : scope.names.all (fun y => y.2 != .free || X.env.kindOf y.1 == some .cell || X.env.kindOf y.1 == some .free) = true) :
  ∀ y ∈ scope.names, y.2 = .free → X.env.kindOf y.1 = some .cell ∨ X.env.kindOf y.1 = some .free := fun y hy e => by
 have := List.all_eq_true.mp h y hy
 simp [e] at this
 exact this
end
theorem walk_r {l : PySem.W.OpenLaw} {k : Nat} {q : Program} {loose : List Str} {XP : (Str → Option Value) → Heap → Prop} {YP : World → Heap → Prop} {d : DefRec} {K : Params → PySem.W.Frag} {spl : PySem.W.Frag → Sp}
  (hn : l.most = some 63) (hdf : d.params.defaults = []) (hr : Room k callerA) (hY : ∀ (w : World) (h : Heap), YP w h → (K w.params).In h)
  (hsp : ∀ (K : PySem.W.Frag) (H : Hp) (a : Addr) (ns : List Int), ns.length ≤ 63 → SqL K H a (ns.map V.int) → spl K [.ref a] H (fun v _ => v = .bl true) fun _ _ _ => False)
  (F : ∀ (w : World) (mg : Str → Option Value) (fa : Addr) (h : Heap), (K w.params).In h → h.Ns mainGlobals mg → mg d.name = some (.ref fa) →
   ∃ fd : FuncData, (∀ (s : Shared) (u : Value), BindsTo s fd ⟨[u], []⟩ [("_law_script", u)]) ∧
    ∀ base : Heap, (K w.params).In base → base.Ns mainGlobals mg → FnOk l.prog w (K w.params) mg base (CXr l.prog w) k fa fd ["_law_script"] (spl (K w.params))) :
  PySem.W.WalkO q loose XP YP l.row.toRowW d [] (fun f vs => PySem.call f vs) :=
 walk_of (n := 63) (k := k) (x := "_law_script") (CX := fun w => CXr l.prog w) (sp := fun w => spl (K w.params)) hn (by decide) hdf hr hY F (fun w H a ns hl _ hS => hsp _ H a ns hl hS) (fun w H s e s' h => cxr_top h)
end L2
set_option maxHeartbeats 4000000
namespace L2
open PySem PySem.Spec PyProof.Rows
def ExT (e : Addr) (T : Option Addr) (cls a0 : Value) (h : Heap) : Prop := match T with
 | some T => FlyT e T cls a0 h
 | none => ∃ oe vs, h.get? e = some oe ∧ (oe.cls = cls ∧ vs[0]? = some a0) ∧ oe.data = .fields vs ∧ vs[1]? = some .none
structure FxOk (X : Cx) (pins : List (Addr × Obj)) (H : Hp) (b : Addr) : Prop where
 nt : H b = none
 nl : b ≠ X.env.locals
 nf : b ∉ X.fs
 n0 : X.s₀.heap.get? b = none
 nc : ∀ x c, X.env.cells.lookup x = some c → c ≠ b
 np : ∀ p ∈ X.pn ++ pins, p.1 ≠ b
def XS (fr : Bool) (X : Cx) (pins : List (Addr × Obj)) (R : Value → St → Hp → Prop) (ev : Value) (s' : Shared) : Prop :=
 ∃ (e : Addr) (T : Option Addr) (cls a0 : Value) (σ' : St) (H' : Hp), ev = .ref e ∧ Inv X pins σ' H' s' ∧ ExT e T cls a0 s'.heap ∧ FxOk X pins H' e ∧ (∀ t, T = some t → FxOk X pins H' t) ∧ (T = none → fr = true) ∧ R cls σ' H'
abbrev TSX := Ends → (Value → St → Hp → Prop) → St → Hp → Prop
abbrev TEX := St → Hp → VK → XK → Prop
def PSX (fr : Bool) (X : Cx) (st : Stmt) (t : TSX) : Prop :=
 ∀ (pins : List (Addr × Obj)) (s : Shared) (σ : St) (H : Hp) (D : Ends) (R : Value → St → Hp → Prop), Inv X pins σ H s → t D R σ H → wpAny (model X.prog X.w) X.A (exec st X.env) (SP X pins D) (XS fr X pins R) s
def PSsX (fr : Bool) (X : Cx) (st : List Stmt) (t : TSX) : Prop :=
 ∀ (pins : List (Addr × Obj)) (s : Shared) (σ : St) (H : Hp) (D : Ends) (R : Value → St → Hp → Prop), Inv X pins σ H s → t D R σ H → wpAny (model X.prog X.w) X.A (execs st X.env) (SP X pins D) (XS fr X pins R) s
def PEX (fr : Bool) (X : Cx) (e : Expr) (t : TEX) : Prop :=
 ∀ (pins : List (Addr × Obj)) (s : Shared) (σ : St) (H : Hp) (Q : VK) (E : XK), Inv X pins σ H s → t σ H Q E → wpAny (model X.prog X.w) X.A (eval e X.env) (EP X pins σ Q) (XS fr X pins fun cls σ' H' => σ' = σ ∧ E cls none H') s
section
variable {X : Cx} {fr : Bool}
theorem psx_of {st : Stmt} {t : TS} (h : PS X st t) (hx : X.xe = (fun _ _ => False) := by rfl) : PSX fr X st (fun D _ σ H => t D σ H) := fun pins s σ H D R I q => by
 have := h pins s σ H D I q
 rw [hx] at this
 exact wpAny_mono this (fun _ _ z => z) fun _ _ z => z.elim
def tSeqX (t u : TSX) : TSX := fun D R σ H => t { D with nx := u D R } R σ H
theorem pssx_cons {st : Stmt} {rest : List Stmt} {t u : TSX} (h1 : PSX fr X st t) (h2 : PSsX fr X rest u) : PSsX fr X (st :: rest) (tSeqX t u) := by
 intro pins s σ H D R I h
 refine wpAny_execs_cons (thn (h1 pins s σ H { D with nx := u D R } R I h) fun f s1 q => ?_)
 cases f with
 | next =>
  obtain ⟨σ', H', I', q⟩ := q
  exact h2 pins s1 σ' H' D R I' q
 | ret v => exact q
 | brk => exact q
 | cont => exact q
theorem pssx_one {st : Stmt} {t : TSX} (h1 : PSX fr X st t) : PSsX fr X [st] t := by
 intro pins s σ H D R I h
 refine wpAny_execs_cons (thn (h1 pins s σ H D R I h) fun f s1 q => ?_)
 cases f with
 | next => exact wpAny_execs_nil q
 | ret v => exact q
 | brk => exact q
 | cont => exact q
theorem pssx_nil : PSsX fr X [] (fun D _ σ H => D.nx σ H) := fun _ _ σ H _ _ I h => wpAny_execs_nil ⟨σ, H, I, h⟩
def tIfX (c : TT) (t u : TSX) : TSX := fun D R σ H => c σ H fun b H1 => if b = true then t D R σ H1 else u D R σ H1
theorem psx_if {c : Expr} {a b : List Stmt} {tc : TT} {t u : TSX} {pos : Pos} (hc : PT X c tc) (ha : PSsX fr X a t) (hb : PSsX fr X b u) (hx : X.xe = (fun _ _ => False) := by rfl) : PSX fr X (.If c a b pos) (tIfX tc t u) := by
 intro pins s σ H D R I h
 have h0 := hc pins s σ H _ I h
 rw [hx] at h0
 refine wpAny_If (wpAny_mono h0 (fun d s1 ⟨H1, I1, q1⟩ => ?_) fun _ _ z => z.elim)
 cases d with
 | true => exact ha pins s1 σ H1 D R I1 q1
 | false => exact hb pins s1 σ H1 D R I1 q1
def tDropX (te : TEX) : TSX := fun D R σ H => te σ H (fun _ H1 => D.nx σ H1) fun cls _ H1 => R cls σ H1
theorem psx_expr {e : Expr} {te : TEX} {pos : Pos} (he : PEX fr X e te) (hs : swapsWith e none pos.line X.env = pure false := by rfl) : PSX fr X (.Expr e pos) (tDropX te) := by
 intro pins s σ H D R I h
 refine wpAny_Expr_any (wpAny_mono (he pins s σ H _ _ I h) (fun v s1 ⟨x, H1, I1, r1, q1⟩ => ⟨σ, H1, I1, q1⟩) ?_) I.quiet hs
 rintro ev s1 ⟨e, T, cls, a0, σ', H', h1, h2, h3, h4, h5, h7, rfl, h6⟩
 exact ⟨e, T, cls, a0, σ', H', h1, h2, h3, h4, h5, h7, h6⟩
def tSetX (i : Nat) (te : TEX) : TSX := fun D R σ H => te σ H (fun x H1 => D.nx (σ.set i (some x)) H1) fun cls _ H1 => R cls σ H1
theorem psx_set {i : Nat} {x : Str} {e : Expr} {te : TEX} {pos pos' : Pos} (hN : X.N.Nodup) (hi : X.N[i]? = some x) (hx : Loc X.env.scope x) (he : PEX fr X e te) (hs : swapsWith e (some (.Name x pos')) pos.line X.env = pure false := by rfl)
  (hf : X.fn x = true ∨ X.env.scope.names.lookup x = some .local := by first | exact .inl rfl | exact .inr rfl | assumption) : PSX fr X (.Assign [.Name x pos'] e pos) (tSetX i te) := by
 intro pins s σ H D R I h
 refine wpAny_Assign_Name (wpAny_mono (he pins s σ H _ _ I h) (fun v s1 ⟨y, H1, I1, r1, q1⟩ => ?_) ?_) hs
 ·exact store_ok I1 hN hi hx r1 (fun s2 I2 => ⟨_, H1, I2, q1⟩) hf
 ·rintro ev s1 ⟨e, T, cls, a0, σ', H', h1, h2, h3, h4, h5, h7, rfl, h6⟩
  exact ⟨e, T, cls, a0, σ', H', h1, h2, h3, h4, h5, h7, h6⟩
theorem Inv.cxr {pins : List (Addr × Obj)} {σ : St} {H : Hp} {s s' : Shared} {E : XK} {ev : Value} (I : Inv X pins σ H s) (hex : X.ex = []) (h : CXr X.prog X.w X.stack H s E ev s') : XS fr X pins (fun cls σ' H' => σ' = σ ∧ E cls none H') ev s' := by
 obtain ⟨e, T, cls, a0, H', rfl, os, bare, un, hok, ne, nT, he, hT, fl, q⟩ := h
 have I' : Inv X pins σ H' s' := I.call' os un hok bare fun b hb => absurd hb (by simp)
 have fx : ∀ b, s.heap.get? b = none → H' b = none → FxOk X pins H' b := fun b hb hn => by
  refine ⟨hn, fun z => ?_, fun z => ?_, ?_, fun x c e z => ?_, fun p hp z => ?_⟩
  ·obtain ⟨m, ⟨o, _, _, ho, _⟩, _⟩ := I.loc
   rw [z, ho] at hb; cases hb
  ·obtain ⟨_, o, ho, _⟩ := I.funs.mem z
   rw [ho] at hb; cases hb
  ·cases q : X.s₀.heap.get? b with
   | none => rfl
   | some o =>
    obtain ⟨o', e'⟩ := I.base.there b o q (by rw [hex]; simp)
    rw [hb] at e'; cases e'
  ·obtain ⟨v, o, ho, _⟩ := I.cell x c e
   rw [z, hb] at ho; cases ho
  ·have := (I.pin p hp).1
   rw [z, hb] at this; cases this
 exact ⟨e, some T, cls, a0, σ, H', rfl, I', fl, fx e ne he, fun t ht => by cases ht; exact fx T nT hT, (fun z => nomatch z), rfl, q⟩
variable {k : Nat} {f C : Addr} {fd : FuncData} {ps : List Str} {sp : Sp} {dvs : List V} {ds : List Value} {x m : Str} {p pos apos : Pos} {e o : Expr} {es : List Expr} {ta : TE} {t : TA}
theorem run_fnX {pins : List (Addr × Obj)} {σ : St} {H : Hp} {s : Shared} {Q : VK} {E : XK} {us : List Value} {vs : List V} (F : FnOk X.prog X.w X.K X.mg X.base (CXr X.prog X.w) k f fd ps sp) (hr : Room k X.A) (hb : Binds X.K fd ps ds) (hd : Vals dvs ds) (hex : X.ex = [])
  (I : Inv X pins σ H s) (r : Vals vs us) (h : sp (vs ++ dvs) H Q E) : wpAny (model X.prog X.w) X.A (call (.ref f) us) (EP X pins σ Q) (XS fr X pins fun cls σ' H' => σ' = σ ∧ E cls none H') s := by
 have r2 : Vals (vs ++ dvs) (us ++ ds) := r.append hd
 have hl : (us ++ ds).length = ps.length := by rw [← r2.length]; exact F.len _ _ _ _ h
 refine wpAny_call (codeAny_mono (F.run X.A X.stack s H ⟨us, []⟩ (us ++ ds) (vs ++ dvs) Q E hr I.env0 (hb s us I.kIn hl) r2 h) fun r s' hq => ?_)
 cases r with
 | error e => exact I.cxr hex hq
 | ok fl =>
  cases fl with
  | ret u => exact I.after hq
  | next => exact False.elim hq
  | brk => exact False.elim hq
  | cont => exact False.elim hq
def tCallX (sp : Sp) (dvs : List V) (t : TA) : TEX := fun σ H Q E => t σ H fun vs H1 => sp (vs ++ dvs) H1 Q E
theorem pex_call (F : FnOk X.prog X.w X.K X.mg X.base (CXr X.prog X.w) k f fd ps sp) (hr : Room k X.A) (hg : Gl X x) (hm : X.mg x = some (.ref f)) (hk : PySem.W.keepIn X.K (.ref f) = true) (hb : Binds X.K fd ps ds) (hd : Vals dvs ds)
  (ha : PA X (e :: es) t) (hex : X.ex = [] := by rfl) (hx : X.xe = (fun _ _ => False) := by rfl) (hdb : (x == ("__debug__" : Str)) = false := by decide) (he : starEach (e :: es) X.env = (false, eval e X.env) :: starEach es X.env := by rfl) (hpl : (backTo pos (starEach es X.env)).any (·.1) = false := by rfl) :
  PEX fr X (.Call (.Name x p) (e :: es) [] pos) (tCallX sp dvs t) := by
 intro pins s σ H Q E I h
 have h0 := ha pos pins s σ H _ I h
 rw [hx] at h0
 refine wpAny_Call_Name_kw (ld_glob I hg hm ?_ hdb)
 refine PySem.W.callWith_K (h₀ := X.base) I.ok.mod.kin hk (wpAny_mono h0 (fun us s1 ⟨vs, H1, I1, r, q⟩ => ⟨I1.kIn, ?_⟩) fun _ _ z => z.elim) he hpl
 exact run_fnX F hr hb hd hex I1 r q
def tMethX (C : Addr) (m : Str) (sp : Sp) (dvs : List V) (ta : TE) (t : TA) : TEX := fun σ H Q E => ta σ H fun x H1 => ∃ a dx fs, x = .ref a ∧ H1 a = some (.ins C dx fs) ∧ fs.lookup m = none ∧
 t σ H1 fun vs H2 => sp (x :: (vs ++ dvs)) H2 Q E
theorem pex_meth {pl : Sem Bool} (he : PE X o ta) (c : Cls X.K C) (hm : Meth X.K C m f) (F : FnOk X.prog X.w X.K X.mg X.base (CXr X.prog X.w) k f fd ps sp) (hr : Room k X.A) (hb : Binds X.K fd ps ds) (hd : Vals dvs ds) (ha : PA X (e :: es) t)
  (hex : X.ex = [] := by rfl) (hx : X.xe = (fun _ _ => False) := by rfl) (hst : starEach (e :: es) X.env = (false, eval e X.env) :: starEach es X.env := by rfl) (hpl : (backTo pos (starEach es X.env)).any (·.1) = false := by rfl)
  (ht : eval (.Call (.Attribute o m apos) (e :: es) [] pos) X.env = (do
   let ov ← eval o X.env
   standAt apos.atName
   let (f, first) ← holding [ov] (getMethod ov m pl)
   callWith pos f first (backTo pos (starEach (e :: es) X.env)) (backToKw pos (keywordEach [] X.env))) := by rfl) :
  PEX fr X (.Call (.Attribute o m apos) (e :: es) [] pos) (tMethX C m sp dvs ta t) := by
 intro pins s σ H Q E I h
 have h0 := he pins s σ H _ I h
 rw [hx] at h0
 refine PySem.W.methodCall_KW (pl := pl) (wpAny_mono h0 (fun u s1 ⟨x, H1, I1, rx, a, dx, fs, ex, ea, l, q⟩ => ?_) fun _ _ z => z.elim) ht
 subst ex
 obtain rfl : u = Value.ref a := rx
 refine getmeth_ok I1 ea c hm l ?_
 have h1 := ha pos pins s1 σ H1 _ I1 q
 rw [hx] at h1
 refine PySem.W.callWith_K (first := [.ref a]) (h₀ := X.base) I.ok.mod.kin hm.kp (wpAny_mono h1 (fun us s2 ⟨vs, H2, I2, r, q2⟩ => ⟨I2.kIn, ?_⟩) fun _ _ z => z.elim) hst hpl
 exact run_fnX (us := .ref a :: us) (vs := .ref a :: vs) F hr hb hd hex I2 (.cons rfl r) q2
end
end L2
set_option maxHeartbeats 4000000
namespace L2
open PySem PySem.Spec PyProof.Rows
theorem ObjOk.there {P : Program} {w : World} {H : Hp} {h : Heap} {a : Addr} : ∀ {o : HO}, ObjOk P w H h a o → ∃ ob, h.get? a = some ob
 | .lst _, x => by obtain ⟨_, _, _, _, e⟩ := x; exact ⟨_, e⟩
 | .tup _, x => by obtain ⟨_, _, _, ob, e, _⟩ := x; exact ⟨_, e⟩
 | .dK _, x => by obtain ⟨_, _, _, _, o, _, _, e, _⟩ := x; exact ⟨_, e⟩
 | .dT _, x => by obtain ⟨_, _, _, _, o, _, _, e, _⟩ := x; exact ⟨_, e⟩
 | .set _ _, x => by obtain ⟨o, _, _, _, e, _⟩ := x; exact ⟨_, e⟩
 | .ins _ _ _, x => by obtain ⟨_, _, _, e, _⟩ := x; exact ⟨_, e⟩
 | .own _, x => by obtain ⟨_, e⟩ := x; exact ⟨_, e⟩
 | .xd _, x => by obtain ⟨_, ⟨_, _, _, e, _⟩, _⟩ := x; exact ⟨_, e⟩
 | .rng _ _, x => by obtain ⟨_, _, _, e⟩ := x; exact ⟨_, e⟩
 | .frz _ _, x => by obtain ⟨e, _⟩ := x; exact ⟨_, e⟩
 | .tbl _, x => ⟨_, (show h.get? a = some _ from x)⟩
 | .met _ _, x => ⟨_, (show h.get? a = some _ from x)⟩
 | .ext _, x => by obtain ⟨_, ⟨_, e⟩, _⟩ := x; exact ⟨_, e⟩
section
variable {X : Cx} {pins : List (Addr × Obj)} {σ : St} {H : Hp} {s : Shared}
theorem Inv.untr (I : Inv X pins σ H s) {b : Addr} (hb : s.heap.get? b = none) : H b = none := by
 cases q : H b with
 | none => rfl
 | some o =>
  obtain ⟨ob, e⟩ := (I.hok b o q).there
  rw [hb] at e; cases e
theorem Inv.fxOk (I : Inv X pins σ H s) (hex : X.ex = []) {b : Addr} (hb : s.heap.get? b = none) : FxOk X pins H b := by
 refine ⟨I.untr hb, fun z => ?_, fun z => ?_, ?_, fun x c e z => ?_, fun p hp z => ?_⟩
 ·obtain ⟨m, ⟨o, _, _, ho, _⟩, _⟩ := I.loc
  rw [z, ho] at hb; cases hb
 ·obtain ⟨_, o, ho, _⟩ := I.funs.mem z
  rw [ho] at hb; cases hb
 ·cases q : X.s₀.heap.get? b with
  | none => rfl
  | some o =>
   obtain ⟨o', e'⟩ := I.base.there b o q (by rw [hex]; simp)
   rw [hb] at e'; cases e'
 ·obtain ⟨v, o, ho, _⟩ := I.cell x c e
  rw [z, hb] at ho; cases ho
 ·have := (I.pin p hp).1
  rw [z, hb] at this; cases this
end
structure ExcK (K : PySem.W.Frag) (C : Addr) (bmB : List Value) (newId : String) : Prop where
 q : PySem.W.excIn K C bmB newId = true
theorem exc_obj {K : PySem.W.Frag} {h : Heap} {C : Addr} {bmB : List Value} {newId : String} (X : K.In h) (q : PySem.W.excIn K C bmB newId = true) :
  ∃ bm N nm q bs hdct sn sub ab col dd k0 k1 k2 k3 k5 mN, h.get? C = some (excClassObj nm q C N bs bm hdct sn sub ab col dd k0 k1 k2 k3 k5 newId) ∧ h.Ns N mN ∧ mN "__init__" = none ∧ OwnTail h bmB bm := by
 unfold PySem.W.excIn at q
 split at q
 ·rename_i dd cd sl ho
  split at q
  ·rename_i C' bm k0 k1 k2 k3 n k5 hm hs
   simp only [Bool.and_eq_true, beq_iff_eq, Bool.not_eq_true'] at q
   obtain ⟨⟨⟨⟨⟨rfl, rfl⟩, hdel⟩, ht⟩, hok⟩, hni⟩ := q
   obtain ⟨nm, bs, mro, ns, qn, hd, sn, sub, ab, col, del⟩ := cd
   dsimp only at hm hdel hok hni
   subst hm hdel
   have hsl : sl = #[k0, k1, k2, k3, some (.builtin n), k5] := by
    obtain ⟨l⟩ := sl
    simp only at hs
    rw [hs]
   subst hsl
   exact ⟨bm, ns, nm, qn, bs, hd, sn, sub, ab, col, dd, k0, k1, k2, k3, k5, _, X _ _ ho, .of_isNs (PySem.W.isNs_of_in X hok), PySem.W.nsMap_none_of_in X hok hni, PySem.W.tail_of_in X ht⟩
  ·cases q
 ·cases q
section
variable {X : Cx}
def tRaise (C : Addr) (t : TA) : TSX := fun _ R σ H => t σ H fun vs H1 => vs.length ≤ 1000 ∧ R (.ref C) σ H1
theorem psx_raise {C : Addr} {bmB : List Value} {B newId initId : String} {x : Str} {np cpos pos : Pos} {e : Expr} {es : List Expr} {t : TA} (K : ExcK X.K C bmB newId) (FB : ExcBaseFacts B newId initId bmB) (hg : Gl X x) (hm : X.mg x = some (.ref C)) (hc : X.calm = true) (ha : PA X (e :: es) t)
  (hex : X.ex = [] := by rfl) (hx : X.xe = (fun _ _ => False) := by rfl) (hdb : (x == ("__debug__" : Str)) = false := by decide) (he : starEach (e :: es) X.env = (false, eval e X.env) :: starEach es X.env := by rfl) (hpl : (backTo cpos (starEach es X.env)).any (·.1) = false := by rfl) :
  PSX true X (.Raise (some (.Call (.Name x np) (e :: es) [] cpos)) none pos) (tRaise C t) := by
 intro pins s σ H D R I h
 obtain ⟨tl, N, nm, q, bs, hdct, sn, sub, ab, col, dd, k0, k1, k2, k3, k5, mN, hC, hN, hni, T⟩ := exc_obj I.ok.mod.kin K.q
 refine wpAny_Raise_call_subT (C := C) (nm := nm) (q := q) (N := N) (bs := bs) (bm := tl) (hdct := hdct) (sn := sn) (sub := sub) (ab := ab) (col := col) (dd := dd) (k0 := k0) (k1 := k1) (k2 := k2) (k3 := k3) (k5 := k5)
  FB (mN := mN) (T.hasType FB.hasBase) (I.ok.hd hc) (by rw [he]; show (false || (backTo cpos (starEach es X.env)).any (·.1)) = false; rw [hpl]; rfl) hni (ld_glob I hg hm ⟨rfl, ?_⟩ hdb)
 have h0 := ha cpos pins s σ H _ I h
 rw [hx] at h0
 rw [he] at h0 ⊢
 refine Calls.evalArgs_plain (wpAny_mono h0 (fun us s₂ ⟨vs, H1, I1, r1, hl, q1⟩ => ?_) fun _ _ z => z.elim)
 have kb := I1.bk
 refine ⟨rfl, ?_, kb _ _ hC, hN.keeps kb, T.keeps kb, fun h' ea hm' => ?_⟩
 ·rw [← r1.length]
  exact Nat.le_of_lt (small1000 hl)
 obtain ⟨tt, h1, h2, h3⟩ := hm'.there
 have I2 : Inv X pins σ H1 { s₂ with heap := h' } := I1.kept (t' := s₂.toks) hm'.keeps
 have fx := I1.fxOk hex hm'.new
 exact ⟨ea, none, .ref C, .ref tt, σ, H1, rfl, I2, ⟨_, _, h1, ⟨rfl, rfl⟩, rfl, rfl⟩, ⟨fx.nt, fx.nl, fx.nf, fx.n0, fx.nc, fx.np⟩, (fun t z => nomatch z), (fun _ => rfl), q1⟩
theorem Un.leave {fs : List Addr} {H₀ H : Hp} {h₀ h h' : Heap} (u : Un fs [] H₀ H h₀ h) (hk : ∀ b o, h₀.get? b = some o → b ∉ fs → h.get? b = some o → h'.get? b = some o)
  (hs : ∀ b o, b ∈ fs → h.get? b = some o → ∃ sl, h'.get? b = some { o with slots := sl }) (ht : ∀ b o, h₀.get? b = some o → ∀ o', h.get? b = some o' → ∃ o'', h'.get? b = some o'') : Un fs [] H₀ H h₀ h' where
 keep := fun b o e n hb hx => hk b o e hb (u.keep b o e n hb hx)
 slot := fun b o e n hb hx => by
  obtain ⟨sl, e1⟩ := u.slot b o e n hb hx
  obtain ⟨sl', e2⟩ := hs b _ hb e1
  exact ⟨sl', e2⟩
 free := u.free
 there := fun b o e hx => by
  obtain ⟨o', e1⟩ := u.there b o e hx
  exact ht b o e o' e1
 tups := u.tups
 frzs := u.frzs
 tbls := u.tbls
theorem funFrames_hide {X : Cx} {pins : List (Addr × Obj)} {σ : St} {H : Hp} {s : Shared} (I : Inv X pins σ H s) (as : List Addr) (hs : ∀ b ∈ frs X.stack, b ∈ as) : s.heap.FunFrames (PySem.W.hideAll s.heap as) X.stack := by
 have all : ∀ (l : List Env), (∀ b ∈ frs l, b ∈ as) → s.heap.FunFrames X.base l → s.heap.FunFrames (PySem.W.hideAll s.heap as) l := by
  intro l
  induction l with
  | nil => intro _ _; trivial
  | cons env r ih =>
   intro hs hl
   obtain ⟨hk, ⟨L, o, hf, hn, ho, hd⟩, hr⟩ := hl
   have hL : L ∈ as := hs L (by unfold frs; rw [List.filterMap_cons, hf]; exact List.mem_cons_self)
   exact ⟨hk, ⟨L, o, hf, PySem.W.hideAll_none as hL, ho, hd⟩, ih (fun b hb => hs b (by unfold frs; rw [List.filterMap_cons, hf]; exact List.mem_cons_of_mem _ hb)) hr⟩
 exact all X.stack hs I.stack
theorem Inv.fnd {X : Cx} {pins : List (Addr × Obj)} {σ : St} {H : Hp} {s : Shared} (I : Inv X pins σ H s) {b : Addr} (hb : b ∈ frs X.stack) {o : Obj} (e : s.heap.get? b = some o) : ∀ vs, o.data ≠ .fields vs := by
 obtain ⟨_, o', e', d⟩ := I.stack.mem hb
 rw [e] at e'; cases e'
 exact d
end
end L2
set_option maxHeartbeats 4000000
namespace L2
open PySem PySem.Spec PyProof.Rows
theorem FxOk.none {X : Cx} {pins : List (Addr × Obj)} {H : Hp} {b : Addr} (h : FxOk X pins H b) : FxOk X [] H b := ⟨h.nt, h.nl, h.nf, h.n0, h.nc, fun p hp => h.np p (by rw [List.append_nil] at hp; exact List.mem_append_left _ hp)⟩
section
variable {P : Program} {w : World} {K : PySem.W.Frag} {mg : Str → Option Value} {base : Heap}
theorem leave_ok {N : List Str} {qual : Str} {scope : Scope} {f : Addr} {cd : Value} {A : Around} {outer : List Env} {s s' : Shared} {H : Hp} {E : XK} {ev : Value}
  {fr : Bool} (h : XS fr (cxOf (CXr P w) P w K mg base N qual scope f cd A outer s H E).nox [] (fun cls _ H' => E cls none H') ev s') : (cxOf (CXr P w) P w K mg base N qual scope f cd A outer s H E).xe ev s' := by
 obtain ⟨e, T, cls, a0, σ', H', rfl, I, hx, fe, fT, _, q⟩ := h
 show wpAny (model P w) (A.deeper (envOfC qual scope s.heap.objs.size f cd)) (leaving (envOfC qual scope s.heap.objs.size f cd) (.ref e)) (fun _ s'' => CXr P w outer H s E (.ref e) s'') (fun e' s'' => CXr P w outer H s E e' s'') s'
 have hst : (cxOf (CXr P w) P w K mg base N qual scope f cd A outer s H E).nox.stack = envOfC qual scope s.heap.objs.size f cd :: outer := rfl
 have hfr : (A.deeper (envOfC qual scope s.heap.objs.size f cd)).frames = some (envOfC qual scope s.heap.objs.size f cd :: outer) := I.ok.frames
 have n0 : ∀ b, b ∈ e :: T.toList → s.heap.get? b = none := fun b hb => by
  rcases List.mem_cons.mp hb with z | z
  ·rw [z]; exact fe.n0
  ·cases T with
   | none => simp at z
   | some t =>
    have : b = t := by simpa using z
    rw [this]; exact (fT t rfl).n0
 have nt : ∀ b, b ∈ e :: T.toList → H' b = none := fun b hb => by
  rcases List.mem_cons.mp hb with z | z
  ·rw [z]; exact fe.nt
  ·cases T with
   | none => simp at z
   | some t =>
    have : b = t := by simpa using z
    rw [this]; exact (fT t rfl).nt
 have hB : ∀ b o, b ∉ e :: T.toList → b ∉ frs (envOfC qual scope s.heap.objs.size f cd :: outer) → s'.heap.get? b = some o → (PySem.W.hideAll s'.heap ((e :: T.toList) ++ frs (envOfC qual scope s.heap.objs.size f cd :: outer))).get? b = some o := fun b o h1 h2 e1 =>
  PySem.W.hideAll_get _ e1 fun z => (List.mem_append.mp z).elim h1 h2
 have hl : s'.heap.FunFrames (PySem.W.hideAll s'.heap ((e :: T.toList) ++ frs (envOfC qual scope s.heap.objs.size f cd :: outer))) (envOfC qual scope s.heap.objs.size f cd :: outer) := funFrames_hide I _ fun b hb => List.mem_append_right _ hb
 have hkb : (PySem.W.hideAll s'.heap ((e :: T.toList) ++ frs (envOfC qual scope s.heap.objs.size f cd :: outer))).StaysIn s'.heap := fun b o e1 => PySem.W.of_hideAll _ e1
 have hen : (PySem.W.hideAll s'.heap ((e :: T.toList) ++ frs (envOfC qual scope s.heap.objs.size f cd :: outer))).get? e = none := PySem.W.hideAll_none _ (List.mem_append_left _ List.mem_cons_self)
 have fin : ∀ h', Heap.LeftW (PySem.W.hideAll s'.heap ((e :: T.toList) ++ frs (envOfC qual scope s.heap.objs.size f cd :: outer))) (envOfC qual scope s.heap.objs.size f cd :: outer) e cls a0 s'.heap h' → CXr P w outer H s E (.ref e) { s' with heap := h' } := fun h' ⟨k1, k2, k3, k4⟩ => by
  obtain ⟨oe, vs, T', oT, ts, x1, x2, x3, x4, x5, x6, x7, x8, x9⟩ := k3
  have notfr : ∀ b o, b ∈ frs (envOfC qual scope s.heap.objs.size f cd :: outer) → s'.heap.get? b = some o → ∃ sl, h'.get? b = some { o with slots := sl } := fun b o hb e1 => k4 b o e1 (I.fnd hb e1)
  have kept : ∀ b o, b ∉ e :: T.toList → b ∉ frs (envOfC qual scope s.heap.objs.size f cd :: outer) → s'.heap.get? b = some o → h'.get? b = some o := fun b o h1 h2 e1 => k1 b o (hB b o h1 h2 e1)
  have nL : ∀ b o, s.heap.get? b = some o → b ∉ frs outer → b ∉ frs (envOfC qual scope s.heap.objs.size f cd :: outer) := fun b o e1 h2 z => by
   have z' : b ∈ s.heap.objs.size :: frs outer := z
   rcases List.mem_cons.mp z' with z1 | z1
   ·rw [z1] at e1; exact absurd (Heap.lt_size e1) (Nat.lt_irrefl _)
   ·exact h2 z1
  have nE : ∀ b o, s.heap.get? b = some o → b ∉ e :: T.toList := fun b o e1 z => by rw [n0 b z] at e1; cases e1
  have trk : ∀ b u, H' b = some u → ∀ o, s'.heap.get? b = some o → h'.get? b = some o := fun b u hu o e1 => by
   refine kept b o (fun z => by rw [nt b z] at hu; cases hu) (fun z => ?_) e1
   rw [I.stkFree b z] at hu; cases hu
  have hT' : s.heap.get? T' = none ∧ H' T' = none := by
   by_cases hz : s'.heap.get? T' = none
   ·refine ⟨?_, I.untr hz⟩
    cases q' : s.heap.get? T' with
    | none => rfl
    | some o =>
     obtain ⟨o', e'⟩ := I.base.there T' o q' (by simp [cxOf])
     rw [hz] at e'; cases e'
   ·obtain ⟨o, ho⟩ := Option.ne_none_iff_exists'.mp hz
    by_cases h1 : T' ∈ e :: T.toList
    ·exact ⟨n0 T' h1, nt T' h1⟩
    ·by_cases h2 : T' ∈ frs (envOfC qual scope s.heap.objs.size f cd :: outer)
     ·exfalso
      obtain ⟨sl, e'⟩ := notfr T' o h2 ho
      rw [x7] at e'
      cases e'
      exact I.fnd h2 ho ts x8
     ·rw [hB T' o h1 h2 ho] at x5; cases x5
  refine ⟨e, T', cls, a0, H', rfl, I.os, I.bare, ?_, fun b u hu => ?_, fe.n0, hT'.1, fe.nt, hT'.2, ⟨oe, vs, oT, ts, x1, x2, x3, x4, x6, x7, x8, x9⟩, q⟩
  ·refine Un.leave I.base (fun b o e1 h1 e2 => kept b o (nE b o e1) (nL b o e1 h1) e2) (fun b o hb e1 => notfr b o (List.mem_cons_of_mem _ hb) e1) fun b o e1 o' e2 => ?_
   by_cases h2 : b ∈ frs outer
   ·obtain ⟨sl, e'⟩ := notfr b o' (List.mem_cons_of_mem _ h2) e2
    exact ⟨_, e'⟩
   ·exact ⟨o', kept b o' (nE b o e1) (nL b o e1 h2) e2⟩
  ·refine (I.hok b u hu).stay (fun c v hc e1 => ?_) (fun _ z => z) fun _ _ z => z
   rcases hc with z | z
   ·exact trk c u (by rw [z]; exact hu) v e1
   ·exact trk c _ z v e1
 cases T with
 | none =>
  obtain ⟨oe, vs, x1, x2, x3, x4⟩ := hx
  obtain ⟨x21, x22⟩ := x2
  subst x21
  exact wpAny_leaving_firstW hfr hl rfl x1 hkb hen x3 x4 x22 fin
 | some t =>
  obtain ⟨oe, vs, oT, ts, x1, x2, x3, x4, x5, x6, x7, x8⟩ := hx
  exact wpAny_leaving_nextW hfr hl rfl ⟨oe, vs, t, oT, ts, x1, x2, x3, x4, PySem.W.hideAll_none _ (List.mem_append_left _ (by simp)), x5, x6, x7, x8⟩ hkb hen fin
theorem Fun.okX {x qual : Str} {st : Stmt} {f : Addr} {fd : FuncData} {N ps : List Str} {k : Nat} {sp : Sp} (F : Fun K x qual st f fd) (S : FnScope N ps (defScope st)) (len : ∀ vs H Q E, sp vs H Q E → vs.length = ps.length)
  (hbody : ∀ (cdv : Value) (A : Around) (outer : List Env) (s : Shared) (H : Hp) (vs : List V) (Q : VK) (E : XK), Room k (A.deeper (envOfC qual (defScope st) s.heap.objs.size f cdv)) → sp vs H Q E →
   ∃ t, PSsX true (cxOf (CXr P w) P w K mg base N qual (defScope st) f cdv A outer s H E).nox (defBody st) t ∧ t { nx := fun _ H' => Q .non H', rt := Q } (fun cls _ H' => E cls none H') (start N vs) H) : FnOk P w K mg base (CXr P w) (k + 1) f fd ps sp := by
 obtain ⟨oc, od, kV, doc, pm, an, cdv, ct, osl, rfl, lk, hcd⟩ := F.ex
 refine fn_of lk hcd S len fun A outer s H vs Q E hr hsp => ?_
 obtain ⟨t, h, q⟩ := hbody cdv A outer s H vs Q E hr hsp
 refine ⟨fun D σ H' => t D (fun cls _ H'' => E cls none H'') σ H', fun pins s' σ' H' D I hD => ?_, q⟩
 refine wpAny_mono (h pins s' σ' H' D _ (I.wish _) hD) (fun _ _ z => z.unwish) fun ev s'' z => leave_ok (fr := true) ?_
 obtain ⟨e, T, cls, a0, σ2, H2, h1, h2, h3, h4, h5, h7, h6⟩ := z
 exact ⟨e, T, cls, a0, σ2, H2, h1, h2.pins_of (fun p hp => absurd hp (by simp)), h3, h4.none, fun t ht => (h5 t ht).none, h7, h6⟩
end
end L2
set_option maxHeartbeats 4000000
namespace L2
open PySem PySem.Spec PyProof.Rows
end L2
set_option maxHeartbeats 4000000
namespace L2
open PySem PySem.Spec PyProof.Rows
section
variable {X : Cx} {pins : List (Addr × Obj)} {σ : St} {H : Hp} {s : Shared} {A : Around} {E : Value → Shared → Prop} {a : Addr}
theorem d_setd {kvs : List (Key × V)} {k : Key} {d : V} {u r : Value} {Q : Value → Shared → Prop} (I : Inv X pins σ H s) (e : H a = some (.dK kvs)) (hl : kvs.length < sizeLine) (ry : RelV (kV k) u) (rd : RelV d r)
  (h1 : ∀ v w' s', valV kvs k = some v → Inv X pins σ H s' → RelV v w' → Q w' s') (h2 : valV kvs k = none → ∀ s', Inv X pins σ (upd H a (.dK (putK kvs k d))) s' → Q r s') :
  wpAny (model X.prog X.w) A (call (.builtin "dict.setdefault") [.ref a, u, r]) Q E s := by
 obtain ⟨z, hd, vs, rel, dd⟩ := dk_of I.hok e
 have hz : vs.length ≤ sizeLine := by rw [← rel.length]; exact z
 refine call_meetsIn PySem.F.slot_dict_setdefault dd.typeIs PySem.F.entry_dict_setdefault (PySem.F.args_dict_setdefault_3 _ _ _) (kt_meets_setdefault (mixKind X.prog X.w) a (kV_is ry) hd r) ⟨vs, dd, hz, fun v hv => ?_, fun hv h' dd' hs => ?_⟩
 ·have rel' := rel.val k
  rw [hv] at rel'
  cases q : valV kvs k with
  | none => rw [q] at rel'; exact rel'.elim
  | some y => rw [q] at rel'; exact h1 y v _ q (I.tok _) rel'
 ·have rel' := rel.val k
  rw [hv] at rel'
  cases q : valV kvs k with
  | some y => rw [q] at rel'; exact rel'.elim
  | none =>
   have he : ∃ q, h'.get? a = some q := let ⟨q, _, _, hq, _⟩ := dd'; ⟨q, hq⟩
   have hl2 : (putK kvs k d).length ≤ sizeLine := by have := length_putK kvs k d; omega
   exact h2 q _ (d_write I (by rw [e]; exact True.intro) hs he (dk_new hl2 hd (rel.put k rd) dd'))
end
def tDSetd (td ty tx : TE) : TE := fun σ H Q => td σ H fun x H1 => ∃ a, x = .ref a ∧ IsD H1 a ∧ ty σ H1 fun y H2 => tx σ H2 fun z H3 => ∃ kvs k, H3 a = some (.dK kvs) ∧ kvs.length < sizeLine ∧ y = kV k ∧
 (∀ v, valV kvs k = some v → Q v H3) ∧ (valV kvs k = none → Q z (upd H3 a (.dK (putK kvs k z))))
section
variable {X : Cx} {o e f : Expr} {apos cpos : Pos} {td ty tx : TE}
theorem pe_dsetd (ho : PE X o td) (he : PE X e ty) (hf : PE X f tx) (m : M2 X o "setdefault" apos e f cpos) : PE X (.Call (.Attribute o "setdefault" apos) [e, f] [] cpos) (tDSetd td ty tx) := by
 intro pins s σ H Q I h
 refine wpAny_Call_method m.base m.few m.line PySem.F.plainAttrs_dict PySem.F.slot_dict_setdefault PySem.F.type_dict_setdefault (thn (ho pins s σ H _ I h) fun u s1 ⟨x, H1, I1, rx, a, ex, d, q1⟩ => ?_)
 subst ex
 obtain rfl : u = Value.ref a := rx
 obtain ⟨t1, t2, _⟩ := isD_at I1 d
 refine ⟨t1, t2, ?_⟩
 rw [m.trees]
 refine Calls.callWith_builtin rfl (Calls.evalArgs_plain (Calls.spliced_cons (thn (he pins s1 σ H1 _ I1 q1) fun iv s2 ⟨y, H2, I2, ry, q2⟩ =>
  Calls.spliced_cons (thn (hf pins s2 σ H2 _ I2 q2) fun fv s3 ⟨z, H3, I3, rz, kvs, k, hk, hl, ey, q3, q4⟩ => Calls.spliced_nil ?_))))
 subst ey
 exact d_setd I3 hk hl ry rz (fun v w' s' hv I' rw' => ⟨v, H3, I', rw', q3 v hv⟩) fun hv s' I' => ⟨z, _, I', rz, q4 hv⟩
theorem ints_of_keys {P : Program} {w : World} {kvs : List (Key × V)} {vs : List (Key × Value)} {ks : List Int} (rel : KV kvs vs) (hk : kvs.map (·.1) = ks.map Sum.inl) {us : List Value} (hl : us.length = vs.length)
  (hu : ∀ (j : Nat) (v : Value), us[j]? = some v → ∃ k x, vs[j]? = some (k, x) ∧ (mixKind P w).is k v = true) : IntsAre us ks := by
 have hkl : kvs.length = ks.length := by have := congrArg List.length hk; simpa using this
 have hvl : kvs.length = vs.length := rel.length
 have key : ∀ (j : Nat) (v : Value), us[j]? = some v → ∃ i t, ks[j]? = some i ∧ v = Value.int i t := fun j v hv => by
  obtain ⟨k, x, hx, hi⟩ := hu j v hv
  have e1 : (vs.map (·.1))[j]? = some k := by rw [List.getElem?_map, hx]; rfl
  have e2 : vs.map (·.1) = kvs.map (·.1) := by
   clear hk hl hu hkl hvl hx hi e1
   induction rel with
   | nil => rfl
   | cons r t ih => rw [List.map_cons, List.map_cons, ih, r.1]
  rw [e2, hk, List.getElem?_map] at e1
  cases q : ks[j]? with
  | none => rw [q] at e1; cases e1
  | some i =>
   rw [q] at e1
   have e3 : Sum.inl i = k := Option.some.inj e1
   subst e3
   obtain ⟨t, ht⟩ := Value.isInt_shape (k := i) (v := v) hi
   exact ⟨i, t, rfl, ht⟩
 have gen : ∀ (us : List Value) (ks : List Int), us.length = ks.length → (∀ (j : Nat) (v : Value), us[j]? = some v → ∃ i t, ks[j]? = some i ∧ v = Value.int i t) → IntsAre us ks := by
  intro us
  induction us with
  | nil =>
   intro ks hl _
   cases ks with
   | nil => exact .nil
   | cons _ _ => simp at hl
  | cons u r ih =>
   intro ks hl h
   cases ks with
   | nil => simp at hl
   | cons i ks =>
    obtain ⟨i', t, e1, e2⟩ := h 0 u rfl
    have e1' : i = i' := by simpa using e1
    subst e1' e2
    exact .cons i t (ih ks (by simpa using hl) fun j v hv => h (j + 1) v (by simpa using hv))
 exact gen us ks (by omega) key
theorem call_sortedD (hc : X.calm = true) : CallR X (.builtin "sorted") (fun xs H Q => ∃ (d : Addr) (kvs : List (Key × V)) (ks : List Int), xs = [.ref d] ∧ Rd H d (.dK kvs) ∧ kvs.map (·.1) = ks.map Sum.inl ∧ ks.length < 64 ∧
  ∀ (p : Addr) (out : List Int), H p = none → out.Perm ks → out.Pairwise (· ≤ ·) → Q (.ref p) (upd H p (.lst (out.map V.int)))) := by
 intro pins s σ H xs us Q I r h
 obtain ⟨d, kvs, ks, rfl, hd, hk, h64, q⟩ := h
 obtain ⟨u, rfl, ru⟩ := vals1 r
 obtain rfl : u = Value.ref d := ru
 obtain ⟨z, hsys, vs, rel, dd⟩ := dk_rd I.hok hd
 obtain ⟨ep, hat⟩ := dd.dictAt
 have hlen : vs.length = ks.length := by have := congrArg List.length hk; rw [List.length_map, List.length_map] at this; have := rel.length; omega
 have hn : vs.length ≤ sizeLine := by rw [sizeLine_eq]; omega
 refine Calls.call_function_entry kind_sorted plain_sorted entry_sorted (args_sorted1 _) ?_
 unfold Builtin.«sorted»
 refine wpAny_bind (m := checkCount "sorted" 1 1 _) (wpAny_pure ?_)
 refine wpAny_bind (PySem.W.kdu_collect (A := X.A.in1) (PySem.W.kdl_dict (knd := mixKind X.prog X.w) (kvs := vs) (ep := ep) hsys) (I.ok.hd hc) hat hn fun h' tk acc hk' hacc => ?_)
 have hl : acc.toList.length = vs.length := by rw [Array.length_toList]; exact hacc.1
 have hI : IntsAre acc.toList ks := ints_of_keys (P := X.prog) (w := X.w) rel hk hl fun j v hv => hacc.2 j v (by rw [← Array.getElem?_toList]; exact hv)
 refine wpAny_bind (wpAny_newList ?_ (by rw [hl]; exact hn))
 have I1 : Inv X pins σ H { s with heap := h', toks := tk } := I.kept hk'
 have hoL : (h'.push { cls := .type "list", data := .seq acc.toList.toArray }).get? h'.objs.size = some (seqObj "list" acc.toList.toArray 0) := Heap.get?_push_size _ rfl
 refine wpAny_bind (wpAny_holding (wpAny_call_entry slot_list_sort ⟨_, hoL, rfl⟩ entry_list_sort (list_sort_tree hoL hI (by omega) fun out ns' a1 a2 a3 => ⟨_, rfl, ?_⟩) (args_list_sort _)))
 refine wpAny_pure ⟨_, rfl, ?_⟩
 obtain ⟨e, he⟩ := sortedHeap_at (out := out) hoL
 have kp : ∀ b u, h'.get? b = some u → (sortedHeap (h'.push { cls := .type "list", data := .seq acc.toList.toArray }) h'.objs.size acc.toList out).get? b = some u := fun b u hb => by
  have hlt : b < h'.objs.size := Heap.lt_size hb
  rw [sortedHeap_old (Nat.ne_of_lt hlt) (by rw [Heap.size_push]; exact Nat.lt_succ_of_lt hlt)]
  exact Heap.get?_push_of_some _ hb
 have hv : Vals (ns'.map V.int) out.toList := by
  clear he kp
  generalize out.toList = l at a1
  clear a2 a3
  induction a1 with
  | nil => exact .nil
  | cons i t _ ih => exact .cons ⟨_, rfl⟩ ih
 refine ⟨.ref h'.objs.size, upd H h'.objs.size (.lst (ns'.map V.int)), I1.laid kp (Nat.le_refl _) ?_, rfl, q _ ns' I1.fresh a2 a3⟩
 refine ⟨?_, out.toList, e, hv, ?_⟩
 ·rw [List.length_map, a2.length_eq, sizeLine_eq]; omega
 ·rw [he]
end
end L2
set_option maxHeartbeats 4000000
namespace L2
open PySem PySem.Spec PyProof.Rows
section
variable {X : Cx} {pins : List (Addr × Obj)} {σ : St} {H : Hp} {s : Shared} {a : Addr}
theorem Inv.freeze {u : HO} {ob : Obj} (I : Inv X pins σ H s) (e : H a = some u) (mu : Mut (some u)) (ho : s.heap.get? a = some ob) : Inv X pins σ (upd H a (.frz ob u)) s := by
 have nown : ∀ c y, H c = some (.own y) → c ≠ a := fun c y r z => by subst z; rw [r] at e; cases e; exact mu
 have ntup : ∀ c xs, H c = some (.tup xs) → c ≠ a := fun c xs r z => by subst z; rw [r] at e; cases e; exact mu
 have nfrz : ∀ c o xs, H c = some (.frz o xs) → c ≠ a := fun c o xs r z => by subst z; rw [r] at e; cases e; exact mu
 have ntbl : ∀ c ps, H c = some (.tbl ps) → c ≠ a := fun c ps r z => by subst z; rw [r] at e; cases e; exact mu
 have un : Un X.fs [] H (upd H a (.frz ob u)) s.heap s.heap := ⟨fun _ _ q _ _ _ => q, fun _ o q _ _ _ => ⟨o.slots, q⟩, fun b o q n _ => by rw [upd_ne (fun z => by rw [z, e] at n; cases n)]; exact n, fun b o q _ => ⟨o, q⟩,
  fun b xs q => by rw [upd_ne (ntup b xs q)]; exact q, fun b o xs q => by rw [upd_ne (nfrz b o xs q)]; exact q, fun b ps q => ⟨#[], by rw [upd_ne (ntbl b ps q), q]; simp⟩⟩
 have hok : HOk X.prog X.w (upd H a (.frz ob u)) s.heap := fun b v q => by
  have st : ∀ c w', ObjOk X.prog X.w H s.heap c w' → ObjOk X.prog X.w (upd H a (.frz ob u)) s.heap c w' := fun c w' x => x.stay (fun _ _ _ q => q) (fun d r => by rw [upd_ne (nown d c r)]; exact r) fun d xs r => by rw [upd_ne (ntup d xs r)]; exact r
  by_cases hb : b = a
  ·subst hb
   rw [upd_same] at q
   cases q
   exact ⟨ho, st _ _ (I.hok _ _ e)⟩
  ·rw [upd_ne hb] at q
   exact st _ _ (I.hok b v q)
 exact I.un (h' := s.heap) (t' := s.toks) un hok
end
section
theorem KV.at {kvs : List (Key × V)} {vs : List (Key × Value)} (r : KV kvs vs) : ∀ {i : Nat} {k : Key} {v : V}, kvs[i]? = some (k, v) → ∃ u, vs[i]? = some (k, u) ∧ RelV v u := by
 induction r with
 | nil => intro i k v h; simp at h
 | cons r t ih =>
  intro i k v h
  cases i with
  | zero =>
   simp at h
   subst h
   exact ⟨_, by rw [List.getElem?_cons_zero]; exact congrArg some (Prod.ext r.1.symm rfl), r.2⟩
  | succ i =>
   obtain ⟨u, h1, h2⟩ := ih (by simpa using h)
   exact ⟨u, by simpa using h1, h2⟩
theorem kV_of {P : Program} {w : World} {k : Key} {u : Value} (h : (mixKind P w).is k u = true) : RelV (kV k) u := by
 cases k with
 | inl i => obtain ⟨t, e⟩ := Value.isInt_shape (k := i) (v := u) h; exact ⟨t, e⟩
 | inr x => obtain ⟨t, e⟩ := Value.isStrOf_shape (x := x) (v := u) h; exact ⟨t, e⟩
theorem frz_dict {X : Cx} {pins : List (Addr × Obj)} {σ : St} {H : Hp} {s : Shared} {d : Addr} {o : Obj} {kvs : List (Key × V)} (I : Inv X pins σ H s) (e : H d = some (.frz o (.dK kvs))) :
  ∃ vs ep, KV kvs vs ∧ s.heap.DictAt (mixKind X.prog X.w) d vs ep ∧ s.heap.get? d = some o := by
 obtain ⟨ho, _, _, vs, rel, dd⟩ := I.hok d _ e
 obtain ⟨ep, da⟩ := dd.dictAt
 exact ⟨vs, ep, rel, da, ho⟩
def epOf (o : Obj) : Nat := match o.data with
 | .dict _ ep => ep
 | _ => 0
theorem ep_of {P : Program} {w : World} {h : Heap} {d : Addr} {o : Obj} {vs : List (Key × Value)} {ep : Nat} (da : h.DictAt (mixKind P w) d vs ep) (ho : h.get? d = some o) : ep = epOf o := by
 obtain ⟨o', es, h1, _, h2, _⟩ := da
 rw [ho] at h1
 cases h1
 unfold epOf
 rw [h2]
theorem turn_keys {P : Program} {w : World} {K : PySem.W.Frag} {tg : Expr} (d it : Addr) (kvs : List (Key × V)) (o : Obj) :
  Turn P w K tg ⟨fun i H => i < kvs.length ∧ H d = some (.frz o (.dK kvs)), fun i H x H' => H' = H ∧ ∃ k v, kvs[i]? = some (k, v) ∧ x = kV k, fun i H => kvs.length ≤ i ∧ H d = some (.frz o (.dK kvs))⟩ [it] it (fun i h => h.IsKeyIter it d i kvs.length (epOf o)) where
 mem := by simp
 obj := fun i h st b hb => by
  have e : b = it := by simpa using hb
  subst e
  obtain ⟨o, e, c, d⟩ := st
  exact ⟨o, e, fun v z => by rw [d] at z; cases z⟩
 keep := fun i h h' st k => st.at fun o e => k it (by simp) o e
 item := by
  intro X hP hw hK hc i pins s σ H E I hf st hg
  subst hP hw hK
  obtain ⟨hi, hq⟩ := hg
  obtain ⟨vs, ep, rel, da, ho⟩ := frz_dict I hq
  have hep := ep_of da ho
  subst hep
  obtain ⟨f0, f1, f2, f3, f4, f5⟩ := hf it (by simp)
  obtain ⟨⟨k, v⟩, hx⟩ : ∃ p, kvs[i]? = some p := ⟨_, List.getElem?_eq_getElem hi⟩
  obtain ⟨u, hu, ru⟩ := rel.at hx
  have hlen : vs.length = kvs.length := rel.length.symm
  rw [← hlen] at st
  refine wpAny_pyNext_dict_item st da hu fun key h' hk st' sb => ?_
  have I1 : Inv X pins σ H { s with heap := h' } := I.turned (t' := s.toks) (fun b o hb e => (sb.2 b hb).trans e) f0 f1 f3 f4 f5
  rw [hlen] at st'
  obtain ⟨oi, e, c, dd⟩ := id st'
  exact ⟨key, rfl, go_of (s := { s with heap := h' }) e c dd (by decide) ⟨kV k, H, I1, kV_of hk, ⟨rfl, k, v, hx, rfl⟩, st', fun b hb => (hf b hb).1⟩⟩
 done := by
  intro X hP hw hK hc i pins s σ H E I hf st hg
  subst hP hw hK
  obtain ⟨hi, hq⟩ := hg
  obtain ⟨vs, ep, rel, da, ho⟩ := frz_dict I hq
  have hep := ep_of da ho
  subst hep
  obtain ⟨f0, f1, f2, f3, f4, f5⟩ := hf it (by simp)
  have hlen : vs.length = kvs.length := rel.length.symm
  rw [← hlen] at st
  exact wpAny_pyNext_dict_end (I.ok.hd hc) st da (by rw [List.getElem?_eq_none]; omega) fun h' eb => ⟨rfl, I.turned (t' := s.toks) (fun b o hb e => eb b o hb e) f0 f1 f3 f4 f5⟩
 self := fun _ _ _ _ _ st h => wpAny_pyIter_keyiter st h
theorem turn_vals {P : Program} {w : World} {K : PySem.W.Frag} {tg : Expr} (d it : Addr) (kvs : List (Key × V)) (o : Obj) :
  Turn P w K tg ⟨fun i H => i < kvs.length ∧ H d = some (.frz o (.dK kvs)), fun i H x H' => H' = H ∧ ∃ k, kvs[i]? = some (k, x), fun i H => kvs.length ≤ i ∧ H d = some (.frz o (.dK kvs))⟩ [it] it (fun i h => h.IsValIter it d i kvs.length (epOf o)) where
 mem := by simp
 obj := fun i h st b hb => by
  have e : b = it := by simpa using hb
  subst e
  obtain ⟨o, e, c, d⟩ := st
  exact ⟨o, e, fun v z => by rw [d] at z; cases z⟩
 keep := fun i h h' st k => st.at fun o e => k it (by simp) o e
 item := by
  intro X hP hw hK hc i pins s σ H E I hf st hg
  subst hP hw hK
  obtain ⟨hi, hq⟩ := hg
  obtain ⟨vs, ep, rel, da, ho⟩ := frz_dict I hq
  have hep := ep_of da ho
  subst hep
  obtain ⟨f0, f1, f2, f3, f4, f5⟩ := hf it (by simp)
  obtain ⟨⟨k, v⟩, hx⟩ : ∃ p, kvs[i]? = some p := ⟨_, List.getElem?_eq_getElem hi⟩
  obtain ⟨u, hu, ru⟩ := rel.at hx
  have hlen : vs.length = kvs.length := rel.length.symm
  rw [← hlen] at st
  refine wpAny_pyNext_values_item st da hu fun h' st' sb => ?_
  have I1 : Inv X pins σ H { s with heap := h' } := I.turned (t' := s.toks) (fun b o hb e => (sb.2 b hb).trans e) f0 f1 f3 f4 f5
  rw [hlen] at st'
  obtain ⟨oi, e, c, dd⟩ := id st'
  exact ⟨u, rfl, go_of (s := { s with heap := h' }) e c dd (by decide) ⟨v, H, I1, ru, ⟨rfl, k, hx⟩, st', fun b hb => (hf b hb).1⟩⟩
 done := by
  intro X hP hw hK hc i pins s σ H E I hf st hg
  subst hP hw hK
  obtain ⟨hi, hq⟩ := hg
  obtain ⟨vs, ep, rel, da, ho⟩ := frz_dict I hq
  have hep := ep_of da ho
  subst hep
  obtain ⟨f0, f1, f2, f3, f4, f5⟩ := hf it (by simp)
  have hlen : vs.length = kvs.length := rel.length.symm
  rw [← hlen] at st
  exact wpAny_pyNext_values_end (I.ok.hd hc) st da (by rw [List.getElem?_eq_none]; omega) fun h' eb => ⟨rfl, I.turned (t' := s.toks) (fun b o hb e => eb b o hb e) f0 f1 f3 f4 f5⟩
 self := fun _ _ _ _ _ st h => wpAny_pyIter_valiter st h
end
end L2
set_option maxHeartbeats 4000000
namespace L2
open PySem PySem.Spec PyProof.Rows
section
variable {X : Cx} {tg : Expr} {l : Expr} {tl : TE}
def Itk2 (d : Addr) (kvs : List (Key × V)) (o : Obj) : It := ⟨fun i H => i < kvs.length ∧ H d = some (.frz o (.dK kvs)), fun i H x H' => H' = H ∧ ∃ k v, kvs[i]? = some (k, v) ∧ x = kV k, fun i H => kvs.length ≤ i ∧ H d = some (.frz o (.dK kvs))⟩
def Itv2 (d : Addr) (kvs : List (Key × V)) (o : Obj) : It := ⟨fun i H => i < kvs.length ∧ H d = some (.frz o (.dK kvs)), fun i H x H' => H' = H ∧ ∃ k, kvs[i]? = some (k, x), fun i H => kvs.length ≤ i ∧ H d = some (.frz o (.dK kvs))⟩
def iDict (J : Addr → List (Key × V) → Obj → It) (tl : TE) : TI := fun σ H R => tl σ H fun x H1 => ∃ a kvs, x = .ref a ∧ ((H1 a = some (.dK kvs) ∧ ∀ o, R (J a kvs o) (upd H1 a (.frz o (.dK kvs)))) ∨ ∃ o, H1 a = some (.frz o (.dK kvs)) ∧ R (J a kvs o) H1)
theorem dict_frz {pins : List (Addr × Obj)} {σ : St} {H : Hp} {s : Shared} {a : Addr} {kvs : List (Key × V)} {R : Obj → Hp → Prop} (I : Inv X pins σ H s)
  (h : (H a = some (.dK kvs) ∧ ∀ o, R o (upd H a (.frz o (.dK kvs)))) ∨ ∃ o, H a = some (.frz o (.dK kvs)) ∧ R o H) : ∃ o H', H' a = some (.frz o (.dK kvs)) ∧ Inv X pins σ H' s ∧ R o H' := by
 rcases h with ⟨e, r⟩ | ⟨o, e, r⟩
 ·obtain ⟨ob, ho⟩ := (I.hok a _ e).there
  exact ⟨ob, _, upd_same, I.freeze e True.intro ho, r ob⟩
 ·exact ⟨o, H, e, I, r⟩
theorem pi_dict (hl : PE X l tl) : PI X tg l (iDict Itk2 tl) := by
 intro pins s σ H R I h
 refine thn (hl pins s σ H _ I h) fun v s1 ⟨x, H1, I1, r1, q1⟩ => ?_
 obtain ⟨a, kvs, e, q⟩ := q1
 subst e
 cases r1
 obtain ⟨o, H2, e2, I2, q2⟩ := dict_frz (R := fun o H => R (Itk2 a kvs o) H) I1 q
 obtain ⟨vs, ep, rel, da, ho⟩ := frz_dict I2 e2
 have hep := ep_of da ho
 subst hep
 obtain ⟨_, _, hsys, _⟩ := I2.hok a _ e2
 refine wpAny_pyIter_dict hsys da ?_
 have hlen : vs.length = kvs.length := rel.length.symm
 rw [hlen]
 refine ⟨s1.heap.objs.size, [s1.heap.objs.size], _, _, H2, rfl, I2.kept (t' := s1.toks) fun b o e => Heap.get?_push_of_some _ e, turn_keys a _ kvs o, ⟨_, Heap.get?_push_size _ rfl, rfl, rfl⟩, fun b hb => ?_, q2⟩
 have e : b = s1.heap.objs.size := by simpa using hb
 subst e
 exact I2.fpOk (Nat.le_refl _) (I2.hok.fresh (Nat.le_refl _))
structure M0 (X : Cx) (o : Expr) (m : Str) (apos cpos : Pos) : Prop where
 base : attributeBase o m X.env (eval o X.env) = eval o X.env
 few : ((backTo cpos (starEach [] X.env)).all (fun x => !x.1) && (backToKw cpos (keywordEach [] X.env)).all (fun x => x.1.isSome)
  && decide (([] : List Expr).length + ([] : List Keyword).length + (if ([] : List Keyword).isEmpty then 0 else 1) < 30)) = true
 line : (apos.endLine == cpos.line) = true
theorem pi_vals {apos cpos : Pos} (hl : PE X l tl) (m : M0 X l "values" apos cpos) : PI X tg (.Call (.Attribute l "values" apos) [] [] cpos) (iDict Itv2 tl) := by
 intro pins s σ H R I h
 refine wpAny_Call_method m.base m.few m.line PySem.F.plainAttrs_dict PySem.F.slot_dict_values PySem.F.type_dict_values (thn (hl pins s σ H _ I h) fun v s1 ⟨x, H1, I1, r1, q1⟩ => ?_)
 obtain ⟨a, kvs, e, q⟩ := q1
 subst e
 cases r1
 obtain ⟨o, H2, e2, I2, q2⟩ := dict_frz (R := fun o H => R (Itv2 a kvs o) H) I1 q
 obtain ⟨vs, ep, rel, da, ho⟩ := frz_dict I2 e2
 have hep := ep_of da ho
 subst hep
 obtain ⟨_, _, hsys, _⟩ := I2.hok a _ e2
 have isd : IsD H2 a := .inl ⟨kvs, .inr ⟨o, e2⟩⟩
 obtain ⟨t1, t2, _⟩ := isD_at I2 isd
 refine ⟨t1, t2, ?_⟩
 refine Calls.callWith_builtin rfl (PyProof.Rows.evalArgs_empty ?_)
 refine call_meetsIn PySem.F.slot_dict_values da.dictOf.typeIs PySem.F.entry_dict_values (PySem.F.args_dict_values_1 _) (meets_dict_values (mixKind X.prog X.w) a hsys) ⟨⟨vs, da.dictOf⟩, ?_⟩
 have I3 : Inv X pins σ H2 { s1 with heap := s1.heap.push { cls := .type "dict_values", data := .fields #[.ref a] } } := I2.kept (t' := s1.toks) fun b o e => Heap.get?_push_of_some _ e
 refine wpAny_pyIter_values ⟨_, Heap.get?_push_size _ rfl, rfl, rfl⟩ (da.push _) ?_
 have hlen : vs.length = kvs.length := rel.length.symm
 rw [hlen]
 refine ⟨(s1.heap.push { cls := .type "dict_values", data := .fields #[.ref a] }).objs.size, [(s1.heap.push { cls := .type "dict_values", data := .fields #[.ref a] }).objs.size], _, _, H2, rfl, I3.kept (t' := s1.toks) fun b o e => Heap.get?_push_of_some _ e, turn_vals a _ kvs o, ⟨_, Heap.get?_push_size _ rfl, rfl, rfl⟩, fun b hb => ?_, q2⟩
 have e : b = (s1.heap.push { cls := .type "dict_values", data := .fields #[.ref a] }).objs.size := by simpa using hb
 subst e
 exact I3.fpOk (Nat.le_refl _) (I3.hok.fresh (Nat.le_refl _))
end
section
def Ite (K : PySem.W.Frag) (a : Addr) : It :=
 ⟨fun i H => ∃ xs x, SqL K H a xs ∧ xs[i]? = some x, fun i H x H' => ∃ q y, H q = none ∧ x = .ref q ∧ (∀ xs, SqL K H a xs → xs[i]? = some y) ∧ H' = upd H q (.tup [.int i, y]), fun i H => ∃ xs, SqL K H a xs ∧ xs.length ≤ i⟩
theorem turn_enum {P : Program} {w : World} {K : PySem.W.Frag} {elts : List Expr} {x1 : Nat} {pos : Pos} (a e it : Addr) (hne : e ≠ it) : Turn P w K (.Tuple elts x1 pos) (Ite K a) [e, it] e (fun i h => (∃ old, IsEnum h e it i old) ∧ h.IsListIter it a i) where
 mem := by simp
 obj := fun i h st b hb => by
  obtain ⟨⟨old, h1⟩, o, h2, c, d⟩ := st
  rcases List.mem_cons.mp hb with z | z
  ·subst z
   exact ⟨_, h1, fun v z => by
    have z' : Data.fields _ = Data.cell v := z
    cases z'⟩
  ·have z : b = it := by simpa using z
   subst z
   exact ⟨o, h2, fun v z => by rw [d] at z; cases z⟩
 keep := fun i h h' st k => ⟨let ⟨old, h1⟩ := st.1; ⟨old, k e (by simp) _ h1⟩, st.2.at fun o q => k it (by simp) o q⟩
 item := by
  intro X hP hw hK hc i pins s σ H E I hf st hg
  subst hP hw hK
  obtain ⟨xs, x, hq, hx⟩ := hg
  obtain ⟨its, rv, p, hz⟩ := I.list hq
  obtain ⟨u, hu, ru⟩ := rv.get hx
  obtain ⟨f0, f1, f2, f3, f4, f5⟩ := hf e (by simp)
  obtain ⟨g0, g1, g2, g3, g4, g5⟩ := hf it (by simp)
  obtain ⟨⟨old, he⟩, hit⟩ := st
  refine wpAny_pyNext_enum_item he hit p.isList (x := u) (by simpa using hu) hne fun h' ho' hit' ht' hsz' kk => ?_
  have eo := Heap.lt_size he
  have io : it < s.heap.objs.size := let ⟨o, q, _⟩ := hit; Heap.lt_size q
  refine ⟨.ref s.heap.objs.size, rfl, wpAny_letOwnedTupleGo_enum ho' fun h'' he'' sb => ?_⟩
  have keepb : ∀ b o, b ≠ e → b ≠ it → s.heap.get? b = some o → h''.get? b = some o := fun b o h1 h2 q => (sb.2 b h1).trans (kk b o h1 h2 q)
  have ht'' : h''.get? s.heap.objs.size = some { cls := .type "tuple", data := .seq #[.int i s.toks, u] } := (sb.2 _ (Nat.ne_of_gt eo)).trans ht'
  have hn : H s.heap.objs.size = none := I.hok.fresh (Nat.le_refl _)
  have I2 : Inv X pins σ (upd H s.heap.objs.size (.tup [.int i, x])) { s with heap := h'', toks := s.toks + 1 } := by
   refine I.step (g' := s.gens) (d' := s.drawn) (ch := [e, it]) (fun b hb => ?_) (fun b o _ _ hc q _ => keepb b o (fun z => hc (by simp [z])) (fun z => hc (by simp [z])) q) (fun b o _ _ hc q _ => ⟨o.slots, keepb b o (fun z => hc (by simp [z])) (fun z => hc (by simp [z])) q⟩) (fun b o _ q n => by rw [upd_ne (Nat.ne_of_lt (Heap.lt_size q))]; exact n)
    (fun b o hc q => ⟨o, keepb b o (fun z => hc (by simp [z])) (fun z => hc (by simp [z])) q⟩) (fun b ys q => by rw [upd_ne (ne_of_none q hn)]; exact q) (fun b o ys q => by rw [upd_ne (ne_of_none q hn)]; exact q) (fun b ps q => ⟨#[], by rw [upd_ne (ne_of_none q hn), q]; simp⟩) (fun m hm => ?_) (fun b v q => ?_) I.bare
   ·rcases List.mem_cons.mp hb with z | z
    ·subst z; exact ⟨f3, f1, f4, f5⟩
    ·have z : b = it := by simpa using z
     subst z; exact ⟨g3, g1, g4, g5⟩
   ·obtain ⟨o, es, ep, ho, r⟩ := hm
    exact ⟨o, es, ep, keepb _ o (Ne.symm f1) (Ne.symm g1) ho, r⟩
   ·by_cases hb : b = s.heap.objs.size
    ·subst hb
     rw [upd_same] at q
     cases q
     exact ⟨by show 2 ≤ sizeLine; decide, [.int i s.toks, u], .cons ⟨_, rfl⟩ (.cons ru .nil), ⟨_, ht'', rfl, _, rfl⟩⟩
    ·rw [upd_ne hb] at q
     refine (I.hok b v q).stay (fun c w' hc z => keepb c w' ?_ ?_ z) (fun d z => by rw [upd_ne (ne_of_none z hn)]; exact z) fun d ys z => by rw [upd_ne (ne_of_none z hn)]; exact z
     ·rintro rfl
      rcases hc with z | z
      ·rw [z, q] at f0; cases f0
      ·rw [f0] at z; cases z
     ·rintro rfl
      rcases hc with z | z
      ·rw [z, q] at g0; cases g0
      ·rw [g0] at z; cases z
  refine ⟨.ref s.heap.objs.size, _, I2, rfl, ⟨_, x, hn, rfl, fun ys hy => by rw [I.list_inj hy hq]; exact hx, rfl⟩, ⟨⟨u, he''⟩, hit'.at fun o q => (sb.2 it (Ne.symm hne)).trans q⟩, fun b hb => ?_⟩
  rcases List.mem_cons.mp hb with z | z
  ·subst z; rw [upd_ne (Nat.ne_of_lt eo)]; exact f0
  ·have z : b = it := by simpa using z
   subst z; rw [upd_ne (Nat.ne_of_lt io)]; exact g0
 done := by
  intro X hP hw hK hc i pins s σ H E I hf st hg
  subst hP hw hK
  obtain ⟨xs, hq, hx⟩ := hg
  obtain ⟨its, rv, p, hz⟩ := I.list hq
  obtain ⟨g0, g1, g2, g3, g4, g5⟩ := hf it (by simp)
  obtain ⟨⟨old, he⟩, hit⟩ := st
  have hl := rv.length
  exact wpAny_pyNext_enum_end (I.ok.hd hc) he hit p.isList (by simp; omega) fun h' eb => ⟨rfl, I.turned (t' := s.toks) (fun b o hb e => eb b o hb e) g0 g1 g3 g4 g5⟩
 self := fun _ _ _ _ _ st h => by
  obtain ⟨⟨old, he⟩, _⟩ := st
  exact wpAny_pyIter_enum he h
variable {X : Cx}
def iEnum (K : PySem.W.Frag) (ta : TA) : TI := fun σ H R => ta σ H fun vs H1 => ∃ a, vs = [.ref a] ∧ (∃ xs, SqL K H1 a xs) ∧ R (Ite K a) H1
theorem pi_enum {elts : List Expr} {x1 : Nat} {tpos p pos : Pos} {l : Expr} {ta : TA} (hg : Gl X "enumerate") (hm : X.mg "enumerate" = none) (ha : PA X [l] ta) (hs : starEach [l] X.env = [(false, eval l X.env)] := by rfl) : PI X (.Tuple elts x1 tpos) (.Call (.Name "enumerate" p) [l] [] pos) (iEnum X.K ta) := by
 intro pins s σ H R I h
 refine Call_ (ld_blt I hg hm boot_enumerate (PyProof.Rows.callWith_type1 (thn (ha pos pins s σ H _ I h) fun us s1 ⟨vs, H1, I1, r1, q1⟩ => ?_) hs rfl))
 obtain ⟨a, e, ⟨xs, hq⟩, q⟩ := q1
 subst e
 obtain ⟨u, rfl, ru⟩ := vals1 r1
 cases ru
 obtain ⟨its, rv, pl, hz⟩ := I1.list hq
 refine call_enumerate_list pl.isList fun h' he hit hsz hk => wpAny_pyIter_enum he ?_
 have I2 : Inv X pins σ H1 { s1 with heap := h' } := I1.kept (t' := s1.toks) hk
 refine ⟨s1.heap.objs.size + 1, [s1.heap.objs.size + 1, s1.heap.objs.size], _, _, H1, rfl, I2, turn_enum a _ _ (Nat.succ_ne_self _), ⟨⟨.none, he⟩, hit⟩, fun b hb => ?_, q⟩
 rcases List.mem_cons.mp hb with z | z
 ·subst z; exact I1.fpOk (Nat.le_succ _) (I1.hok.fresh (Nat.le_succ _))
 ·have z : b = s1.heap.objs.size := by simpa using z
  subst z; exact I1.fpOk (Nat.le_refl _) (I1.hok.fresh (Nat.le_refl _))
theorem for_enum {K : PySem.W.Frag} {a : Addr} {xs : List V} {g : TG} {tb : TS} {D : Ends} {σ : St} {H : Hp} (Pv : Nat → St → Hp → Prop) (h0 : Pv 0 σ H) (hl : ∀ i σ H, i ≤ xs.length → Pv i σ H → SqL K H a xs)
  (hs : ∀ i x σ H q, xs[i]? = some x → H q = none → Pv i σ H → g (.ref q) σ (upd H q (.tup [.int i, x])) fun σ2 H2 => tb { D with nx := Pv (i + 1), ct := Pv (i + 1), bk := D.nx } σ2 H2) (hd : ∀ σ H, Pv xs.length σ H → D.nx σ H) :
  ∃ W : Nat → Nat → St → Hp → Prop, (∃ m, W 0 m σ H) ∧ ∀ i m σ H, W i m σ H →
   ((Ite K a).stop i H ∧ D.nx σ H) ∨ ((Ite K a).go i H ∧ ∃ N : St → Hp → Prop, (∀ σ' H', N σ' H' → ∃ m', m' < m ∧ W (i + 1) m' σ' H') ∧ ∀ x H', (Ite K a).yld i H x H' → g x σ H' fun σ2 H2 => tb { D with nx := N, ct := N, bk := D.nx } σ2 H2) := by
 refine ⟨fun i m σ H => m = xs.length - i ∧ i ≤ xs.length ∧ Pv i σ H, ⟨xs.length, by simp, Nat.zero_le _, h0⟩, ?_⟩
 rintro i m σ H ⟨rfl, hi, p⟩
 have q := hl i σ H hi p
 by_cases hlt : i < xs.length
 ·refine .inr ⟨⟨xs, xs[i], q, by simp [hlt]⟩, Pv (i + 1), fun σ' H' p' => ⟨xs.length - (i + 1), by omega, rfl, hlt, p'⟩, fun x H' y => ?_⟩
  obtain ⟨c, z, hn, e1, e2, e3⟩ := y
  subst e1 e3
  exact hs i z σ H c (e2 xs q) hn p
 ·have e : i = xs.length := by omega
  subst e
  exact .inl ⟨⟨xs, q, Nat.le_refl _⟩, hd σ H p⟩
theorem for_vals {d : Addr} {kvs : List (Key × V)} {o : Obj} {g : TG} {tb : TS} {D : Ends} {σ : St} {H : Hp} (Pv : Nat → St → Hp → Prop) (h0 : Pv 0 σ H) (hl : ∀ i σ H, i ≤ kvs.length → Pv i σ H → H d = some (.frz o (.dK kvs)))
  (hs : ∀ i k x σ H, kvs[i]? = some (k, x) → Pv i σ H → g x σ H fun σ2 H2 => tb { D with nx := Pv (i + 1), ct := Pv (i + 1), bk := D.nx } σ2 H2) (hd : ∀ σ H, Pv kvs.length σ H → D.nx σ H) :
  ∃ W : Nat → Nat → St → Hp → Prop, (∃ m, W 0 m σ H) ∧ ∀ i m σ H, W i m σ H →
   ((Itv2 d kvs o).stop i H ∧ D.nx σ H) ∨ ((Itv2 d kvs o).go i H ∧ ∃ N : St → Hp → Prop, (∀ σ' H', N σ' H' → ∃ m', m' < m ∧ W (i + 1) m' σ' H') ∧ ∀ x H', (Itv2 d kvs o).yld i H x H' → g x σ H' fun σ2 H2 => tb { D with nx := N, ct := N, bk := D.nx } σ2 H2) := by
 refine ⟨fun i m σ H => m = kvs.length - i ∧ i ≤ kvs.length ∧ Pv i σ H, ⟨kvs.length, by simp, Nat.zero_le _, h0⟩, ?_⟩
 rintro i m σ H ⟨rfl, hi, p⟩
 have q := hl i σ H hi p
 by_cases hlt : i < kvs.length
 ·refine .inr ⟨⟨hlt, q⟩, Pv (i + 1), fun σ' H' p' => ⟨kvs.length - (i + 1), by omega, rfl, hlt, p'⟩, fun x H' y => ?_⟩
  obtain ⟨e, k, y⟩ := y
  subst e
  exact hs i k x σ _ y p
 ·have e : i = kvs.length := by omega
  subst e
  exact .inl ⟨⟨Nat.le_refl _, q⟩, hd σ H p⟩
theorem for_keys {d : Addr} {kvs : List (Key × V)} {o : Obj} {g : TG} {tb : TS} {D : Ends} {σ : St} {H : Hp} (Pv : Nat → St → Hp → Prop) (h0 : Pv 0 σ H) (hl : ∀ i σ H, i ≤ kvs.length → Pv i σ H → H d = some (.frz o (.dK kvs)))
  (hs : ∀ i k x σ H, kvs[i]? = some (k, x) → Pv i σ H → g (kV k) σ H fun σ2 H2 => tb { D with nx := Pv (i + 1), ct := Pv (i + 1), bk := D.nx } σ2 H2) (hd : ∀ σ H, Pv kvs.length σ H → D.nx σ H) :
  ∃ W : Nat → Nat → St → Hp → Prop, (∃ m, W 0 m σ H) ∧ ∀ i m σ H, W i m σ H →
   ((Itk2 d kvs o).stop i H ∧ D.nx σ H) ∨ ((Itk2 d kvs o).go i H ∧ ∃ N : St → Hp → Prop, (∀ σ' H', N σ' H' → ∃ m', m' < m ∧ W (i + 1) m' σ' H') ∧ ∀ x H', (Itk2 d kvs o).yld i H x H' → g x σ H' fun σ2 H2 => tb { D with nx := N, ct := N, bk := D.nx } σ2 H2) := by
 refine ⟨fun i m σ H => m = kvs.length - i ∧ i ≤ kvs.length ∧ Pv i σ H, ⟨kvs.length, by simp, Nat.zero_le _, h0⟩, ?_⟩
 rintro i m σ H ⟨rfl, hi, p⟩
 have q := hl i σ H hi p
 by_cases hlt : i < kvs.length
 ·refine .inr ⟨⟨hlt, q⟩, Pv (i + 1), fun σ' H' p' => ⟨kvs.length - (i + 1), by omega, rfl, hlt, p'⟩, fun x H' y => ?_⟩
  obtain ⟨e, k, v, y, ex⟩ := y
  subst e ex
  exact hs i k v σ _ y p
 ·have e : i = kvs.length := by omega
  subst e
  exact .inl ⟨⟨Nat.le_refl _, q⟩, hd σ H p⟩
def tLRange (ta : TA) : TE := fun σ H Q => ta σ H fun vs H1 => ∃ n : Nat, vs = [.int n] ∧ n ≤ 1000 ∧ ∀ p, H1 p = none → Q (.ref p) (upd H1 p (.lst ((List.range n).map fun (i : Nat) => V.int i)))
theorem pe_listRange {a : Expr} {ta : TA} {p1 p2 pos pos2 : Pos} (hgl : Gl X "list") (hml : X.mg "list" = none) (hg : Gl X "range") (hm : X.mg "range" = none) (hc : X.calm = true) (ha : PA X [a] ta) (hs : starEach [a] X.env = [(false, eval a X.env)] := by rfl)
  (hs2 : starEach [.Call (.Name "range" p2) [a] [] pos2] X.env = [(false, eval (.Call (.Name "range" p2) [a] [] pos2) X.env)] := by rfl) : PE X (.Call (.Name "list" p1) [.Call (.Name "range" p2) [a] [] pos2] [] pos) (tLRange ta) := by
 intro pins s σ H Q I h
 refine Call_ (ld_blt I hgl hml PySem.Pv.boot_list (PyProof.Rows.callWith_type1 ?_ hs2 rfl))
 rw [hs2]
 refine Calls.spliced_cons ?_
 refine Call_ (ld_blt I hg hm boot_range (PyProof.Rows.callWith_type1 (thn (ha pos2 pins s σ H _ I h) fun us s1 ⟨vs, H1, I1, r1, q1⟩ => ?_) hs rfl))
 obtain ⟨n, e, hn, q⟩ := q1
 subst e
 obtain ⟨u, rfl, ru⟩ := vals1 r1
 obtain ⟨t, rfl⟩ := ru
 refine call_range_1 (Calls.spliced_nil ?_)
 have hr : Builtin.Range.rangeSize 0 (n : Int) 1 = n := by rw [rangeSize_one]; split <;> omega
 refine call_list_range (I.ok.hd hc) (IsRange.new ..) (small_one (by omega) (by omega) (by omega) (by omega)) hr (by omega) fun h' tk acc c' hk hS hacc => ?_
 have hk1 : ∀ b o, s1.heap.get? b = some o → h'.get? b = some o := fun b o e => hk b o (Heap.get?_push_of_some _ e)
 have hv : Vals ((List.range n).map fun (i : Nat) => V.int i) acc.toList := by
  have gen : ∀ (l : List Value) (k : Nat), (∀ (j : Nat) (v : Value), l[j]? = some v → ∃ t, v = .int ((k + j : Nat) : Int) t) → Vals ((List.range' k l.length).map fun (i : Nat) => V.int i) l := by
   intro l
   induction l with
   | nil => intro k _; exact .nil
   | cons v r ih =>
    intro k h
    obtain ⟨t, e⟩ := h 0 v rfl
    rw [List.length_cons, List.range'_succ, List.map_cons]
    refine .cons ⟨t, by rw [e]; rfl⟩ (ih (k + 1) fun j w hw => ?_)
    obtain ⟨t', e'⟩ := h (j + 1) w (by simpa using hw)
    exact ⟨t', by rw [e']; congr 1; omega⟩
  have hl : acc.toList.length = n := by rw [Array.length_toList]; exact hacc.1
  have := gen acc.toList 0 fun j v hj => by
   obtain ⟨t, e⟩ := hacc.2 j v (by rw [← Array.getElem?_toList]; exact hj)
   exact ⟨t, by rw [e]; congr 1; omega⟩
  rw [hl, ← List.range_eq_range'] at this
  exact this
 have hle : s1.heap.objs.size ≤ (s1.heap.push { cls := .type "range", data := .fields #[.int 0 s1.toks, .int (n : Int) t, .int 1 (s1.toks + 1)] }).objs.size := by rw [Heap.size_push]; exact Nat.le_succ _
 refine ⟨.ref _, upd H1 _ (.lst ((List.range n).map fun (i : Nat) => V.int i)), I1.laid hk1 (Nat.le_of_lt (by first | exact Nat.lt_of_le_of_lt hle (Heap.lt_size hS) | (rw [Heap.size_push]; exact Nat.lt_succ_self _))) ⟨?_, acc.toList, c', hv, ?_⟩, rfl, q _ (I1.hok.fresh ?_)⟩
 ·rw [List.length_map, List.length_range, sizeLine_eq]; omega
 ·simpa using hS
 ·rw [Heap.size_push]; exact Nat.le_succ _
end
end L2
set_option maxHeartbeats 4000000
namespace L2
open PySem PySem.Spec PyProof.Rows
abbrev TJ := Str → TE
end L2
set_option maxHeartbeats 4000000
namespace L2
open PySem PySem.Spec PyProof.Rows
section
variable {X : Cx}
theorem ix_listK (K : PySem.W.Frag) (h : X.K = K := by rfl) : IxR X (rIxL K) := h ▸ ix_list
theorem call_tuple_ofK (K : PySem.W.Frag) (h : X.K = K := by rfl) : CallR X (.type "tuple") (fun xs H Q => ∃ p ys, xs = [.ref p] ∧ ((SqL K H p ys ∧ ∀ l, H l = none → Q (.ref l) (upd H l (.tup ys))) ∨ (SqT K H p ys ∧ Q (.ref p) H))) := h ▸ call_tuple_of
variable {tg l e : Expr} {tl ta : TE} {f : Str} {pos : Pos}
theorem pi_tupK (K : PySem.W.Frag) (hl : PE X l tl) (h : X.K = K := by rfl) : PI X tg l (iTup K tl) := h ▸ pi_tup hl
end
end L2
set_option maxHeartbeats 4000000
namespace L2
open PySem PySem.Spec PyProof.Rows
section
variable {prog : Program} {w : World} {A : Around} {E : Value → Shared → Prop}
theorem drawL {it l : Addr} {xs : Array Value} (ne : l ≠ it) (k : Nat) : ∀ (i : Nat) (s : Shared) (Q : List Value → Shared → Prop), s.heap.IsListIter it l i → s.heap.IsList l xs → i + k ≤ xs.size →
  (∀ h', h'.IsListIter it l (i + k) → Heap.SameBut it s.heap h' → Q ((xs.toList.drop i).take k) { s with heap := h' }) → wpAny (model prog w) A (draw (.ref it) k) Q E s := by
 induction k with
 | zero =>
  intro i s Q a b c q
  have z := q s.heap a (Heap.SameBut.refl ..)
  rw [List.take_zero] at z
  exact wpAny_pure z
 | succ k ih =>
  intro i s Q a b c q
  have lt : i < xs.size := by omega
  refine wpAny_bind (m := pyNext (.ref it)) (wpAny_pyNext_list_item a b (x := xs[i]) (by simp [lt]) fun g st sb => ?_)
  refine wpAny_bind (wpAny_holding (ih (i + 1) _ _ st (b.extBut sb.extBut ne) (by omega) fun g2 st2 sb2 => wpAny_pure ?_))
  have z := q g2 (by rw [Nat.add_right_comm] at st2; exact st2) (sb.trans sb2)
  rwa [List.drop_eq_getElem_cons (by simpa using lt), List.take_succ_cons, Array.getElem_toList] at z
theorem unpackL {l : Addr} {xs : Array Value} {s : Shared} {Q : List Value → Shared → Prop} (hc : A.handled = none) (b : s.heap.IsList l xs)
  (q : ∀ h', Heap.ExtBut s.heap.objs.size s.heap h' → Q xs.toList { s with heap := h' }) : wpAny (model prog w) A (unpackItems (.ref l) xs.size none) Q E s := by
 have ne : l ≠ s.heap.objs.size := by obtain ⟨o, ho, _⟩ := b; exact Nat.ne_of_lt (Heap.lt_size ho)
 unfold unpackItems notIterableAtAll
 refine wpAny_bind (wpAny_bind (wpAny_specialOf b.typeIs PySem.F.slot_list_iter.lookup (wpAny_pure ?_)))
 rw [if_neg (by decide)]
 refine wpAny_bind (wpAny_holding (wpAny_pyIter_list b ?_))
 refine wpAny_bind (wpAny_holding (drawL ne xs.size 0 _ _ ⟨_, Heap.get?_push_size _ rfl, rfl, rfl⟩ (b.push _) (by omega) fun g st sb => ?_))
 have e : (xs.toList.drop 0).take xs.size = xs.toList := by rw [List.drop_zero, List.take_of_length_le]; simp
 rw [e, if_neg (by simp)]
 refine wpAny_bind (wpAny_holding (wpAny_pyNext_list_end hc st ((b.push _).extBut sb.extBut ne) (by simp) fun g2 eb => ?_))
 rw [if_neg (by decide)]
 exact wpAny_pure (q g2 fun c o hb z => eb c o hb (sb.extBut c o hb (Heap.get?_push_of_some _ z)))
end
section
variable {X : Cx} {pos : Pos}
def gLst (K : PySem.W.Frag) (n : Nat) (t : TGs) : TG := fun v σ H Q => ∃ a xs, v = .ref a ∧ SqL K H a xs ∧ xs.length = n ∧ t xs σ H Q
theorem pg_lst {es : List Expr} {k : Nat} {t : TGs} {n : Nat} (hc : X.calm = true) (h : PGs X es t)
  (hn : (assignEach es X.env).length = n := by rfl) (hst : (assignEach es X.env).findIdx? (·.1) = none := by rfl) : PG X (.Tuple es k pos) (gLst X.K n t) := by
 intro pins s σ H v u Q I r hw
 obtain ⟨a, xs, e1, hq, hl, hw⟩ := hw
 subst e1
 cases r
 obtain ⟨its, rv, p, hz⟩ := I.list hq
 rw [assign_Tuple]
 refine wpAny_bind (wpAny_standAt ?_)
 unfold unpack
 have hn2 : (assignEach es X.env).length = its.toArray.size := by rw [hn, ← hl, rv.length]; simp
 rw [hn2, hst]
 refine wpAny_bind (wpAny_holding (unpackL (I.ok.hd hc) p.isList fun h' hx => ?_))
 have I1 : Inv X pins σ H { s with heap := h' } := I.kept (t' := s.toks) fun b o e => hx b o (Nat.ne_of_lt (Heap.lt_size e)) e
 exact h pins _ σ H xs _ Q I1 (by simpa using rv) hw
end
end L2
set_option maxHeartbeats 4000000
namespace L2
open PySem PySem.Spec PyProof.Rows
def KDict (w : World) (K : PySem.W.Frag) (a : Addr) (kvs : List (Key × V)) : Prop :=
 ∃ o es ep vs, K.lookup a = some o ∧ o.ExactDict ∧ o.data = .dict es ep ∧ (∀ e ∈ es, ∃ k, keyIs k e.key = true ∧ e.hash = keyH w k) ∧ (∀ P : Program, Pairs (mixKind P w) es.toList vs) ∧ (vs.map (·.1)).Nodup ∧ KV kvs vs ∧ (a == sysModules) = false
section
variable {X : Cx} {i o : Expr} {ty td : TE} {pos : Pos}
theorem KDict.here {pins : List (Addr × Obj)} {σ : St} {H : Hp} {s : Shared} {a : Addr} {kvs : List (Key × V)} (h : KDict X.w X.K a kvs) (I : Inv X pins σ H s) : (a == sysModules) = false ∧ ∃ vs, KV kvs vs ∧ s.heap.DictOf (mixKind X.prog X.w) a vs := by
 obtain ⟨o, es, ep, vs, h1, h2, h3, h4, h5, h6, h7, h8⟩ := h
 exact ⟨h8, vs, h7, o, es, ep, I.kIn a o h1, h2, h3, h4, h5 X.prog, h6⟩
def tKNotIn (w : World) (K : PySem.W.Frag) (ty td : TE) : TE := fun σ H Q => ty σ H fun y H1 => td σ H1 fun x H2 => ∃ a kvs k, x = .ref a ∧ KDict w K a kvs ∧ y = kV k ∧ Q (.bl (!(valV kvs k).isSome)) H2
theorem pc_knotin (hi : PE X i ty) (ho : PE X o td) : PC X .NotIn i o (tKNotIn X.w X.K ty td) := by
 intro pins s σ H Q I h
 refine thn (hi pins s σ H _ I h) fun iv s1 ⟨y, H1, I1, ry, q1⟩ => thn (ho pins s1 σ H1 _ I1 q1) fun u s2 ⟨x, H2, I2, rx, a, kvs, k, ex, g, ey, q2⟩ => ?_
 subst ex ey
 obtain rfl : u = Value.ref a := rx
 obtain ⟨hd, vs, rel, dd⟩ := g.here I2
 refine wpAny_notIn_of (kV_is ry) hd dd.mapOf ?_
 rw [← (rel.val k).isSome_eq]
 exact ⟨.bl _, H2, I2.tok _, rfl, q2⟩
end
section
def Itr3 (lo st : Int) (n : Nat) : It := ⟨fun i _ => i < n, fun i H x H' => H' = H ∧ x = .int (lo + i * st), fun i _ => n ≤ i⟩
theorem turn_range3 {P : Program} {w : World} {K : PySem.W.Frag} {tg : Expr} (it : Addr) (lo st : Int) (n : Nat) : Turn P w K tg (Itr3 lo st n) [it] it (fun i h => IsRangeIter h it (lo + (i : Nat) * st) ((n : Int) - (i : Nat)) st) where
 mem := by simp
 obj := fun i h st b hb => by
  have e : b = it := by simpa using hb
  subst e
  exact ⟨_, st, fun v z => by
   have z' : Data.fields _ = Data.cell v := z
   cases z'⟩
 keep := fun i h h' st k => k it (by simp) _ st
 item := by
  intro X hP hw hK hc i pins s σ H E I hf st' hg
  subst hP hw hK
  obtain ⟨f0, f1, f2, f3, f4, f5⟩ := hf it (by simp)
  have W := Walks.range (prog := X.prog) (w := X.w) (I.ok.hd hc) it lo st n
  refine W.item i s _ _ hg st' fun v h' tk hv st2 kk => ?_
  obtain ⟨t, rfl⟩ := hv
  have I1 : Inv X pins σ H { s with heap := h', toks := tk } := I.turned (fun b o hb e => kk b o (by simpa using hb) e) f0 f1 f3 f4 f5
  exact ⟨_, rfl, go_of (s := { s with heap := h', toks := tk }) (n := "range_iterator") st2 rfl rfl (by decide) ⟨.int (lo + i * st), H, I1, ⟨t, rfl⟩, ⟨rfl, rfl⟩, st2, fun b hb => (hf b hb).1⟩⟩
 done := by
  intro X hP hw hK hc i pins s σ H E I hf st' hg
  subst hP hw hK
  obtain ⟨f0, f1, f2, f3, f4, f5⟩ := hf it (by simp)
  exact wpAny_pyNext_range_end (I.ok.hd hc) st' (by have : n ≤ i := hg; omega) fun h' eb => ⟨rfl, I.turned (t' := s.toks) (fun b o hb e => eb b o hb e) f0 f1 f3 f4 f5⟩
 self := fun _ _ _ _ _ st h => wpAny_pyIter_rangeiter st h
end
section
variable {X : Cx} {fr : Bool} {pos : Pos}
def tAsgX (te : TEX) (g : TG) : TSX := fun D R σ H => te σ H (fun x H1 => g x σ H1 D.nx) fun cls _ H1 => R cls σ H1
theorem psx_asg {tg e : Expr} {te : TEX} {g : TG} (he : PEX fr X e te) (hg : PG X tg g) (hs : swapsWithSole [tg] e pos.line X.env = pure false := by rfl) (hw : swappedStores [tg] e X.env = pure none := by rfl)
  (h1 : (assignEach [tg] X.env).map (·.2) = [assign tg X.env] := by rfl) (hx : X.xe = (fun _ _ => False) := by rfl) : PSX fr X (.Assign [tg] e pos) (tAsgX te g) := by
 intro pins s σ H D R I h
 refine wpAny_Assign_stores (wpAny_mono (he pins s σ H _ _ I h) (fun v s1 ⟨x, H1, I1, r1, q1⟩ => ?_) ?_) hs hw
 ·rw [h1]
  have z := hg pins s1 σ H1 x v _ I1 r1 q1
  rw [hx] at z
  exact wpAny_mono z (fun _ _ y => y) fun _ _ y => y.elim
 ·rintro ev s1 ⟨e, T, cls, a0, σ', H', g1, g2, g3, g4, g5, g7, rfl, g6⟩
  exact ⟨e, T, cls, a0, σ', H', g1, g2, g3, g4, g5, g7, g6⟩
end
theorem kdict_mk2 {w : World} {K : PySem.W.Frag} {a : Addr} {h1 h2 : Int} {t1 t2 t3 t4 : Tok} {ep : Nat} {x1 y1 x2 y2 : Str}
  (l : K.lookup a = some ⟨.type "dict", none, .dict #[⟨h1, .str x1 t1, .str y1 t2⟩, ⟨h2, .str x2 t3, .str y2 t4⟩] ep, #[]⟩) (e1 : h1 = hashStr w x1) (e2 : h2 = hashStr w x2) (ne : x1 ≠ x2) (sy : (a == sysModules) = false) :
  KDict w K a [(Sum.inr x1, .str y1), (Sum.inr x2, .str y2)] := by
 refine ⟨_, _, _, [(Sum.inr x1, .str y1 t2), (Sum.inr x2, .str y2 t4)], l, ⟨rfl, rfl, rfl⟩, rfl, fun e he => ?_, fun P => ?_, ?_, ?_, sy⟩
 ·have he : e = ⟨h1, .str x1 t1, .str y1 t2⟩ ∨ e = ⟨h2, .str x2 t3, .str y2 t4⟩ := by simpa using he
  rcases he with rfl | rfl
  ·exact ⟨Sum.inr x1, keyIs_str x1 t1, e1⟩
  ·exact ⟨Sum.inr x2, keyIs_str x2 t3, e2⟩
 ·exact .cons (keyIs_str x1 t1) rfl (.cons (keyIs_str x2 t3) rfl .nil)
 ·refine List.nodup_cons.mpr ⟨?_, by simp⟩
  simp [ne]
 ·exact .cons ⟨rfl, ⟨_, rfl⟩⟩ (.cons ⟨rfl, ⟨_, rfl⟩⟩ .nil)
end L2
set_option maxHeartbeats 4000000
namespace L2
open PySem PySem.Spec PyProof.Rows
section
variable {X : Cx}
def rEqL (K : PySem.W.Frag) : R2 := fun x y H Q => ∃ a b ns ms, x = .ref a ∧ y = .ref b ∧ SqL K H a (List.map V.int ns) ∧ SqL K H b (List.map V.int ms) ∧ Q (.bl (decide (ns = ms))) H
def rNeL (K : PySem.W.Frag) : R2 := fun x y H Q => ∃ a b ns ms, x = .ref a ∧ y = .ref b ∧ SqL K H a (List.map V.int ns) ∧ SqL K H b (List.map V.int ms) ∧ Q (.bl (!decide (ns = ms))) H
theorem op_eqL (hu : X.A.units + 64 < cLine) : OpR X (compareOp .Eq) (rEqL X.K) := by
 intro pins s σ H x y v u Q I rx ry h
 obtain ⟨a, b, ns, ms, rfl, rfl, ha, hb, q⟩ := h
 cases rx
 cases ry
 obtain ⟨ia, ra, pa, _⟩ := I.list ha
 obtain ⟨ib, rb, pb, _⟩ := I.list hb
 exact PySem.W.eq_intsK pa.isList (intsAre_of ra) pb.isList (intsAre_of rb) hu ⟨.bl _, H, I, rfl, q⟩
theorem op_neL (hu : X.A.units + 64 < cLine) : OpR X (compareOp .NotEq) (rNeL X.K) := by
 intro pins s σ H x y v u Q I rx ry h
 obtain ⟨a, b, ns, ms, rfl, rfl, ha, hb, q⟩ := h
 cases rx
 cases ry
 obtain ⟨ia, ra, pa, _⟩ := I.list ha
 obtain ⟨ib, rb, pb, _⟩ := I.list hb
 exact PySem.W.ne_intsK pa.isList (intsAre_of ra) pb.isList (intsAre_of rb) hu ⟨.bl _, H, I, rfl, q⟩
theorem all_range (bs : List Bool) : ((List.range bs.length).all fun i => bs.getD i true) = bs.all id := by
 rw [Bool.eq_iff_iff, List.all_eq_true, List.all_eq_true]
 constructor
 ·intro h b hb
  obtain ⟨i, hi, rfl⟩ := List.mem_iff_getElem.mp hb
  have := h i (List.mem_range.mpr hi)
  rw [List.getD_eq_getElem?_getD, List.getElem?_eq_getElem hi] at this
  exact this
 ·intro h i hi
  have hi := List.mem_range.mp hi
  rw [List.getD_eq_getElem?_getD, List.getElem?_eq_getElem hi]
  exact h _ (List.getElem_mem hi)
theorem call_all (hc : X.calm = true) : CallR X (.builtin "all") (fun xs H Q => ∃ p bs, xs = [.ref p] ∧ SqL X.K H p (List.map V.bl bs) ∧ Q (.bl (bs.all id)) H) := by
 intro pins s σ H xs us Q I r h
 obtain ⟨p, bs, rfl, hq, q⟩ := h
 obtain ⟨u, rfl, ru⟩ := vals1 r
 cases ru
 obtain ⟨its, rv, pl, hz⟩ := I.list hq
 have ne : p ≠ s.heap.objs.size := by obtain ⟨o, ho, _⟩ := pl.isList; exact Nat.ne_of_lt (Heap.lt_size ho)
 refine call_all_walk (wpAny_pyIter_list pl.isList ⟨s.heap.objs.size, _, _, _, _, _, fun i => bs.getD i true, rfl, Walks.list (A := X.A.in1) (show X.A.in1.handled = none from I.ok.hd hc) s.heap.objs.size p ne its.toArray, ⟨⟨_, Heap.get?_push_size _ rfl, rfl, rfl⟩, pl.isList.push _⟩, ?_, ?_⟩)
 ·intro i v s' Q' E' hv hq'
  have hv : its[i]? = some v := by simpa using hv
  have hlen := rv.length
  rw [List.length_map] at hlen
  have hi : i < bs.length := by have := (List.getElem?_eq_some_iff.mp hv).1; omega
  obtain ⟨u, hu, ru⟩ := rv.get (show (bs.map V.bl)[i]? = some (V.bl bs[i]) by rw [List.getElem?_map, List.getElem?_eq_getElem hi]; rfl)
  rw [hv] at hu
  cases hu
  cases ru
  have e : bs.getD i true = bs[i] := by rw [List.getD_eq_getElem?_getD, List.getElem?_eq_getElem hi]; rfl
  refine wpAny_truthy_bool ?_
  have hq' : Q' (bs.getD i true) s' := hq'
  rw [e] at hq'
  exact hq'
 ·intro h' tk hk
  have I1 : Inv X pins σ H { s with heap := h', toks := tk } := I.kept fun b o e => hk b o (fun z => absurd (Heap.lt_size e) (by rw [List.mem_singleton.mp z]; exact Nat.lt_irrefl _)) (Heap.get?_push_of_some _ e)
  have hlen : its.toArray.size = bs.length := by have := rv.length; rw [List.length_map] at this; simp; omega
  refine ⟨.bl (bs.all id), H, I1, ?_, q⟩
  show Value.bool _ = _
  rw [hlen, all_range]
end
section
def Itrev (K : PySem.W.Frag) (a : Addr) (n : Nat) : It :=
 ⟨fun i H => i < n ∧ ∃ xs, SqL K H a xs ∧ xs.length = n, fun i H x H' => H' = H ∧ ∀ xs, SqL K H a xs → xs[n - 1 - i]? = some x, fun i H => n ≤ i ∧ ∃ xs, SqL K H a xs ∧ xs.length = n⟩
theorem turn_rev {P : Program} {w : World} {K : PySem.W.Frag} {tg : Expr} (a it : Addr) (n : Nat) : Turn P w K tg (Itrev K a n) [it] it (fun i h => i ≤ n ∧ h.IsRevIter it a ((n : Int) - 1 - i)) where
 mem := by simp
 obj := fun i h st b hb => by
  have e : b = it := by simpa using hb
  subst e
  obtain ⟨_, o, e, c, d⟩ := st
  exact ⟨o, e, fun v z => by rw [d] at z; cases z⟩
 keep := fun i h h' st k => ⟨st.1, st.2.at fun o e => k it (by simp) o e⟩
 item := by
  intro X hP hw hK hc i pins s σ H E I hf st hg
  subst hP hw hK
  obtain ⟨hi, xs, hq, hl⟩ := hg
  obtain ⟨its, rv, p, hz⟩ := I.list hq
  obtain ⟨f0, f1, f2, f3, f4, f5⟩ := hf it (by simp)
  have hlt : n - 1 - i < xs.length := by omega
  obtain ⟨u, hu, ru⟩ := rv.get (List.getElem?_eq_getElem hlt)
  have e1 : (n : Int) - 1 - i = ((n - 1 - i : Nat) : Int) := by omega
  have st2 := st.2
  rw [e1] at st2
  refine wpAny_pyNext_rev_item st2 p.isList (x := u) (by simpa using hu) fun h' st' sb => ?_
  have I1 : Inv X pins σ H { s with heap := h' } := I.turned (t' := s.toks) (fun b o hb e => (sb.2 b hb).trans e) f0 f1 f3 f4 f5
  have e2 : ((n - 1 - i : Nat) : Int) - 1 = (n : Int) - 1 - ((i + 1 : Nat) : Int) := by omega
  rw [e2] at st'
  obtain ⟨o, e, c, d⟩ := id st'
  exact ⟨u, rfl, go_of (s := { s with heap := h' }) e c d (by decide) ⟨xs[n - 1 - i], H, I1, ru, ⟨rfl, fun ys hy => by rw [I.list_inj hy hq]; exact List.getElem?_eq_getElem hlt⟩, ⟨hi, st'⟩, fun b hb => (hf b hb).1⟩⟩
 done := by
  intro X hP hw hK hc i pins s σ H E I hf st hg
  subst hP hw hK
  obtain ⟨hi, xs, hq, hl⟩ := hg
  obtain ⟨f0, f1, f2, f3, f4, f5⟩ := hf it (by simp)
  have st2 := st.2
  rw [show (n : Int) - 1 - i = -1 by have := st.1; omega] at st2
  exact wpAny_pyNext_rev_end (I.ok.hd hc) st2 fun h' eb => ⟨rfl, I.turned (t' := s.toks) (fun b o hb e => eb b o hb e) f0 f1 f3 f4 f5⟩
 self := fun _ _ _ _ _ st h => wpAny_pyIter_revIter st.2 h
variable {X : Cx} {tg : Expr}
def iRev (K : PySem.W.Frag) (ta : TA) : TI := fun σ H R => ta σ H fun vs H1 => ∃ a xs, vs = [.ref a] ∧ SqL K H1 a xs ∧ R (Itrev K a xs.length) H1
theorem pi_rev {l : Expr} {ta : TA} {p pos : Pos} (hg : Gl X "reversed") (hm : X.mg "reversed" = none) (ha : PA X [l] ta) (hs : starEach [l] X.env = [(false, eval l X.env)] := by rfl) : PI X tg (.Call (.Name "reversed" p) [l] [] pos) (iRev X.K ta) := by
 intro pins s σ H R I h
 refine Call_ (ld_blt I hg hm boot_reversed (PyProof.Rows.callWith_type1 (thn (ha pos pins s σ H _ I h) fun us s1 ⟨vs, H1, I1, r1, q1⟩ => ?_) hs rfl))
 obtain ⟨a, xs, e, hq, q⟩ := q1
 subst e
 obtain ⟨u, rfl, ru⟩ := vals1 r1
 cases ru
 obtain ⟨its, rv, pl, hz⟩ := I1.list hq
 refine call_reversed_list pl.isList ?_
 have I2 : Inv X pins σ H1 { s1 with heap := s1.heap.push (revObj a ((its.toArray.size : Int) - 1)) } := I1.kept (t' := s1.toks) fun b o e => Heap.get?_push_of_some _ e
 have hn : its.toArray.size = xs.length := by have := rv.length; simp; omega
 rw [hn] at I2 ⊢
 have st : (s1.heap.push (revObj a ((xs.length : Int) - 1))).IsRevIter s1.heap.objs.size a ((xs.length : Int) - 1 - ((0 : Nat) : Int)) := by
  rw [show (xs.length : Int) - 1 - ((0 : Nat) : Int) = (xs.length : Int) - 1 by simp]
  exact ⟨_, Heap.get?_push_size _ rfl, rfl, rfl⟩
 refine wpAny_pyIter_revIter st ?_
 refine ⟨s1.heap.objs.size, [s1.heap.objs.size], _, _, H1, rfl, I2, turn_rev a _ xs.length, ⟨Nat.zero_le _, st⟩, fun b hb => ?_, q⟩
 have e : b = s1.heap.objs.size := by simpa using hb
 subst e
 exact I1.fpOk (Nat.le_refl _) (I1.hok.fresh (Nat.le_refl _))
theorem loop_rev {K : PySem.W.Frag} {a : Addr} {xs : List V} {g : TG} {tt : TT} {tb : TB} {R : St → Hp → Prop} {σ : St} {H : Hp} (Pv : Nat → St → Hp → Prop) (h0 : Pv 0 σ H) (hl : ∀ i σ H, i ≤ xs.length → Pv i σ H → SqL K H a xs)
  (hs : ∀ (i : Nat) x σ H, xs.reverse[i]? = some x → Pv i σ H → g x σ H fun σ2 H2 => tt σ2 H2 fun b H3 => if b = true then tb σ2 H3 (Pv (i + 1)) else Pv (i + 1) σ2 H3) (hd : ∀ σ H, Pv xs.length σ H → R σ H) : LoopR (Itrev K a xs.length) g tt tb R σ H := by
 refine ⟨fun i m σ H => m = xs.length - i ∧ i ≤ xs.length ∧ Pv i σ H, ⟨xs.length, by simp, Nat.zero_le _, h0⟩, ?_⟩
 rintro i m σ H ⟨rfl, hi, p⟩
 have q := hl i σ H hi p
 by_cases hlt : i < xs.length
 ·refine .inr ⟨⟨hlt, xs, q, rfl⟩, Pv (i + 1), fun σ' H' p' => ⟨xs.length - (i + 1), by omega, rfl, hlt, p'⟩, fun x H' y => ?_⟩
  obtain ⟨e, y⟩ := y
  subst e
  exact hs i x σ _ (by rw [List.getElem?_reverse hlt]; exact y xs q) p
 ·have e : i = xs.length := by omega
  subst e
  exact .inl ⟨⟨Nat.le_refl _, xs, q, rfl⟩, hd σ H p⟩
end
section
def Itz (K : PySem.W.Frag) (a b : Addr) : It :=
  ⟨fun i H => ∃ xs ys x y, SqL K H a xs ∧ SqL K H b ys ∧ xs[i]? = some x ∧ ys[i]? = some y,
   fun i H v H' => ∃ q x y, H q = none ∧ v = .ref q ∧ (∀ xs, SqL K H a xs → xs[i]? = some x) ∧ (∀ ys, SqL K H b ys → ys[i]? = some y) ∧ H' = upd H q (.tup [x, y]),
   fun i H => ∃ xs ys, SqL K H a xs ∧ SqL K H b ys ∧ (xs.length ≤ i ∨ ys.length ≤ i)⟩
theorem turn_zip {P : Program} {w : World} {K : PySem.W.Frag} {elts : List Expr} {x1 : Nat} {pos : Pos} (a b z TI TO i1 i2 : Addr) (D : ZipApart z TI TO i1 i2 a b) :
  Turn P w K (.Tuple elts x1 pos) (Itz K a b) [z, TI, TO, i1, i2] z (fun i h => IsZip h z TI TO .none ∧ IsPair h TI (.ref i1) (.ref i2) ∧ (∃ u v, IsPair h TO u v) ∧ h.IsListIter i1 a i ∧ h.IsListIter i2 b i) where
 mem := by simp
 obj := fun i h st c hc => by
  obtain ⟨s1, s2, ⟨u, v, s3⟩, ⟨o4, e4, c4, d4⟩, o5, e5, c5, d5⟩ := st
  have hc : c = z ∨ c = TI ∨ c = TO ∨ c = i1 ∨ c = i2 := by simpa using hc
  rcases hc with rfl | rfl | rfl | rfl | rfl
  ·exact ⟨_, s1, fun v y => by have y' : Data.fields _ = Data.cell v := y; cases y'⟩
  ·exact ⟨_, s2, fun v y => by have y' : Data.seq _ _ = Data.cell v := y; cases y'⟩
  ·exact ⟨_, s3, fun v y => by have y' : Data.seq _ _ = Data.cell v := y; cases y'⟩
  ·exact ⟨o4, e4, fun v y => by rw [d4] at y; cases y⟩
  ·exact ⟨o5, e5, fun v y => by rw [d5] at y; cases y⟩
 keep := fun i h h' st k => by
  obtain ⟨s1, s2, ⟨u, v, s3⟩, s4, s5⟩ := st
  exact ⟨k z (by simp) _ s1, k TI (by simp) _ s2, ⟨u, v, k TO (by simp) _ s3⟩, s4.at fun o e => k i1 (by simp) o e, s5.at fun o e => k i2 (by simp) o e⟩
 item := by
  intro X hP hw hK hc i pins s σ H E I hf st hg
  subst hP hw hK
  obtain ⟨xs, ys, x, y, hqx, hqy, hx, hy⟩ := hg
  obtain ⟨itx, rvx, px, _⟩ := I.list hqx
  obtain ⟨ity, rvy, py, _⟩ := I.list hqy
  obtain ⟨u, hu, ru⟩ := rvx.get hx
  obtain ⟨v, hv, rv⟩ := rvy.get hy
  obtain ⟨s1, s2, ⟨u0, v0, s3⟩, s4, s5⟩ := st
  refine wpAny_pyNext_zip_item D s1 s2 s3 s4 s5 px.isList py.isList (x := u) (y := v) (by simpa using hu) (by simpa using hv) fun h' a1 a2 a3 a4 a5 a6 a7 => ?_
  refine ⟨.ref s.heap.objs.size, rfl, wpAny_letOwnedTupleGo_zip a1 fun h'' b1 sb => ?_⟩
  have lt : ∀ c ∈ [z, TI, TO, i1, i2], c < s.heap.objs.size := fun c hc => by
   obtain ⟨o, e, _⟩ : ∃ o, s.heap.get? c = some o ∧ True := by
    have hc : c = z ∨ c = TI ∨ c = TO ∨ c = i1 ∨ c = i2 := by simpa using hc
    rcases hc with rfl | rfl | rfl | rfl | rfl
    ·exact ⟨_, s1, trivial⟩
    ·exact ⟨_, s2, trivial⟩
    ·exact ⟨_, s3, trivial⟩
    ·obtain ⟨o, e, _⟩ := s4; exact ⟨o, e, trivial⟩
    ·obtain ⟨o, e, _⟩ := s5; exact ⟨o, e, trivial⟩
   exact Heap.lt_size e
  have keepb : ∀ c o, c ≠ z → c ≠ TO → c ≠ i1 → c ≠ i2 → s.heap.get? c = some o → h''.get? c = some o := fun c o n1 n2 n3 n4 e => (sb.2 c n1).trans (a7 c o n1 n2 n3 n4 e)
  have zl := lt z (by simp)
  have ht'' : h''.get? s.heap.objs.size = some { cls := .type "tuple", data := .seq #[u, v] } := (sb.2 _ (Nat.ne_of_gt zl)).trans a5
  have hn : H s.heap.objs.size = none := I.hok.fresh (Nat.le_refl _)
  have I2 : Inv X pins σ (upd H s.heap.objs.size (.tup [x, y])) { s with heap := h'' } := by
   have out : ∀ c, c ∉ [z, TO, i1, i2] → c ≠ z ∧ c ≠ TO ∧ c ≠ i1 ∧ c ≠ i2 := fun c hc => by simpa using hc
   refine I.step (g' := s.gens) (d' := s.drawn) (ch := [z, TO, i1, i2]) (fun c hc => ?_) (fun c o _ _ hc q _ => ?_) (fun c o _ _ hc q _ => ⟨o.slots, ?_⟩) (fun c o _ q n => by rw [upd_ne (Nat.ne_of_lt (Heap.lt_size q))]; exact n)
    (fun c o hc q => ⟨o, ?_⟩) (fun c zs q => by rw [upd_ne (ne_of_none q hn)]; exact q) (fun c o zs q => by rw [upd_ne (ne_of_none q hn)]; exact q) (fun c ps q => ⟨#[], by rw [upd_ne (ne_of_none q hn), q]; simp⟩) (fun m hm => ?_) (fun c v' q => ?_) I.bare
   ·have hc : c = z ∨ c = TO ∨ c = i1 ∨ c = i2 := by simpa using hc
    have hm : c ∈ [z, TI, TO, i1, i2] := by rcases hc with rfl | rfl | rfl | rfl <;> simp
    obtain ⟨f0, f1, f2, f3, f4, f5⟩ := hf c hm
    exact ⟨f3, f1, f4, f5⟩
   ·obtain ⟨n1, n2, n3, n4⟩ := out c hc; exact keepb c o n1 n2 n3 n4 q
   ·obtain ⟨n1, n2, n3, n4⟩ := out c hc; exact keepb c o n1 n2 n3 n4 q
   ·obtain ⟨n1, n2, n3, n4⟩ := out c hc; exact keepb c o n1 n2 n3 n4 q
   ·obtain ⟨o, es, ep, ho, r⟩ := hm
    exact ⟨o, es, ep, keepb _ o (Ne.symm (hf z (by simp)).2.1) (Ne.symm (hf TO (by simp)).2.1) (Ne.symm (hf i1 (by simp)).2.1) (Ne.symm (hf i2 (by simp)).2.1) ho, r⟩
   ·by_cases hb : c = s.heap.objs.size
    ·subst hb
     rw [upd_same] at q
     cases q
     exact ⟨by show 2 ≤ sizeLine; decide, [u, v], .cons ru (.cons rv .nil), ⟨_, ht'', rfl, _, rfl⟩⟩
    ·rw [upd_ne hb] at q
     refine (I.hok c v' q).stay (fun e w' he y' => keepb e w' ?_ ?_ ?_ ?_ y') (fun d y' => by rw [upd_ne (ne_of_none y' hn)]; exact y') fun d zs y' => by rw [upd_ne (ne_of_none y' hn)]; exact y'
     all_goals
      rintro rfl
      have hz0 : H e = none := (hf e (by simp)).1
      rcases he with y' | y'
      ·rw [y', q] at hz0; cases hz0
      ·rw [hz0] at y'; cases y'
  refine ⟨.ref s.heap.objs.size, _, I2, rfl, ⟨_, x, y, hn, rfl, fun xs' hy' => by rw [I.list_inj hy' hqx]; exact hx, fun ys' hy' => by rw [I.list_inj hy' hqy]; exact hy, rfl⟩,
   ⟨b1, (sb.2 TI D.TIz).trans (a7 TI _ D.TIz D.TITO D.TIi1 D.TIi2 s2), ⟨u, v, (sb.2 TO D.TOz).trans a2⟩, a3.at fun o e => (sb.2 i1 D.i1z).trans e, a4.at fun o e => (sb.2 i2 D.i2z).trans e⟩, fun c hc => ?_⟩
  rw [upd_ne (Nat.ne_of_lt (lt c hc))]
  exact (hf c hc).1
 done := by
  intro X hP hw hK hc i pins s σ H E I hf st hg
  subst hP hw hK
  obtain ⟨xs, ys, hqx, hqy, hlen⟩ := hg
  obtain ⟨itx, rvx, px, _⟩ := I.list hqx
  obtain ⟨ity, rvy, py, _⟩ := I.list hqy
  obtain ⟨s1, s2, ⟨u0, v0, s3⟩, s4, s5⟩ := st
  have l1 := rvx.length
  have l2 := rvy.length
  refine wpAny_pyNext_zip_end (I.ok.hd hc) D s1 s2 s3 s4 s5 px.isList py.isList ?_ fun h' eb => ⟨rfl, ?_⟩
  ·rcases hlen with z | z
   ·exact .inl (by simp; omega)
   ·exact .inr (by simp; omega)
  ·have out : ∀ c, c ∉ [z, TO, i1, i2] → c ≠ z ∧ c ≠ TO ∧ c ≠ i1 ∧ c ≠ i2 := fun c hc => by simpa using hc
   refine I.step (g' := s.gens) (d' := s.drawn) (t' := s.toks) (ch := [z, TO, i1, i2]) (fun c hc => ?_) (fun c o _ _ hc q _ => ?_) (fun c o _ _ hc q _ => ⟨o.slots, ?_⟩) (fun c o _ q n => n)
    (fun c o hc q => ⟨o, ?_⟩) (fun c zs q => q) (fun c o zs q => q) (fun c ps q => ⟨#[], by rw [q]; simp⟩) (fun m hm => ?_) (fun c v' q => ?_) I.bare
   ·have hc : c = z ∨ c = TO ∨ c = i1 ∨ c = i2 := by simpa using hc
    have hm : c ∈ [z, TI, TO, i1, i2] := by rcases hc with rfl | rfl | rfl | rfl <;> simp
    obtain ⟨f0, f1, f2, f3, f4, f5⟩ := hf c hm
    exact ⟨f3, f1, f4, f5⟩
   ·obtain ⟨n1, n2, n3, n4⟩ := out c hc; exact eb c o n1 n2 n3 n4 q
   ·obtain ⟨n1, n2, n3, n4⟩ := out c hc; exact eb c o n1 n2 n3 n4 q
   ·obtain ⟨n1, n2, n3, n4⟩ := out c hc; exact eb c o n1 n2 n3 n4 q
   ·obtain ⟨o, es, ep, ho, r⟩ := hm
    exact ⟨o, es, ep, eb _ o (Ne.symm (hf z (by simp)).2.1) (Ne.symm (hf TO (by simp)).2.1) (Ne.symm (hf i1 (by simp)).2.1) (Ne.symm (hf i2 (by simp)).2.1) ho, r⟩
   ·refine (I.hok c v' q).stay (fun e w' he y' => eb e w' ?_ ?_ ?_ ?_ y') (fun d y' => y') fun d zs y' => y'
    all_goals
     rintro rfl
     have hz0 : H e = none := (hf e (by simp)).1
     rcases he with y' | y'
     ·rw [y', q] at hz0; cases hz0
     ·rw [hz0] at y'; cases y'
 self := fun _ _ _ _ _ st h => wpAny_pyIter_zip st.1 h
theorem zip_apart {N a b : Nat} (la : a < N) (lb : b < N) : ZipApart (N + 4) (N + 2) (N + 3) N (N + 1) a b := by
 constructor <;> (intro z; first | exact absurd (show (_ : Nat) = _ from z) (by omega) | omega)
variable {X : Cx}
def iZip (K : PySem.W.Frag) (ta : TA) : TI := fun σ H R => ta σ H fun vs H1 => ∃ a b xs ys, vs = [.ref a, .ref b] ∧ SqL K H1 a xs ∧ SqL K H1 b ys ∧ R (Itz K a b) H1
theorem pi_zip {elts : List Expr} {x1 : Nat} {tpos p pos : Pos} {l m : Expr} {ta : TA} (hg : Gl X "zip") (hm : X.mg "zip" = none) (ha : PA X [l, m] ta) (hs : starEach [l, m] X.env = [(false, eval l X.env), (false, eval m X.env)] := by rfl) (hs2 : starEach [m] X.env = [(false, eval m X.env)] := by rfl) :
  PI X (.Tuple elts x1 tpos) (.Call (.Name "zip" p) [l, m] [] pos) (iZip X.K ta) := by
 intro pins s σ H R I h
 refine Call_ (ld_blt I hg hm boot_zip (PyProof.Rows.callWith_type1 (thn (ha pos pins s σ H _ I h) fun us s1 ⟨vs, H1, I1, r1, q1⟩ => ?_) (by rw [hs, hs2]) (by rw [hs2]; rfl)))
 obtain ⟨a, b, xs, ys, e, hqx, hqy, q⟩ := q1
 subst e
 obtain ⟨u, v, rfl, ru, rv⟩ := r1.two
 cases ru
 cases rv
 obtain ⟨itx, rvx, px, _⟩ := I1.list hqx
 obtain ⟨ity, rvy, py, _⟩ := I1.list hqy
 have la : a < s1.heap.objs.size := by obtain ⟨o, ho, _⟩ := px.isList; exact Heap.lt_size ho
 have lb : b < s1.heap.objs.size := by obtain ⟨o, ho, _⟩ := py.isList; exact Heap.lt_size ho
 refine call_zip_2 px.isList py.isList fun h' z1 z2 z3 z4 z5 z6 z7 => wpAny_pyIter_zip z1 ?_
 have I2 : Inv X pins σ H1 { s1 with heap := h' } := I1.kept (t' := s1.toks) z7
 generalize hN : s1.heap.objs.size = N at *
 refine ⟨N + 4, [N + 4, N + 2, N + 3, N, N + 1], _, _, H1, rfl, I2, turn_zip a b (N + 4) (N + 2) (N + 3) N (N + 1) (zip_apart la lb), ⟨z1, z2, ⟨_, _, z3⟩, z4, z5⟩, fun c hc => ?_, q⟩
 have hc : s1.heap.objs.size ≤ c := by
  have hc : c = N + 4 ∨ c = N + 2 ∨ c = N + 3 ∨ c = N ∨ c = N + 1 := by simpa using hc
  rw [hN]
  rcases hc with rfl | rfl | rfl | rfl | rfl
  ·exact Nat.le_add_right _ _
  ·exact Nat.le_add_right _ _
  ·exact Nat.le_add_right _ _
  ·exact Nat.le_refl _
  ·exact Nat.le_add_right _ _
 exact I1.fpOk hc (I1.hok.fresh hc)
theorem loop_zip {K : PySem.W.Frag} {a b : Addr} {xs ys : List V} {g : TG} {tt : TT} {tb : TB} {R : St → Hp → Prop} {σ : St} {H : Hp} (hlen : xs.length = ys.length) (Pv : Nat → St → Hp → Prop) (h0 : Pv 0 σ H) (hl : ∀ i σ H, i ≤ xs.length → Pv i σ H → SqL K H a xs ∧ SqL K H b ys)
  (hs : ∀ (i : Nat) x y σ H q, xs[i]? = some x → ys[i]? = some y → H q = none → Pv i σ H → g (.ref q) σ (upd H q (.tup [x, y])) fun σ2 H2 => tt σ2 H2 fun b H3 => if b = true then tb σ2 H3 (Pv (i + 1)) else Pv (i + 1) σ2 H3) (hd : ∀ σ H, Pv xs.length σ H → R σ H) : LoopR (Itz K a b) g tt tb R σ H := by
 refine ⟨fun i m σ H => m = xs.length - i ∧ i ≤ xs.length ∧ Pv i σ H, ⟨xs.length, by simp, Nat.zero_le _, h0⟩, ?_⟩
 rintro i m σ H ⟨rfl, hi, p⟩
 obtain ⟨q1, q2⟩ := hl i σ H hi p
 by_cases hlt : i < xs.length
 ·have hlt2 : i < ys.length := by omega
  refine .inr ⟨⟨xs, ys, xs[i], ys[i], q1, q2, by simp [hlt], by simp [hlt2]⟩, Pv (i + 1), fun σ' H' p' => ⟨xs.length - (i + 1), by omega, rfl, hlt, p'⟩, fun x H' y => ?_⟩
  obtain ⟨c, u, v, hn, e1, y1, y2, e2⟩ := y
  subst e1 e2
  exact hs i u v σ H c (y1 xs q1) (y2 ys q2) hn p
 ·have e : i = xs.length := by omega
  subst e
  exact .inl ⟨⟨xs, ys, q1, q2, .inl (Nat.le_refl _)⟩, hd σ H p⟩
theorem for_zip {K : PySem.W.Frag} {a b : Addr} {xs ys : List V} {g : TG} {tb : TS} {D : Ends} {σ : St} {H : Hp} (hlen : xs.length = ys.length) (Pv : Nat → St → Hp → Prop) (h0 : Pv 0 σ H) (hl : ∀ i σ H, i ≤ xs.length → Pv i σ H → SqL K H a xs ∧ SqL K H b ys)
  (hs : ∀ i x y σ H q, xs[i]? = some x → ys[i]? = some y → H q = none → Pv i σ H → g (.ref q) σ (upd H q (.tup [x, y])) fun σ2 H2 => tb { D with nx := Pv (i + 1), ct := Pv (i + 1), bk := D.nx } σ2 H2) (hd : ∀ σ H, Pv xs.length σ H → D.nx σ H) :
  ∃ W : Nat → Nat → St → Hp → Prop, (∃ m, W 0 m σ H) ∧ ∀ i m σ H, W i m σ H →
   ((Itz K a b).stop i H ∧ D.nx σ H) ∨ ((Itz K a b).go i H ∧ ∃ N : St → Hp → Prop, (∀ σ' H', N σ' H' → ∃ m', m' < m ∧ W (i + 1) m' σ' H') ∧ ∀ x H', (Itz K a b).yld i H x H' → g x σ H' fun σ2 H2 => tb { D with nx := N, ct := N, bk := D.nx } σ2 H2) := by
 refine ⟨fun i m σ H => m = xs.length - i ∧ i ≤ xs.length ∧ Pv i σ H, ⟨xs.length, by simp, Nat.zero_le _, h0⟩, ?_⟩
 rintro i m σ H ⟨rfl, hi, p⟩
 obtain ⟨q1, q2⟩ := hl i σ H hi p
 by_cases hlt : i < xs.length
 ·have hlt2 : i < ys.length := by omega
  refine .inr ⟨⟨xs, ys, xs[i], ys[i], q1, q2, by simp [hlt], by simp [hlt2]⟩, Pv (i + 1), fun σ' H' p' => ⟨xs.length - (i + 1), by omega, rfl, hlt, p'⟩, fun x H' y => ?_⟩
  obtain ⟨c, u, v, hn, e1, y1, y2, e2⟩ := y
  subst e1 e2
  exact hs i u v σ H c (y1 xs q1) (y2 ys q2) hn p
 ·have e : i = xs.length := by omega
  subst e
  exact .inl ⟨⟨xs, ys, q1, q2, .inl (Nat.le_refl _)⟩, hd σ H p⟩
end
end L2
set_option maxHeartbeats 4000000
namespace L2
open PySem PySem.Spec PyProof.Rows
section
variable {prog : Program} {w : World} {A : Around} {E : Value → Shared → Prop} {s : Shared}
abbrev upIt (a n : Int) : Obj := { cls := .type "range_iterator", data := .fields #[rawInt (a + (n - 1) * 1), rawInt n, rawInt (-1)] }
theorem fits62 {z : Int} (h1 : -(2 ^ 62) ≤ z) (h2 : z < 2 ^ 62) : Builtin.Range.rangeFitsLong z = true := by
 unfold Builtin.Range.rangeFitsLong
 rw [Bool.and_eq_true, decide_eq_true_eq, decide_eq_true_eq]
 omega
theorem rr_meets (r : Addr) (a b : Int) (t u v : Tok) (hs : (Builtin.Range.rangeFitsLong a && Builtin.Range.rangeFitsLong b && Builtin.Range.rangeFitsLong 1 && Builtin.Range.rangeFitsLong (-1) && Builtin.Range.rangeFitsLong (a - 1) && Builtin.Range.rangeFitsLong (Builtin.Range.rangeSize a b 1)) = true) :
  Meets (Builtin.«range.__reversed__» ⟨[.ref r], []⟩) (fun _ R s => IsRange s.heap r a b 1 t u v ∧ R (.ok (.ret (.ref s.heap.objs.size))) { s with heap := s.heap.push (upIt a (Builtin.Range.rangeSize a b 1)) }) :=
 .of_wp fun prog w A R s h => by
  obtain ⟨hp, g, d, tk, os⟩ := s
  obtain ⟨hl, h⟩ := h
  unfold Builtin.«range.__reversed__»
  refine wpAny_bind (wpAny_of_eq (a := Value.ref r) rfl ?_)
  refine wpAny_bind (m := Builtin.Range.rangeFields (.ref r)) ?_
  unfold Builtin.Range.rangeFields
  refine wpAny_bind (wpAny_field hl rfl (x := .int a t) rfl ?_)
  refine wpAny_bind (wpAny_of_eq (a := some a) rfl ?_)
  refine wpAny_bind (wpAny_field hl rfl (x := .int b u) rfl ?_)
  refine wpAny_bind (wpAny_of_eq (a := some b) rfl ?_)
  refine wpAny_bind (wpAny_field hl rfl (x := .int 1 v) rfl ?_)
  refine wpAny_bind (wpAny_of_eq (a := some 1) rfl ?_)
  refine wpAny_pure ?_
  dsimp only
  simp only [hs, Bool.not_true, Bool.false_eq_true, if_false, if_true]
  exact wpAny_bind (wpAny_newObj_type (wpAny_pure ⟨_, rfl, h⟩))
theorem rr_sub : isSubtype (.type "range_iterator") (.type "reversed") = pure false := by
 rw [isSubtype_type]
 kernel_rfl
theorem rr_code {r : Addr} {a b : Int} {t u v : Tok} {Z : Value → Shared → Prop} (hr : IsRange s.heap r a b 1 t u v)
  (hs : (Builtin.Range.rangeFitsLong a && Builtin.Range.rangeFitsLong b && Builtin.Range.rangeFitsLong 1 && Builtin.Range.rangeFitsLong (-1) && Builtin.Range.rangeFitsLong (a - 1) && Builtin.Range.rangeFitsLong (Builtin.Range.rangeSize a b 1)) = true)
  (q : Z (.ref s.heap.objs.size) { s with heap := s.heap.push (upIt a (Builtin.Range.rangeSize a b 1)) }) :
  codeAny (model prog w) A (.call (.builtin "reversed.__new__") ⟨[.type "reversed", .ref r], []⟩) (wants Z E) s := by
 have hT : s.TypeIs (.ref r) "range" := ⟨_, hr, rfl⟩
 refine codeAny_of_tree (show wpAny _ A.in1 (checkBuiltinCall "reversed.__new__" ⟨[.type "reversed", .ref r], []⟩ >>= fun _ => again (.builtin "reversed.__new__" ⟨[.type "reversed", .ref r], []⟩)) _ _ s from ?_)
 refine wpAny_bind (wpAny_of_eq (PySem.F.newCall_reversed_1 (.ref r)) (wpAny_pure ⟨plainId_quiet PySem.F.plain_reversed_new _, codeAny_builtin PySem.F.entry_reversed_new ?_⟩))
 rw [Around.under_plainId PySem.F.plain_reversed_new _]
 unfold Builtin.«reversed.__new__»
 refine wpAny_bind (wpAny_of_eq (newClass_reversed (.ref r)) ?_)
 refine wpAny_bind (wpAny_of_eq (a := ()) (by first | rfl | kernel_rfl) (wpAny_bind (wpAny_of_eq (a := ()) (by first | rfl | kernel_rfl) ?_)))
 refine wpAny_bind (wpAny_specialOf hT PySem.F.slot_range_reversed.lookup (wpAny_bind (wpAny_of_eq (PySem.F.slot_range_reversed.bind (.ref r)) ?_)))
 have ne : ¬ ((Value.builtin "range.__reversed__" == Value.none) = true) := Bool.false_ne_true
 dsimp only
 first | rw [if_neg ne] | (show wpAny _ _ (if (Value.builtin "range.__reversed__" == Value.none) = true then _ else _) _ _ _; rw [if_neg ne])
 refine wpAny_bind (wpAny_rule (wpAny_bind (m := runValue (.call (.builtin "range.__reversed__") ⟨[.ref r], []⟩)) ?_))
 show wpAny _ _ (call (.builtin "range.__reversed__") [.ref r]) _ _ _
 refine call_meets PySem.F.slot_range_reversed hT PySem.F.entry_range_reversed (PySem.F.args_range_reversed_1 _) (rr_meets r a b t u v hs) ⟨hr, ?_⟩
 first | exact wpAny_pure q | exact wpAny_bind (wpAny_pure (wpAny_pure q))
theorem rr_call {r : Addr} {a b : Int} {t u v : Tok} {Q : Value → Shared → Prop} (hr : IsRange s.heap r a b 1 t u v)
  (hs : (Builtin.Range.rangeFitsLong a && Builtin.Range.rangeFitsLong b && Builtin.Range.rangeFitsLong 1 && Builtin.Range.rangeFitsLong (-1) && Builtin.Range.rangeFitsLong (a - 1) && Builtin.Range.rangeFitsLong (Builtin.Range.rangeSize a b 1)) = true)
  (q : Q (.ref s.heap.objs.size) { s with heap := s.heap.push (upIt a (Builtin.Range.rangeSize a b 1)) }) : wpAny (model prog w) A (call (.type "reversed") [.ref r]) Q E s := by
 refine callType_other (U := "range_iterator") (Q₁ := fun o z => o = .ref s.heap.objs.size ∧ z = { s with heap := s.heap.push (upIt a (Builtin.Range.rangeSize a b 1)) }) (by decide +kernel) PySem.F.create_reversed ⟨_, _, PySem.F.mro_reversed⟩ PySem.F.made_reversed rr_sub (PySem.F.typeCall_reversed_1 _) (rr_code hr hs ⟨rfl, rfl⟩) ?_
 rintro o z ⟨rfl, rfl⟩
 exact ⟨⟨_, Heap.get?_push_size _ rfl, rfl⟩, q⟩
end
section
variable {X : Cx} {tg : Expr}
def iRevR (ta : TA) : TI := fun σ H R => ta σ H fun vs H1 => ∃ (i : Int) (n : Nat), vs = [.int i, .int (i + n)] ∧ 0 ≤ i ∧ i + n ≤ 100000 ∧ R (Itr3 (i + n - 1) (-1) n) H1
theorem pi_revR {a b : Expr} {ta : TA} {p1 p2 pos pos2 : Pos} (hgl : Gl X "reversed") (hml : X.mg "reversed" = none) (hg : Gl X "range") (hm : X.mg "range" = none) (ha : PA X [a, b] ta) (hs : starEach [a, b] X.env = [(false, eval a X.env), (false, eval b X.env)] := by rfl) (hsb : starEach [b] X.env = [(false, eval b X.env)] := by rfl)
  (hs2 : starEach [.Call (.Name "range" p2) [a, b] [] pos2] X.env = [(false, eval (.Call (.Name "range" p2) [a, b] [] pos2) X.env)] := by rfl) : PI X tg (.Call (.Name "reversed" p1) [.Call (.Name "range" p2) [a, b] [] pos2] [] pos) (iRevR ta) := by
 intro pins s σ H R I h
 refine Call_ (ld_blt I hgl hml boot_reversed (PyProof.Rows.callWith_type1 ?_ hs2 rfl))
 rw [hs2]
 refine Calls.spliced_cons ?_
 refine Call_ (ld_blt I hg hm boot_range (PyProof.Rows.callWith_type1 (thn (ha pos2 pins s σ H _ I h) fun us s1 ⟨vs, H1, I1, r1, q1⟩ => ?_) (by rw [hs, hsb]) (by rw [hsb]; rfl)))
 obtain ⟨i, n, e, h0, h1, q⟩ := q1
 subst e
 obtain ⟨u, v, rfl, ru, rv⟩ := r1.two
 obtain ⟨t, rfl⟩ := ru
 obtain ⟨t', rfl⟩ := rv
 refine call_range_2 (Calls.spliced_nil ?_)
 have hr : Builtin.Range.rangeSize i (i + n) 1 = n := by rw [rangeSize_one]; split <;> omega
 have fits : (Builtin.Range.rangeFitsLong i && Builtin.Range.rangeFitsLong (i + n) && Builtin.Range.rangeFitsLong 1 && Builtin.Range.rangeFitsLong (-1) && Builtin.Range.rangeFitsLong (i - 1) && Builtin.Range.rangeFitsLong (Builtin.Range.rangeSize i (i + n) 1)) = true := by
  rw [hr, fits62 (by omega) (by omega), fits62 (by omega) (by omega), fits62 (by decide) (by decide), fits62 (by decide) (by decide), fits62 (by omega) (by omega), fits62 (by omega) (by omega)]
  rfl
 refine rr_call (IsRange.new ..) fits ?_
 rw [hr]
 have I2 : Inv X pins σ H1 { s1 with heap := s1.heap.push { cls := .type "range", data := .fields #[.int i t, .int (i + n) t', .int 1 s1.toks] }, toks := s1.toks + 1 } := I1.kept fun b o e => Heap.get?_push_of_some _ e
 have st : IsRangeIter ((s1.heap.push { cls := .type "range", data := .fields #[.int i t, .int (i + n) t', .int 1 s1.toks] }).push (upIt i n)) (s1.heap.push { cls := .type "range", data := .fields #[.int i t, .int (i + n) t', .int 1 s1.toks] }).objs.size (i + n - 1 + ((0 : Nat) : Int) * (-1)) ((n : Int) - ((0 : Nat) : Int)) (-1) := by
  have e1 : i + (n : Int) - 1 + ((0 : Nat) : Int) * (-1) = i + ((n : Int) - 1) * 1 := by simp; omega
  have e2 : (n : Int) - ((0 : Nat) : Int) = n := by simp
  rw [e1, e2]
  exact Heap.get?_push_size _ rfl
 refine wpAny_pyIter_rangeiter st ?_
 refine ⟨_, [(s1.heap.push { cls := .type "range", data := .fields #[.int i t, .int (i + n) t', .int 1 s1.toks] }).objs.size], _, _, H1, rfl, I2.kept (t' := s1.toks + 1) fun b o e => Heap.get?_push_of_some _ e, turn_range3 _ (i + n - 1) (-1) n, st, fun b hb => ?_, q⟩
 have e : b = (s1.heap.push { cls := .type "range", data := .fields #[.int i t, .int (i + n) t', .int 1 s1.toks] }).objs.size := by simpa using hb
 subst e
 exact I2.fpOk (Nat.le_refl _) (I2.hok.fresh (Nat.le_refl _))
theorem for_range3 {lo st : Int} {n : Nat} {g : TG} {tb : TS} {D : Ends} {σ : St} {H : Hp} (Pv : Nat → St → Hp → Prop) (h0 : Pv 0 σ H)
  (hs : ∀ (i : Nat) σ H, i < n → Pv i σ H → g (.int (lo + i * st)) σ H fun σ2 H2 => tb { D with nx := Pv (i + 1), ct := Pv (i + 1), bk := D.nx } σ2 H2) (hd : ∀ σ H, Pv n σ H → D.nx σ H) :
  ∃ W : Nat → Nat → St → Hp → Prop, (∃ m, W 0 m σ H) ∧ ∀ i m σ H, W i m σ H →
   ((Itr3 lo st n).stop i H ∧ D.nx σ H) ∨ ((Itr3 lo st n).go i H ∧ ∃ N : St → Hp → Prop, (∀ σ' H', N σ' H' → ∃ m', m' < m ∧ W (i + 1) m' σ' H') ∧ ∀ x H', (Itr3 lo st n).yld i H x H' → g x σ H' fun σ2 H2 => tb { D with nx := N, ct := N, bk := D.nx } σ2 H2) := by
 refine ⟨fun i m σ H => m = n - i ∧ i ≤ n ∧ Pv i σ H, ⟨n, by simp, Nat.zero_le _, h0⟩, ?_⟩
 rintro i m σ H ⟨rfl, hi, p⟩
 by_cases hlt : i < n
 ·refine .inr ⟨hlt, Pv (i + 1), fun σ' H' p' => ⟨n - (i + 1), by omega, rfl, hlt, p'⟩, fun x H' y => ?_⟩
  obtain ⟨e, y⟩ := y
  subst e y
  exact hs i σ _ hlt p
 ·have e : i = n := by omega
  subst e
  exact .inl ⟨Nat.le_refl _, hd σ H p⟩
theorem pg_tupK {pos : Pos} (K : PySem.W.Frag) {es : List Expr} {k : Nat} {t : TGs} {n : Nat} (hc : X.calm = true) (h : PGs X es t)
  (hn : (assignEach es X.env).length = n := by rfl) (hst : (assignEach es X.env).findIdx? (·.1) = none := by rfl) (hk : X.K = K := by rfl) : PG X (.Tuple es k pos) (gTup K n t) := hk ▸ pg_tup hc h hn hst
end
end L2
set_option maxHeartbeats 4000000
namespace KT
open PySem L2
def mV : Option Nat → V
 | none => .non
 | some j => .int j
structure TD (M : List (Option Nat)) (ns : List Int) : Prop where
 n : ∃ n, 1 ≤ n ∧ n ≤ 40 ∧ M.length = 3 * n
 len : ns.length = M.length
 inv : ∀ (i j : Nat), M[i]? = some (some j) → M[j]? = some (some i) ∧ i ≠ j
 rng : ∀ (i : Nat) x, ns[i]? = some x → 0 ≤ x ∧ x ≤ 9999
 eqv : ∀ (i j : Nat) x, ns[i]? = some x → ns[j]? = some x → i = j ∨ M[i]? = some (some j)
 eqm : ∀ (i j : Nat), M[i]? = some (some j) → ns[j]? = ns[i]?
structure SewOk (N : Nat) (F : List Nat) (M : List (Option Nat)) : Prop where
 len : M.length = N
 nd : F.Nodup
 free : ∀ f ∈ F, f < N ∧ M[f]? = some none
 inv : ∀ (i j : Nat), M[i]? = some (some j) → M[j]? = some (some i) ∧ i ≠ j
theorem SewOk.start (N : Nat) : SewOk N (List.range N) (List.replicate N none) := by
 refine ⟨by simp, List.nodup_range, fun f hf => ?_, fun i j h => ?_⟩
 ·have h := List.mem_range.mp hf
  exact ⟨h, by rw [List.getElem?_replicate, if_pos h]⟩
 ·rw [List.getElem?_replicate] at h
  split at h <;> cases h
theorem SewOk.skip {N : Nat} {one : Nat} {F : List Nat} {M : List (Option Nat)} (h : SewOk N (one :: F) M) : SewOk N F M :=
 ⟨h.len, (List.nodup_cons.mp h.nd).2, fun f hf => h.free f (List.mem_cons_of_mem _ hf), h.inv⟩
theorem SewOk.pair {N : Nat} {one other k : Nat} {F : List Nat} {M : List (Option Nat)} (h : SewOk N (one :: F) M) (hk : F[k]? = some other) : SewOk N (F.eraseIdx k) ((M.set one (some other)).set other (some one)) := by
 obtain ⟨n1, n2⟩ := List.nodup_cons.mp h.nd
 have hm : other ∈ F := List.mem_of_getElem? hk
 have hne : one ≠ other := fun z => n1 (z ▸ hm)
 obtain ⟨h1, f1⟩ := h.free one List.mem_cons_self
 obtain ⟨h2, f2⟩ := h.free other (List.mem_cons_of_mem _ hm)
 have l1 : one < M.length := by rw [h.len]; exact h1
 have l2 : other < M.length := by rw [h.len]; exact h2
 have g1 : ((M.set one (some other)).set other (some one))[one]? = some (some other) := by
  rw [List.getElem?_set_ne (Ne.symm hne), List.getElem?_set_self l1]
 have g2 : ((M.set one (some other)).set other (some one))[other]? = some (some one) := by
  rw [List.getElem?_set_self (by rw [List.length_set]; exact l2)]
 have g3 : ∀ i, i ≠ one → i ≠ other → ((M.set one (some other)).set other (some one))[i]? = M[i]? := fun i a b => by
  rw [List.getElem?_set_ne (Ne.symm b), List.getElem?_set_ne (Ne.symm a)]
 refine ⟨by rw [List.length_set, List.length_set]; exact h.len, n2.sublist (List.eraseIdx_sublist F k), fun f hf => ?_, fun i j e => ?_⟩
 ·obtain ⟨i, hi, hik, e⟩ := List.mem_eraseIdx_iff_getElem.mp hf
  have fm : f ∈ F := e ▸ List.getElem_mem hi
  obtain ⟨a, b⟩ := h.free f (List.mem_cons_of_mem _ fm)
  have c1 : f ≠ one := fun z => n1 (z ▸ fm)
  have c2 : f ≠ other := fun z => by
   obtain ⟨hk', ek⟩ := List.getElem?_eq_some_iff.mp hk
   exact hik ((List.getElem_inj n2).mp (e.trans (z.trans ek.symm)))
  exact ⟨a, by rw [g3 f c1 c2]; exact b⟩
 ·by_cases c1 : i = one
  ·subst c1
   rw [g1] at e
   cases e
   exact ⟨g2, hne⟩
  ·by_cases c2 : i = other
   ·subst c2
    rw [g2] at e
    cases e
    exact ⟨g1, Ne.symm hne⟩
   ·rw [g3 i c1 c2] at e
    obtain ⟨a, b⟩ := h.inv i j e
    have d1 : j ≠ one := fun z => by rw [z, f1] at a; cases a
    have d2 : j ≠ other := fun z => by rw [z, f2] at a; cases a
    exact ⟨by rw [g3 j d1 d2]; exact a, b⟩
def nm (s t : Int) (i : Nat) : Int := (s + t * i) % 10000
def rep (M : List (Option Nat)) (i : Nat) : Nat := match M[i]? with
 | some (some j) => if j < i then j else i
 | _ => i
def flat (M : List (Option Nat)) (s t : Int) : List Int := (List.range M.length).map fun i => nm s t (rep M i)
def steps : List Int := [1, 3, 7, 9, 37, 1009, 3333, 9999]
theorem nm_inj {s t : Int} (ht : t ∈ steps) {i j : Nat} (hi : i < 42) (hj : j < 42) (h : nm s t i = nm s t j) : i = j := by
 unfold nm at h
 simp only [steps, List.mem_cons, List.not_mem_nil, or_false] at ht
 rcases ht with rfl | rfl | rfl | rfl | rfl | rfl | rfl | rfl <;> omega
theorem rep_lt {M : List (Option Nat)} {i N : Nat} (h : i < N) : rep M i < N := by
 unfold rep
 split
 ·split <;> omega
 ·exact h
theorem rep_cases (M : List (Option Nat)) (i : Nat) : rep M i = i ∨ (∃ j, M[i]? = some (some j) ∧ j < i ∧ rep M i = j) := by
 cases e : M[i]? with
 | none => exact .inl (by unfold rep; rw [e])
 | some o =>
  cases o with
  | none => exact .inl (by unfold rep; rw [e])
  | some j =>
   by_cases h : j < i
   ·exact .inr ⟨j, rfl, h, by unfold rep; rw [e]; exact if_pos h⟩
   ·exact .inl (by unfold rep; rw [e]; exact if_neg h)
theorem flat_get {M : List (Option Nat)} {s t : Int} {i : Nat} {x : Int} (h : (flat M s t)[i]? = some x) : i < M.length ∧ x = nm s t (rep M i) := by
 unfold flat at h
 rw [List.getElem?_map] at h
 by_cases hi : i < M.length
 ·rw [List.getElem?_range hi] at h
  exact ⟨hi, (Option.some.inj h).symm⟩
 ·rw [List.getElem?_eq_none (by simpa using hi)] at h
  cases h
theorem flat_at {M : List (Option Nat)} {s t : Int} {i : Nat} (hi : i < M.length) : (flat M s t)[i]? = some (nm s t (rep M i)) := by
 unfold flat
 rw [List.getElem?_map, List.getElem?_range hi]
 rfl
theorem td_flat {M : List (Option Nat)} {s t : Int} {n : Nat} (h1 : 1 ≤ n) (h2 : n ≤ 14) (hM : M.length = 3 * n) (hinv : ∀ (i j : Nat), M[i]? = some (some j) → M[j]? = some (some i) ∧ i ≠ j) (ht : t ∈ steps) : TD M (flat M s t) where
 n := ⟨n, h1, by omega, hM⟩
 len := by unfold flat; simp
 inv := hinv
 rng := fun i x h => by
  obtain ⟨_, rfl⟩ := flat_get h
  unfold nm
  omega
 eqv := fun i j x hi hj => by
  obtain ⟨li, ei⟩ := flat_get hi
  obtain ⟨lj, ej⟩ := flat_get hj
  have e : rep M i = rep M j := nm_inj ht (by have := rep_lt (M := M) li; omega) (by have := rep_lt (M := M) lj; omega) (ei.symm.trans ej)
  rcases rep_cases M i with a | ⟨a, ha, la, ra⟩
  ·rcases rep_cases M j with b | ⟨b, hb, lb, rb⟩
   ·exact .inl (a.symm.trans (e.trans b))
   ·have : b = i := by rw [← rb, ← e, a]
    subst this
    exact .inr (hinv j b hb).1
  ·rcases rep_cases M j with b | ⟨b, hb, lb, rb⟩
   ·have : a = j := by rw [← ra, e, b]
    subst this
    exact .inr ha
   ·have : a = b := by rw [← ra, e, rb]
    subst this
    have c1 := (hinv i a ha).1
    have c2 := (hinv j a hb).1
    rw [c1] at c2
    exact .inl (by cases c2; rfl)
 eqm := fun i j h => by
  obtain ⟨h', hne⟩ := hinv i j h
  have li : i < M.length := (List.getElem?_eq_some_iff.mp h).1
  have lj : j < M.length := (List.getElem?_eq_some_iff.mp h').1
  rw [flat_at li, flat_at lj]
  have e : rep M j = rep M i := by
   by_cases c : j < i
   ·have a : rep M i = j := by unfold rep; rw [h]; exact if_pos c
    have b : rep M j = j := by unfold rep; rw [h']; exact if_neg (by omega)
    rw [a, b]
   ·have a : rep M i = i := by unfold rep; rw [h]; exact if_neg c
    have b : rep M j = i := by unfold rep; rw [h']; exact if_pos (by omega)
    rw [a, b]
  rw [e]
end KT
set_option maxHeartbeats 4000000
namespace KT
open PySem L2
def pl (ns : List Int) (n : Nat) (x : Int) : List Nat := (List.range n).filter fun i => decide (ns[i]? = some x)
def keys (ns : List Int) : Nat → List Int
 | 0 => []
 | n + 1 => match ns[n]? with
  | some x => if x ∈ keys ns n then keys ns n else keys ns n ++ [x]
  | none => keys ns n
theorem pl_mem {ns : List Int} {n : Nat} {x : Int} {i : Nat} : i ∈ pl ns n x ↔ i < n ∧ ns[i]? = some x := by
 unfold pl
 rw [List.mem_filter, List.mem_range]
 simp
theorem pl_nodup (ns : List Int) (n : Nat) (x : Int) : (pl ns n x).Nodup := (List.nodup_range).sublist List.filter_sublist
theorem pl_sorted (ns : List Int) (n : Nat) (x : Int) : (pl ns n x).Pairwise (· < ·) := (List.pairwise_lt_range).sublist List.filter_sublist
theorem pl_same {ns : List Int} {n : Nat} {x : Int} (h : ns[n]? = some x) : pl ns (n + 1) x = pl ns n x ++ [n] := by
 unfold pl
 rw [List.range_succ, List.filter_append]
 congr 1
 simp [h]
theorem pl_other {ns : List Int} {n : Nat} {x : Int} (h : ns[n]? ≠ some x) : pl ns (n + 1) x = pl ns n x := by
 unfold pl
 rw [List.range_succ, List.filter_append]
 simp [h]
theorem keys_step {ns : List Int} {n : Nat} {x : Int} (h : ns[n]? = some x) : keys ns (n + 1) = if x ∈ keys ns n then keys ns n else keys ns n ++ [x] := by
 show (match ns[n]? with | some x => if x ∈ keys ns n then keys ns n else keys ns n ++ [x] | none => keys ns n) = _
 rw [h]
theorem keys_mem {ns : List Int} : ∀ {n : Nat} {x : Int}, x ∈ keys ns n ↔ ∃ i, i < n ∧ ns[i]? = some x
 | 0, x => by simp [keys]
 | n + 1, x => by
  have ih := keys_mem (ns := ns) (n := n) (x := x)
  have e : x ∈ keys ns (n + 1) ↔ x ∈ keys ns n ∨ ns[n]? = some x := by
   cases h : ns[n]? with
   | none =>
    have : keys ns (n + 1) = keys ns n := by
     show (match ns[n]? with | some x => if x ∈ keys ns n then keys ns n else keys ns n ++ [x] | none => keys ns n) = _
     rw [h]
    rw [this]; simp
   | some y =>
    rw [keys_step h]
    split
    ·constructor
     ·exact .inl
     ·rintro (z | z)
      ·exact z
      ·cases z; assumption
    ·rw [List.mem_append, List.mem_singleton]
     constructor
     ·rintro (z | z)
      ·exact .inl z
      ·exact .inr (by rw [z])
     ·rintro (z | z)
      ·exact .inl z
      ·exact .inr (by cases z; rfl)
  rw [e, ih]
  constructor
  ·rintro (⟨i, h1, h2⟩ | h)
   ·exact ⟨i, by omega, h2⟩
   ·exact ⟨n, by omega, h⟩
  ·rintro ⟨i, h1, h2⟩
   by_cases c : i = n
   ·subst c; exact .inr h2
   ·exact .inl ⟨i, by omega, h2⟩
theorem keys_nodup (ns : List Int) : ∀ n, (keys ns n).Nodup
 | 0 => List.nodup_nil
 | n + 1 => by
  have ih := keys_nodup ns n
  cases h : ns[n]? with
  | none =>
   have : keys ns (n + 1) = keys ns n := by
    show (match ns[n]? with | some x => if x ∈ keys ns n then keys ns n else keys ns n ++ [x] | none => keys ns n) = _
    rw [h]
   rw [this]; exact ih
  | some y =>
   rw [keys_step h]
   split
   ·exact ih
   ·rename_i c
    refine List.nodup_append.mpr ⟨ih, by simp, fun a ha b hb => ?_⟩
    rw [List.mem_singleton] at hb
    subst hb
    rintro rfl
    exact c ha
theorem keys_len (ns : List Int) : ∀ n, (keys ns n).length ≤ n
 | 0 => Nat.le_refl _
 | n + 1 => by
  have ih := keys_len ns n
  cases h : ns[n]? with
  | none =>
   have : keys ns (n + 1) = keys ns n := by
    show (match ns[n]? with | some x => if x ∈ keys ns n then keys ns n else keys ns n ++ [x] | none => keys ns n) = _
    rw [h]
   rw [this]; omega
  | some y =>
   rw [keys_step h]
   split
   ·omega
   ·rw [List.length_append, List.length_singleton]; omega
theorem pl_nil {ns : List Int} {n : Nat} {x : Int} (h : x ∉ keys ns n) : pl ns n x = [] := by
 cases e : pl ns n x with
 | nil => rfl
 | cons a r =>
  have : a ∈ pl ns n x := by rw [e]; exact List.mem_cons_self
  obtain ⟨h1, h2⟩ := pl_mem.mp this
  exact absurd (keys_mem.mpr ⟨a, h1, h2⟩) h
theorem pl_le2 {M : List (Option Nat)} {ns : List Int} (td : TD M ns) (n : Nat) (x : Int) : (pl ns n x).length ≤ 2 := by
 match e : pl ns n x with
 | [] => simp
 | [_] => simp
 | [_, _] => simp
 | a :: b :: c :: r =>
  exfalso
  have nd := pl_nodup ns n x
  rw [e] at nd
  have ha := (pl_mem.mp (show a ∈ pl ns n x by rw [e]; simp)).2
  have hb := (pl_mem.mp (show b ∈ pl ns n x by rw [e]; simp)).2
  have hc := (pl_mem.mp (show c ∈ pl ns n x by rw [e]; simp)).2
  simp only [List.nodup_cons, List.mem_cons, not_or] at nd
  obtain ⟨⟨n1, n2, _⟩, ⟨n3, _⟩, _⟩ := nd
  rcases td.eqv a b x ha hb with z | z
  ·exact n1 z
  ·rcases td.eqv a c x ha hc with y | y
   ·exact n2 y
   ·rw [z] at y
    cases y
    exact n3 rfl
theorem pl_cases {M : List (Option Nat)} {ns : List Int} (td : TD M ns) {x : Int} (hx : x ∈ keys ns ns.length) :
  (∃ a, pl ns ns.length x = [a] ∧ ns[a]? = some x ∧ M[a]? = some none) ∨ (∃ a b, a < b ∧ pl ns ns.length x = [a, b] ∧ ns[a]? = some x ∧ ns[b]? = some x ∧ M[a]? = some (some b) ∧ M[b]? = some (some a)) := by
 obtain ⟨i, h1, h2⟩ := keys_mem.mp hx
 have mi : i ∈ pl ns ns.length x := pl_mem.mpr ⟨h1, h2⟩
 have l2 := pl_le2 td ns.length x
 have st := pl_sorted ns ns.length x
 match e : pl ns ns.length x with
 | [] => rw [e] at mi; simp at mi
 | [a] =>
  obtain ⟨ga, ha⟩ := pl_mem.mp (show a ∈ pl ns ns.length x by rw [e]; simp)
  refine .inl ⟨a, rfl, ha, ?_⟩
  have la : a < M.length := by rw [← td.len]; exact ga
  cases q : M[a]? with
  | none => rw [List.getElem?_eq_none_iff] at q; omega
  | some o =>
   cases o with
   | none => rfl
   | some b =>
    exfalso
    have hb : ns[b]? = some x := by rw [td.eqm a b q]; exact ha
    have mb : b ∈ pl ns ns.length x := pl_mem.mpr ⟨(List.getElem?_eq_some_iff.mp hb).1, hb⟩
    rw [e, List.mem_singleton] at mb
    exact (td.inv a b q).2 mb.symm
 | [a, b] =>
  obtain ⟨ga, ha⟩ := pl_mem.mp (show a ∈ pl ns ns.length x by rw [e]; simp)
  obtain ⟨gb, hb⟩ := pl_mem.mp (show b ∈ pl ns ns.length x by rw [e]; simp)
  rw [e] at st
  have hab : a < b := by simpa using st
  rcases td.eqv a b x ha hb with z | z
  ·omega
  ·exact .inr ⟨a, b, hab, rfl, ha, hb, z, (td.inv a b z).1⟩
 | a :: b :: c :: r => rw [e] at l2; simp at l2
def part (M : List (Option Nat)) (ns : List Int) (ks : List Int) : List (Option Nat) := (List.range M.length).map fun i => match ns[i]? with
 | some x => if x ∈ ks then M.getD i none else none
 | none => none
theorem part_len (M : List (Option Nat)) (ns ks : List Int) : (part M ns ks).length = M.length := by unfold part; simp
theorem part_get {M : List (Option Nat)} {ns ks : List Int} (td : TD M ns) {i : Nat} {x : Int} (h : ns[i]? = some x) : (part M ns ks)[i]? = some (if x ∈ ks then M.getD i none else none) := by
 have li : i < M.length := by rw [← td.len]; exact (List.getElem?_eq_some_iff.mp h).1
 unfold part
 rw [List.getElem?_map, List.getElem?_range li]
 simp [h]
theorem part_nil {M : List (Option Nat)} {ns : List Int} (td : TD M ns) : part M ns [] = List.replicate M.length none := by
 apply List.ext_getElem?
 intro i
 by_cases li : i < M.length
 ·obtain ⟨x, hx⟩ : ∃ x, ns[i]? = some x := ⟨_, List.getElem?_eq_getElem (by rw [td.len]; exact li)⟩
  rw [part_get td hx, List.getElem?_replicate, if_pos li]
  simp
 ·rw [List.getElem?_eq_none (by rw [part_len]; omega), List.getElem?_eq_none (by simp; omega)]
theorem part_all {M : List (Option Nat)} {ns : List Int} (td : TD M ns) : part M ns (keys ns ns.length) = M := by
 apply List.ext_getElem?
 intro i
 by_cases li : i < M.length
 ·have ln : i < ns.length := by rw [td.len]; exact li
  obtain ⟨x, hx⟩ : ∃ x, ns[i]? = some x := ⟨_, List.getElem?_eq_getElem ln⟩
  rw [part_get td hx, if_pos (keys_mem.mpr ⟨i, ln, hx⟩), List.getD_eq_getElem?_getD, List.getElem?_eq_getElem li]
  rfl
 ·rw [List.getElem?_eq_none (by rw [part_len]; omega), List.getElem?_eq_none (by omega)]
theorem part_rim {M : List (Option Nat)} {ns ks : List Int} (td : TD M ns) {x : Int} {a : Nat} (hp : pl ns ns.length x = [a]) (hm : M[a]? = some none) : part M ns (ks ++ [x]) = part M ns ks := by
 apply List.ext_getElem?
 intro i
 by_cases li : i < M.length
 ·have ln : i < ns.length := by rw [td.len]; exact li
  obtain ⟨y, hy⟩ : ∃ x, ns[i]? = some x := ⟨_, List.getElem?_eq_getElem ln⟩
  rw [part_get td hy, part_get td hy]
  by_cases c : y = x
  ·subst c
   have : i ∈ pl ns ns.length y := pl_mem.mpr ⟨ln, hy⟩
   rw [hp, List.mem_singleton] at this
   subst this
   have : M.getD i none = none := by rw [List.getD_eq_getElem?_getD, hm]; rfl
   rw [this]
   simp
  ·simp [c]
 ·rw [List.getElem?_eq_none (by rw [part_len]; omega), List.getElem?_eq_none (by rw [part_len]; omega)]
theorem part_sewn {M : List (Option Nat)} {ns ks : List Int} (td : TD M ns) {x : Int} {a b : Nat} (hp : pl ns ns.length x = [a, b]) (hab : a < b) (ha : M[a]? = some (some b)) (hb : M[b]? = some (some a)) :
  part M ns (ks ++ [x]) = ((part M ns ks).set a (some b)).set b (some a) := by
 have la : a < M.length := (List.getElem?_eq_some_iff.mp ha).1
 have lb : b < M.length := (List.getElem?_eq_some_iff.mp hb).1
 have na := (pl_mem.mp (show a ∈ pl ns ns.length x by rw [hp]; simp)).2
 have nb := (pl_mem.mp (show b ∈ pl ns ns.length x by rw [hp]; simp)).2
 apply List.ext_getElem?
 intro i
 by_cases li : i < M.length
 ·have ln : i < ns.length := by rw [td.len]; exact li
  obtain ⟨y, hy⟩ : ∃ x, ns[i]? = some x := ⟨_, List.getElem?_eq_getElem ln⟩
  rw [part_get td hy]
  by_cases cb : i = b
  ·subst cb
   rw [nb] at hy; cases hy
   rw [List.getElem?_set_self (by rw [List.length_set, part_len]; exact lb), if_pos (by simp), List.getD_eq_getElem?_getD, hb]
   rfl
  ·rw [List.getElem?_set_ne (Ne.symm cb)]
   by_cases ca : i = a
   ·subst ca
    rw [na] at hy; cases hy
    rw [List.getElem?_set_self (by rw [part_len]; exact la), if_pos (by simp), List.getD_eq_getElem?_getD, ha]
    rfl
   ·rw [List.getElem?_set_ne (Ne.symm ca), part_get td hy]
    have : y ≠ x := by
     rintro rfl
     have : i ∈ pl ns ns.length y := pl_mem.mpr ⟨ln, hy⟩
     rw [hp] at this
     simp at this
     omega
    simp [this]
 ·rw [List.getElem?_eq_none (by rw [part_len]; omega), List.getElem?_eq_none (by rw [List.length_set, List.length_set, part_len]; omega)]
end KT
set_option maxHeartbeats 4000000
namespace KT
open PySem L2
def nV (i : Nat) : V := .int (i : Int)
theorem val_map {g : Int → V} {y : Int} : ∀ {ks : List Int}, valV (ks.map fun x => ((Sum.inl x : Key), g x)) (Sum.inl y) = if y ∈ ks then some (g y) else none
 | [] => by simp [valV]
 | k :: r => by
  have ih := val_map (g := g) (y := y) (ks := r)
  unfold valV at ih ⊢
  rw [List.map_cons, List.find?_cons]
  by_cases c : k = y
  ·subst c
   simp
  ·have : (decide ((Sum.inl k : Key) = Sum.inl y)) = false := by
    rw [decide_eq_false_iff_not]
    intro z
    cases z
    exact c rfl
   simp only [this]
   rw [ih]
   have : (y ∈ k :: r) ↔ y ∈ r := by
    rw [List.mem_cons]
    exact ⟨fun z => z.elim (fun w => absurd w.symm c) id, .inr⟩
   simp only [this]
theorem put_new {g : Int → V} {y : Int} {v : V} {ks : List Int} (h : y ∉ ks) : putK (ks.map fun x => ((Sum.inl x : Key), g x)) (Sum.inl y) v = (ks.map fun x => ((Sum.inl x : Key), g x)) ++ [(Sum.inl y, v)] := by
 unfold putK
 rw [if_neg]
 intro z
 rw [List.any_eq_true] at z
 obtain ⟨kv, h1, h2⟩ := z
 obtain ⟨x, hx, rfl⟩ := List.mem_map.mp h1
 have : (Sum.inl x : Key) = Sum.inl y := of_decide_eq_true h2
 cases this
 exact h hx
theorem put_old {g : Int → V} {y : Int} {v : V} {ks : List Int} (h : y ∈ ks) : putK (ks.map fun x => ((Sum.inl x : Key), g x)) (Sum.inl y) v = ks.map fun x => ((Sum.inl x : Key), if x = y then v else g x) := by
 unfold putK
 rw [if_pos]
 ·rw [List.map_map]
  apply List.map_congr_left
  intro x hx
  show (if (Sum.inl x : Key) = Sum.inl y then ((Sum.inl x : Key), v) else (Sum.inl x, g x)) = _
  by_cases c : x = y
  ·subst c; simp
  ·rw [if_neg (fun z => by cases z; exact c rfl), if_neg c]
 ·rw [List.any_eq_true]
  exact ⟨_, List.mem_map.mpr ⟨y, h, rfl⟩, by simp⟩
theorem map_at {α : Type} {f : α → V} {l : List α} {i : Nat} {x : α} (h : l[i]? = some x) : atI (l.map f) (i : Int) = some (f x) := atI_nat (by rw [List.getElem?_map, h]; rfl)
theorem upd_none {H : Hp} {p q : Addr} {o : HO} (h : upd H p o q = none) : q ≠ p ∧ H q = none := by
 by_cases c : q = p
 ·subst c; rw [upd_same] at h; cases h
 ·rw [upd_ne c] at h; exact ⟨c, h⟩
end KT
set_option maxHeartbeats 4000000
namespace KT
open PySem L2
def after (p : Int) : Int := if p % 3 = 2 then p - 2 else p + 1
def before (p : Int) : Int := if p % 3 = 0 then p + 2 else p - 1
def fourL (left : Bool) (a b : Nat) : List Int := if left then [after a, before b, after b, before a] else [after a, before a, after b, before b]
def mvI (left : Bool) (a b : Nat) (z : Int) : Int :=
 if z = after a then (if left then before b else before a) else if z = before b then (if left then after b else after a) else if z = after b then (if left then before a else before b) else if z = before a then (if left then after a else after b) else z
def glV (left : Bool) (a b : Nat) : List (Key × V) := (fourL left a b).map fun x => ((Sum.inl x : Key), V.int (mvI left a b x))
theorem after_div (p : Nat) : after p / 3 = (p : Int) / 3 ∧ after p ≠ p ∧ 0 ≤ after p := by unfold after; split <;> omega
theorem before_div (p : Nat) : before p / 3 = (p : Int) / 3 ∧ before p ≠ p ∧ 0 ≤ before p := by unfold before; split <;> omega
theorem after_before (p : Nat) : after p ≠ before p := by unfold after before; split <;> split <;> omega
theorem four_apart {a b : Nat} (h : a / 3 ≠ b / 3) : after a ≠ before a ∧ after a ≠ after b ∧ after a ≠ before b ∧ before a ≠ after b ∧ before a ≠ before b ∧ after b ≠ before b := by
 obtain ⟨h1, _, _⟩ := after_div a
 obtain ⟨h2, _, _⟩ := before_div a
 obtain ⟨h3, _, _⟩ := after_div b
 obtain ⟨h4, _, _⟩ := before_div b
 have e : ¬ (a : Int) / 3 = (b : Int) / 3 := by omega
 refine ⟨after_before a, fun z => e ?_, fun z => e ?_, fun z => e ?_, fun z => e ?_, after_before b⟩
 ·rw [← h1, ← h3, z]
 ·rw [← h1, ← h4, z]
 ·rw [← h2, ← h3, z]
 ·rw [← h2, ← h4, z]
theorem mergeK_app : ∀ (kvs acc : List (Key × V)), ((acc ++ kvs).map (·.1)).Nodup → mergeK acc kvs = acc ++ kvs
 | [], acc, _ => by simp [mergeK]
 | kv :: r, acc, h => by
  have h1 : (acc.any fun x => decide (x.1 = kv.1)) = false := by
   rw [List.any_eq_false]
   intro x hx z
   have z : x.1 = kv.1 := of_decide_eq_true z
   rw [List.map_append, List.map_cons] at h
   have := (List.nodup_append.mp h).2.2 x.1 (List.mem_map.mpr ⟨x, hx, rfl⟩) kv.1 List.mem_cons_self
   exact this z
  have h2 : putK acc kv.1 kv.2 = acc ++ [kv] := by
   unfold putK
   rw [if_neg (by rw [h1]; decide)]
  show mergeK (putK acc kv.1 kv.2) r = _
  rw [h2, mergeK_app r (acc ++ [kv]) (by simpa using h)]
  simp
theorem merge_gl {left : Bool} {a b : Nat} (h : a / 3 ≠ b / 3) : mergeK [] (glV left a b) = glV left a b := by
 obtain ⟨h1, h2, h3, h4, h5, h6⟩ := four_apart h
 refine mergeK_app (glV left a b) [] ?_
 unfold glV fourL
 rw [List.nil_append, List.map_map]
 cases left <;> simp [h1, h2, h3, h4, h5, h6, Ne.symm h1, Ne.symm h2, Ne.symm h3, Ne.symm h4, Ne.symm h5, Ne.symm h6]
theorem glV_left {a b : Nat} (h : a / 3 ≠ b / 3) : glV true a b = [(Sum.inl (after a), .int (before b)), (Sum.inl (before b), .int (after b)), (Sum.inl (after b), .int (before a)), (Sum.inl (before a), .int (after a))] := by
 obtain ⟨h1, h2, h3, h4, h5, h6⟩ := four_apart h
 unfold glV fourL mvI
 simp [h1, h2, h3, h4, h5, h6, Ne.symm h1, Ne.symm h2, Ne.symm h3, Ne.symm h4, Ne.symm h5, Ne.symm h6]
theorem glV_right {a b : Nat} (h : a / 3 ≠ b / 3) : glV false a b = [(Sum.inl (after a), .int (before a)), (Sum.inl (before a), .int (after b)), (Sum.inl (after b), .int (before b)), (Sum.inl (before b), .int (after a))] := by
 obtain ⟨h1, h2, h3, h4, h5, h6⟩ := four_apart h
 unfold glV fourL mvI
 simp [h1, h2, h3, h4, h5, h6, Ne.symm h1, Ne.symm h2, Ne.symm h3, Ne.symm h4, Ne.symm h5, Ne.symm h6]
theorem val_gl {left : Bool} {a b : Nat} {z : Int} : (valV (glV left a b) (Sum.inl z)).getD (V.int z) = V.int (mvI left a b z) := by
 unfold glV
 rw [val_map]
 by_cases c : z ∈ fourL left a b
 ·rw [if_pos c]; rfl
 ·rw [if_neg c]
  have : mvI left a b z = z := by
   unfold mvI
   have n1 : ¬ z = after a := fun e => c (by unfold fourL; split <;> simp [e])
   have n2 : ¬ z = before b := fun e => c (by unfold fourL; split <;> simp [e])
   have n3 : ¬ z = after b := fun e => c (by unfold fourL; split <;> simp [e])
   have n4 : ¬ z = before a := fun e => c (by unfold fourL; split <;> simp [e])
   rw [if_neg n1, if_neg n2, if_neg n3, if_neg n4]
  rw [this]
  rfl
end KT
set_option maxHeartbeats 4000000
namespace KT
open PySem L2
theorem mv_cases (left : Bool) (i j : Nat) (z : Int) : mvI left i j z = z ∨ mvI left i j z = after i ∨ mvI left i j z = before i ∨ mvI left i j z = after j ∨ mvI left i j z = before j := by
 unfold mvI
 by_cases c1 : z = after i
 ·cases left <;> simp [c1]
 ·by_cases c2 : z = before j
  ·rw [if_neg c1, if_pos c2]; cases left <;> simp
  ·by_cases c3 : z = after j
   ·rw [if_neg c1, if_neg c2, if_pos c3]; cases left <;> simp
   ·by_cases c4 : z = before i
    ·rw [if_neg c1, if_neg c2, if_neg c3, if_pos c4]; cases left <;> simp
    ·rw [if_neg c1, if_neg c2, if_neg c3, if_neg c4]; exact .inl rfl
def mvN (left : Bool) (i j z : Nat) : Nat := (mvI left i j z).toNat
theorem mv_nonneg (left : Bool) (i j z : Nat) : 0 ≤ mvI left i j z := by
 have h1 := (after_div i).2.2
 have h2 := (before_div i).2.2
 have h3 := (after_div j).2.2
 have h4 := (before_div j).2.2
 rcases mv_cases left i j z with e | e | e | e | e <;> rw [e] <;> omega
theorem mvN_eq (left : Bool) (i j z : Nat) : ((mvN left i j z : Nat) : Int) = mvI left i j z := Int.toNat_of_nonneg (mv_nonneg left i j z)
end KT
set_option maxHeartbeats 4000000
namespace KT
open PySem L2
def side (p k : Nat) : Nat := p - p % 3 + (p + k) % 3
theorem side_lt {p k n : Nat} (h : p < 3 * n) : side p k < 3 * n := by unfold side; omega
theorem side_div (p k : Nat) : side p k / 3 = p / 3 := by unfold side; omega
end KT
set_option maxHeartbeats 4000000
namespace KT
open PySem L2
def crossB (M : List (Option Nat)) (p : Int) : Bool := decide (0 ≤ p ∧ p < M.length) && (M.getD p.toNat none).isSome
def followB (M : List (Option Nat)) (a p : Int) : Bool := match M.getD a.toNat none with
 | some m => decide (p / 3 = (m : Int) / 3) && !decide (p = (m : Int))
 | none => false
def rot {α : Type} (ws : List α) (s : Nat) : List α := ws.drop s ++ ws.take s
def pairB (M : List (Option Nat)) (ws vs : List Int) : List Bool := (ws.zip vs).map fun p => followB M p.1 p.2
def plainB (M : List (Option Nat)) (ws : List Int) : Bool := !ws.isEmpty && ((ws.map (crossB M)).all id && (pairB M ws (rot ws (1 % ws.length))).all id)
theorem rot_len {α : Type} (ws : List α) {s : Nat} (h : s ≤ ws.length) : (rot ws s).length = ws.length := by
 unfold rot
 rw [List.length_append, List.length_drop, List.length_take]
 omega
theorem rot_zero {α : Type} (ws : List α) : rot ws 0 = ws := by unfold rot; simp
theorem rot_get {α : Type} {ws : List α} {s k : Nat} (hs : s < ws.length) (hk : k < ws.length) : (rot ws s)[k]? = ws[(k + s) % ws.length]? := by
 unfold rot
 by_cases c : k < ws.length - s
 ·rw [List.getElem?_append_left (by rw [List.length_drop]; exact c), List.getElem?_drop, Nat.mod_eq_of_lt (by omega), Nat.add_comm]
 ·rw [List.getElem?_append_right (by rw [List.length_drop]; omega), List.length_drop, List.getElem?_take_of_lt (by omega)]
  have : (k + s) % ws.length = k - (ws.length - s) := by
   rw [show k + s = (k - (ws.length - s)) + ws.length by omega, Nat.add_mod_right, Nat.mod_eq_of_lt (by omega)]
  rw [this]
structure Pl (M : List (Option Nat)) (ws : List Nat) : Prop where
 ne : ws ≠ []
 has : ∀ p ∈ ws, ∃ m, M[p]? = some (some m)
 nxt : ∀ (k : Nat) (a p : Nat), ws[k]? = some a → ws[(k + 1) % ws.length]? = some p → ∀ m, M[a]? = some (some m) → p / 3 = m / 3 ∧ p ≠ m
abbrev wI (ws : List Nat) : List Int := ws.map fun (x : Nat) => (x : Int)
theorem cross_nat {M : List (Option Nat)} {p : Nat} : crossB M (p : Int) = true ↔ ∃ m, M[p]? = some (some m) := by
 unfold crossB
 rw [Bool.and_eq_true, decide_eq_true_eq, Int.toNat_natCast]
 constructor
 ·rintro ⟨⟨_, h1⟩, h2⟩
  have h1 : p < M.length := by omega
  rw [List.getD_eq_getElem?_getD, List.getElem?_eq_getElem h1] at h2
  obtain ⟨m, hm⟩ := Option.isSome_iff_exists.mp h2
  exact ⟨m, by rw [List.getElem?_eq_getElem h1]; exact congrArg some hm⟩
 ·rintro ⟨m, hm⟩
  have h1 : p < M.length := (List.getElem?_eq_some_iff.mp hm).1
  exact ⟨⟨by omega, by omega⟩, by rw [List.getD_eq_getElem?_getD, hm]; rfl⟩
theorem follow_nat {M : List (Option Nat)} {a p m : Nat} (h : M[a]? = some (some m)) : followB M (a : Int) (p : Int) = true ↔ p / 3 = m / 3 ∧ p ≠ m := by
 unfold followB
 rw [Int.toNat_natCast, List.getD_eq_getElem?_getD, h]
 show (decide ((p : Int) / 3 = (m : Int) / 3) && !decide ((p : Int) = (m : Int))) = true ↔ _
 rw [Bool.and_eq_true, decide_eq_true_eq, Bool.not_eq_true', decide_eq_false_iff_not]
 omega
theorem zip_all {M : List (Option Nat)} {ws vs : List Int} (hl : ws.length = vs.length) : (pairB M ws vs).all id = true ↔ ∀ (k : Nat) (a p : Int), ws[k]? = some a → vs[k]? = some p → followB M a p = true := by
 unfold pairB
 rw [List.all_eq_true]
 constructor
 ·intro h k a p ha hp
  refine h (followB M a p) (List.mem_map.mpr ⟨(a, p), ?_, rfl⟩)
  exact List.mem_of_getElem? (i := k) (by rw [List.getElem?_zip_eq_some]; exact ⟨ha, hp⟩)
 ·intro h b hb
  obtain ⟨⟨a, p⟩, hm, rfl⟩ := List.mem_map.mp hb
  obtain ⟨k, hk⟩ := List.getElem?_of_mem hm
  rw [List.getElem?_zip_eq_some] at hk
  exact h k a p hk.1 hk.2
theorem plain_iff {M : List (Option Nat)} {ws : List Nat} : plainB M (wI ws) = true ↔ Pl M ws := by
 have hl : (wI ws).length = ws.length := by simp
 unfold plainB
 rw [Bool.and_eq_true, Bool.and_eq_true, Bool.not_eq_true', hl]
 constructor
 ·rintro ⟨h0, h1, h2⟩
  have hne : ws ≠ [] := by
   rintro rfl
   cases h0
  have hpos : 0 < ws.length := by cases ws with | nil => exact absurd rfl hne | cons _ _ => simp
  have hh : ∀ p ∈ ws, ∃ m, M[p]? = some (some m) := fun p hp => by
   refine cross_nat.mp (List.all_eq_true.mp h1 _ (List.mem_map.mpr ⟨(p : Int), List.mem_map.mpr ⟨p, hp, rfl⟩, rfl⟩))
  refine ⟨hne, hh, fun k a p ha hp m hm => ?_⟩
  have hs : 1 % ws.length < (wI ws).length := by rw [hl]; exact Nat.mod_lt _ hpos
  have hk : k < (wI ws).length := by rw [hl]; exact (List.getElem?_eq_some_iff.mp ha).1
  refine (follow_nat hm).mp ((zip_all (by rw [rot_len _ (Nat.le_of_lt hs)])).mp h2 k a p (by rw [List.getElem?_map, ha]; rfl) ?_)
  rw [rot_get hs hk, hl, show (k + 1 % ws.length) % ws.length = (k + 1) % ws.length by rw [Nat.add_mod_mod], List.getElem?_map, hp]
  rfl
 ·rintro ⟨h0, h1, h2⟩
  have hpos : 0 < ws.length := by cases ws with | nil => exact absurd rfl h0 | cons _ _ => simp
  have hs : 1 % ws.length < (wI ws).length := by rw [hl]; exact Nat.mod_lt _ hpos
  refine ⟨by cases ws with | nil => exact absurd rfl h0 | cons _ _ => rfl, ?_, ?_⟩
  ·rw [List.all_eq_true]
   intro b hb
   obtain ⟨p', hp', rfl⟩ := List.mem_map.mp hb
   obtain ⟨p, hp, rfl⟩ := List.mem_map.mp hp'
   exact cross_nat.mpr (h1 p hp)
  ·refine (zip_all (by rw [rot_len _ (Nat.le_of_lt hs)])).mpr fun k a p ha hp => ?_
   have hk : k < (wI ws).length := (List.getElem?_eq_some_iff.mp ha).1
   rw [rot_get hs hk, hl, show (k + 1 % ws.length) % ws.length = (k + 1) % ws.length by rw [Nat.add_mod_mod]] at hp
   rw [List.getElem?_map] at ha hp
   cases ea : ws[k]? with
   | none => rw [ea] at ha; cases ha
   | some a' =>
    cases ep : ws[(k + 1) % ws.length]? with
    | none => rw [ep] at hp; cases hp
    | some p' =>
     rw [ea] at ha; cases ha
     rw [ep] at hp; cases hp
     obtain ⟨m, hm⟩ := h1 a' (List.mem_of_getElem? ea)
     exact (follow_nat hm).mpr (h2 k a' p' ea ep m hm)
structure Ch (M : List (Option Nat)) (row : List Nat) : Prop where
 has : ∀ p ∈ row, ∃ m, M[p]? = some (some m)
 nxt : ∀ (k : Nat) (a p m : Nat), row[k]? = some a → row[k + 1]? = some p → M[a]? = some (some m) → p / 3 = m / 3 ∧ p ≠ m
theorem Ch.one {M : List (Option Nat)} {p m : Nat} (h : M[p]? = some (some m)) : Ch M [p] := by
 refine ⟨fun q hq => ?_, fun k a q m' _ hq => ?_⟩
 ·rw [List.mem_singleton] at hq; subst hq; exact ⟨m, h⟩
 ·simp at hq
theorem Ch.snoc {M : List (Option Nat)} {row : List Nat} {a p m : Nat} (h : Ch M row) (hl : row.getLast? = some a) (hm : M[a]? = some (some m)) (h1 : p / 3 = m / 3) (h2 : p ≠ m) (hp : ∃ q, M[p]? = some (some q)) : Ch M (row ++ [p]) := by
 refine ⟨fun q hq => ?_, fun k b q m' hb hq hm' => ?_⟩
 ·rcases List.mem_append.mp hq with z | z
  ·exact h.has q z
  ·rw [List.mem_singleton] at z; subst z; exact hp
 ·by_cases c : k + 1 < row.length
  ·rw [List.getElem?_append_left c] at hq
   rw [List.getElem?_append_left (by omega)] at hb
   exact h.nxt k b q m' hb hq hm'
  ·have hk : k + 1 < (row ++ [p]).length := (List.getElem?_eq_some_iff.mp hq).1
   rw [List.length_append, List.length_singleton] at hk
   have hk : k + 1 = row.length := by omega
   rw [List.getElem?_append_right (by omega), hk] at hq
   have : q = p := by simpa using hq.symm
   subst this
   rw [List.getElem?_append_left (by omega)] at hb
   rw [List.getLast?_eq_getElem?, show row.length - 1 = k by omega, hb] at hl
   cases hl
   rw [hm] at hm'
   cases hm'
   exact ⟨h1, h2⟩
theorem Ch.cut {M : List (Option Nat)} {row : List Nat} {s e a : Nat} (h : Ch M row) (hse : s < e) (h1 : row[s]? = some a) (h2 : row[e]? = some a) : Pl M ((row.drop s).take (e - s)) := by
 have he : e < row.length := (List.getElem?_eq_some_iff.mp h2).1
 have hl : ((row.drop s).take (e - s)).length = e - s := by rw [List.length_take, List.length_drop]; omega
 have gt : ∀ k, k < e - s → ((row.drop s).take (e - s))[k]? = row[s + k]? := fun k hk => by rw [List.getElem?_take_of_lt hk, List.getElem?_drop]
 refine ⟨fun z => by rw [z] at hl; simp at hl; omega, fun p hp => ?_, fun k b p hb hp m hm => ?_⟩
 ·exact h.has p (List.mem_of_mem_drop (List.mem_of_mem_take hp))
 ·rw [hl] at hp
  have hk : k < e - s := by have := (List.getElem?_eq_some_iff.mp hb).1; rw [hl] at this; exact this
  rw [gt k hk] at hb
  by_cases c : k + 1 < e - s
  ·rw [Nat.mod_eq_of_lt c, gt _ c] at hp
   exact h.nxt (s + k) b p m hb (by rw [show s + k + 1 = s + (k + 1) by omega]; exact hp) hm
  ·have hk : k + 1 = e - s := by omega
   rw [hk, Nat.mod_self, gt 0 (by omega), Nat.add_zero, h1] at hp
   cases hp
   exact h.nxt (s + k) b a m hb (by rw [show s + k + 1 = e by omega]; exact h2) hm
end KT
set_option maxHeartbeats 4000000
namespace KT
open PySem L2
section
variable {α : Type}
theorem rot_iff {ws : List α} {s : Nat} (hs : s < ws.length) : rot ws s = ws ↔ ∀ k, k < ws.length → ws[(k + s) % ws.length]? = ws[k]? := by
 constructor
 ·intro h k hk
  rw [← rot_get hs hk, h]
 ·intro h
  apply List.ext_getElem?
  intro k
  by_cases hk : k < ws.length
  ·rw [rot_get hs hk, h k hk]
  ·rw [List.getElem?_eq_none (by rw [rot_len ws (Nat.le_of_lt hs)]; omega), List.getElem?_eq_none (by omega)]
theorem repl_get (l : List α) : ∀ (m k : Nat), k < m * l.length → (List.replicate m l).flatten[k]? = l[k % l.length]?
 | 0, k, h => by simp at h
 | m + 1, k, h => by
  rw [List.replicate_succ, List.flatten_cons]
  by_cases c : k < l.length
  ·rw [List.getElem?_append_left c, Nat.mod_eq_of_lt c]
  ·have hl : 0 < l.length := by
    cases l with
    | nil => simp at h
    | cons _ _ => simp
   rw [List.getElem?_append_right (by omega), repl_get l m (k - l.length) (by rw [Nat.succ_mul] at h; omega)]
   congr 1
   rw [Nat.mod_eq_sub_mod (by omega : k ≥ l.length)]
theorem repl_len (l : List α) (m : Nat) : (List.replicate m l).flatten.length = m * l.length := by
 induction m with
 | zero => simp
 | succ m ih => rw [List.replicate_succ, List.flatten_cons, List.length_append, ih, Nat.succ_mul, Nat.add_comm]
theorem rep_iff {ws : List α} {e c : Nat} (he : 0 < e) (hn : c * e = ws.length) : (List.replicate c (ws.take e)).flatten = ws ↔ ∀ k, k < ws.length → ws[k % e]? = ws[k]? := by
 by_cases hc : c = 0
 ·subst hc
  have : ws = [] := List.length_eq_zero_iff.mp (by omega)
  subst this
  simp
 ·have hle : e ≤ ws.length := by rw [← hn]; exact Nat.le_mul_of_pos_left e (by omega)
  have hl : (ws.take e).length = e := by rw [List.length_take]; omega
  constructor
  ·intro h k hk
   have := repl_get (ws.take e) c k (by rw [hl, hn]; exact hk)
   rw [h, hl, List.getElem?_take_of_lt (Nat.mod_lt _ he)] at this
   exact this.symm
  ·intro h
   apply List.ext_getElem?
   intro k
   by_cases hk : k < ws.length
   ·rw [repl_get _ c k (by rw [hl, hn]; exact hk), hl, List.getElem?_take_of_lt (Nat.mod_lt _ he), h k hk]
   ·rw [List.getElem?_eq_none (by rw [repl_len, hl, hn]; omega), List.getElem?_eq_none (by omega)]
theorem per_mul {ws : List α} {d : Nat} (h : ∀ k, k < ws.length → ws[(k + d) % ws.length]? = ws[k]?) (hp : 0 < ws.length) : ∀ (q k : Nat), ws[(k + q * d) % ws.length]? = ws[k % ws.length]?
 | 0, k => by simp
 | q + 1, k => by
  have ih := per_mul h hp q k
  rw [← ih, ← h ((k + q * d) % ws.length) (Nat.mod_lt _ hp), Nat.mod_add_mod, Nat.succ_mul, Nat.add_assoc]
end
end KT
set_option maxHeartbeats 4000000
namespace L2
open PySem PySem.Spec PyProof.Rows
end L2
set_option maxHeartbeats 4000000
namespace L2
open PySem PySem.Spec PyProof.Rows
end L2
set_option maxHeartbeats 4000000
namespace HL
open PySem PyProof.Rows HT
section
open PySem.SeqAt
open PySem.AutoSeq1 (wpAny_loadPart')
open PySem.MeetsSeq PySem.MeetsSeq2 PySem.MeetsSeq3
theorem ints_at {us : List Value} {ns : List Int} (h : IntsAre us ns) : ∀ {i : Nat}, i < us.length → ∃ t, us[i]? = some (.int (ns.getD i 0) t) := by
 induction h with
 | nil => intro i hi; simp at hi
 | cons n t h ih =>
  intro i hi
  cases i with
  | zero => exact ⟨t, rfl⟩
  | succ i => obtain ⟨t', e⟩ := ih (i := i) (by simpa using hi); exact ⟨t', e⟩
theorem lex_end {a b : List Int} {i : Nat} (h : a.length ≤ i ∨ b.length ≤ i) : lexLt (a.drop i) (b.drop i) = decide (a.length - i < b.length - i) := by
 by_cases ha : a.length ≤ i
 ·rw [List.drop_eq_nil_of_le ha]
  by_cases hb : b.length ≤ i
  ·rw [List.drop_eq_nil_of_le hb, lexLt_nil_nil]; exact (decide_eq_false (by omega)).symm
  ·cases e : b.drop i with
   | nil => exact absurd (List.drop_eq_nil_iff.mp e) hb
   | cons c t => rw [lexLt_nil_cons]; exact (decide_eq_true (by omega)).symm
 ·have hb : b.length ≤ i := by omega
  rw [List.drop_eq_nil_of_le hb]
  cases e : a.drop i with
  | nil => exact absurd (List.drop_eq_nil_iff.mp e) ha
  | cons c t => rw [lexLt_cons_nil]; exact (decide_eq_false (by omega)).symm
theorem drop_at {a : List Int} {i : Nat} (h : i < a.length) : a.drop i = a.getD i 0 :: a.drop (i + 1) := by
 rw [List.drop_eq_getElem_cons h, List.getD_eq_getElem?_getD, List.getElem?_eq_getElem h]; rfl
theorem lt_loop (l b : Addr) (xs ys : Array Value) (n n2 : Nat) (dd dd2 : Option Addr) (sl sl2 : Array (Option Value)) (ns ms : List Int) (hi : IntsAre xs.toList ns) (hj : IntsAre ys.toList ms) (k : Nat) :
  ∀ i : Nat, i ≤ xs.size → i ≤ ys.size → min xs.size ys.size - i = k → Meets (Builtin.«list.__eq__.loop» ⟨[.ref l, .ref b, rawInt i, rawInt 0], []⟩)
   (fun _ R s => s.heap.get? l = some { cls := .type "list", dict := dd, data := .seq xs n, slots := sl } ∧ s.heap.get? b = some { cls := .type "list", dict := dd2, data := .seq ys n2, slots := sl2 } ∧ R (.ok (.ret (.bool (lexLt (ns.drop i) (ms.drop i))))) s) := by
 have z1 : xs.size = ns.length := by rw [← hi.length]; simp
 have z2 : ys.size = ms.length := by rw [← hj.length]; simp
 induction k with
 | zero =>
  intro i b1 b2 hk prog w A R s h
  obtain ⟨hp, g, d, tk, os⟩ := s
  obtain ⟨hl, hb, h⟩ := h
  rw [lex_end (by omega)] at h
  have hv : (decide (ns.length - i < ms.length - i)) = decide (xs.size < ys.size) := by
   apply decide_eq_decide.mpr
   omega
  rw [hv] at h
  wp_walk using wpAny_loadPart' hl, wpAny_loadPart' hb
  by_cases c : i < xs.size
  ·have e1 : xs[((i : Nat) : Int).toNat]? = some xs[i] := by simp [c]
   have e2 : ys[((i : Nat) : Int).toNat]? = none := by simp; omega
   rw [e1, e2]
   wp_walk using wpAny_loadPart' hl, wpAny_loadPart' hb
   exact h
  ·have e1 : xs[((i : Nat) : Int).toNat]? = none := by simp; omega
   rw [e1]
   wp_walk using wpAny_loadPart' hl, wpAny_loadPart' hb
   exact h
 | succ k ih =>
  intro i b1 b2 hk prog w A R s h
  obtain ⟨hp, g, d, tk, os⟩ := s
  obtain ⟨hl, hb, h⟩ := h
  have c1 : i < xs.size := by omega
  have c2 : i < ys.size := by omega
  obtain ⟨t1, q1⟩ := ints_at hi (i := i) (by simpa using c1)
  obtain ⟨t2, q2⟩ := ints_at hj (i := i) (by simpa using c2)
  have e1 : xs[((i : Nat) : Int).toNat]? = some (.int (ns.getD i 0) t1) := by simpa using q1
  have e2 : ys[((i : Nat) : Int).toNat]? = some (.int (ms.getD i 0) t2) := by simpa using q2
  have hc : ((i : Int) + 1) = ((i + 1 : Nat) : Int) := by push_cast; rfl
  rw [drop_at (a := ns) (i := i) (by omega), drop_at (a := ms) (i := i) (by omega), lexLt_cons] at h
  wp_walk using wpAny_loadPart' hl, wpAny_loadPart' hb
  rw [e1, e2]
  obtain ⟨ev, he, hiff⟩ := eqAt_int A.in1 ⟨hp, g, d, tk, os⟩ (ns.getD i 0) t1 (ms.getD i 0) t2
  refine wpAny_bind (he prog w _ _ ?_)
  cases ev with
  | true =>
   rw [if_pos (hiff.mp rfl)] at h
   wp_walk
   rw [hc]
   refine ⟨plainId_quiet plain_eq_loop _, codeAny_builtin entry_eq_loop ?_⟩
   rw [Around.under_plainId plain_eq_loop _]
   exact ih (i + 1) (by omega) (by omega) (by omega) prog w A R _ ⟨hl, hb, h⟩
  | false =>
   rw [if_neg (fun q => absurd (hiff.mpr q) Bool.false_ne_true)] at h
   wp_walk using wpAny_loadPart' hl, wpAny_loadPart' hb
   rw [e1, e2]
   have hri := rcLt_int A.in1 ⟨hp, g, d, tk, os⟩ (ns.getD i 0) t1 (ms.getD i 0) t2 prog w
   wp_walk using hri
   exact h
theorem list_lt (l b : Addr) (xs ys : Array Value) (n n2 : Nat) (dd dd2 : Option Addr) (sl sl2 : Array (Option Value)) (ns ms : List Int) (hi : IntsAre xs.toList ns) (hj : IntsAre ys.toList ms) :
  Meets (Builtin.«list.__lt__» ⟨[.ref l, .ref b], []⟩)
   (fun _ R s => s.heap.get? l = some { cls := .type "list", dict := dd, data := .seq xs n, slots := sl } ∧ s.heap.get? b = some { cls := .type "list", dict := dd2, data := .seq ys n2, slots := sl2 } ∧ R (.ok (.ret (.bool (lexLt ns ms)))) s) := by
 intro prog w A R s h
 obtain ⟨hp, g, d, tk, os⟩ := s
 obtain ⟨hl, hb, h⟩ := h
 have f3 := AutoSeq1.sub_list_list
 wp_walk using wpAny_loadPart' hl, wpAny_loadPart' hb
 refine ⟨plainId_quiet plain_eq_loop _, codeAny_builtin entry_eq_loop ?_⟩
 rw [Around.under_plainId plain_eq_loop _]
 exact lt_loop l b xs ys n n2 dd dd2 sl sl2 ns ms hi hj _ 0 (Nat.zero_le _) (Nat.zero_le _) rfl prog w A R _ ⟨hl, hb, h⟩
end
section
variable {prog : Program} {w : World} {A : Around} {E : Value → Shared → Prop} {s : Shared}
theorem lt_lists {l b : Addr} {xs ys : Array Value} {ns ms : List Int} {Q : Value → Shared → Prop} (hl : s.heap.IsList l xs) (hb : s.heap.IsList b ys) (hi : IntsAre xs.toList ns) (hj : IntsAre ys.toList ms)
  (hu : A.units < cLine) (h : Q (.bool (lexLt ns ms)) s) : wpAny (model prog w) A (richCompare .Lt (.ref l) (.ref b)) Q E s := by
 obtain ⟨⟨cls, dd, data, sl⟩, ho, hc, n, hd⟩ := id hl
 obtain ⟨⟨cls2, dd2, data2, sl2⟩, ho2, hc2, n2, hd2⟩ := id hb
 simp only at hc hd hc2 hd2
 subst hc hd hc2 hd2
 exact richCompare_meets_room (op := .Lt) ⟨_, ho, rfl⟩ ⟨_, ho2, rfl⟩ PySem.F.slot_list_lt PySem.F.entry_list_lt (PySem.F.args_list_lt_2 _ _) (list_lt l b xs ys n n2 dd dd2 sl sl2 ns ms hi hj)
  ⟨ho, ho2, show Value.bool (lexLt ns ms) ≠ Value.notImplemented ∧ Q (.bool (lexLt ns ms)) s from ⟨(fun x => nomatch x), h⟩⟩ hu
end
section
variable {prog : Program} {w : World} {A : Around} {R : Result → Shared → Prop} {I : Addr} {fp wr : List Addr} {n : Nat} {P : Nat → Value → Prop} {St : Nat → Heap → Prop}
theorem keepU {g : Heap} {B : Addr} {f : Obj → Obj} (b : Addr) (o : Obj) (bB : b ≠ B) (e : g.get? b = some o) : (g.update B f).get? b = some o := (Heap.get?_update_other _ _ (Ne.symm bB)).trans e
def CmpIn (prog : Program) (w : World) (A : Around) (J : Heap → Prop) (P : Nat → Value → Prop) (bt : Nat → Nat → Bool) : Prop :=
 ∀ i j vi vj (s : Shared) (Q : Value → Shared → Prop) (E : Value → Shared → Prop), J s.heap → P i vi → P j vj → Q (.bool (bt i j)) s → wpAny (model prog w) A (richCompare .Lt vi vj) Q E s
theorem min_go {J : Heap → Prop} (V : Walks prog w A.in1 I fp wr n P St) (bt : Nat → Nat → Bool) (cmp : CmpIn prog w A.in1 J P bt) (B : Addr) (nB : B ∉ fp) (stay : ∀ h h' : Heap, J h → (∀ b o, b ∉ wr → b ≠ B → h.get? b = some o → h'.get? b = some o) → J h') :
  ∀ (k j : Nat) (s : Shared) (u : Value) (c : Nat), n - (j + 1) = k → j + 1 ≤ n → St (j + 1) s.heap → J s.heap → P (argBest bt j) u → s.heap.get? B = some { cls := .type "list", dict := none, data := .seq #[u, u] c, slots := #[] } →
  (∀ v h' tk, P (argBest bt (n - 1)) v → (∀ b o, b ∉ wr → b ≠ B → s.heap.get? b = some o → h'.get? b = some o) → R (.ok (.ret v)) { s with heap := h', toks := tk }) →
  codeAny (model prog w) A (.builtin "min.loop" ⟨[.ref I, .none, .ref B], []⟩) R s := by
 have nW : B ∉ wr := fun z => nB (V.sub _ z)
 have nm : (toString "min" ++ toString ".loop" : String) = "min.loop" := by decide
 intro k
 induction k with
 | zero =>
  intro j s u c ek lj st hJ pu hB out
  have last : j + 1 = n := by omega
  refine codeAny_builtin F.entry_min_loop ?_; rw [Around.under_plainId F.plain_min_loop _]
  show wpAny _ A.in1 (seqItems? (.ref B) >>= _) _ _ s
  refine wpAny_bind (wpAny_seqItems hB rfl ?_); show wpAny _ A.in1 (tryCatch (pyNext (.ref I)) _ >>= _) _ _ s
  refine wpAny_bind (wpAny_tryCatch (V.done s _ _ (last ▸ st) fun g tk kp => ?_))
  have hB2 := kp B _ nW hB
  show wpAny _ A.in1 (updateSeq B (fun _ => #[]) >>= _) _ _ _
  refine wpAny_bind (wpAny_updateSeq hB2 rfl (wpAny_bind (wpAny_letGo (wpAny_pure ?_))))
  exact out u _ tk (by rw [← last]; exact pu) fun b o bw bB e => (Heap.get?_update_other _ _ (Ne.symm bB)).trans (kp b o bw e)
 | succ k ih =>
  intro j s u c ek lj st hJ pu hB out
  have more : j + 1 < n := by omega
  refine codeAny_builtin F.entry_min_loop ?_; rw [Around.under_plainId F.plain_min_loop _]
  show wpAny _ A.in1 (seqItems? (.ref B) >>= _) _ _ s
  refine wpAny_bind (wpAny_seqItems hB rfl ?_); show wpAny _ A.in1 (tryCatch (pyNext (.ref I)) _ >>= _) _ _ s
  refine wpAny_bind (wpAny_tryCatch (V.item (j + 1) s _ _ more st fun v g tk pv st2 kp => ?_))
  have hB2 := kp B _ nW hB
  have hJ2 : J g := stay _ _ hJ fun b o bw _ e => kp b o bw e
  show wpAny _ A.in1 (tryCatch (holding [v, v] (richCompare .Lt v u >>= _)) _ >>= _) _ _ _
  refine wpAny_bind (wpAny_tryCatch (wpAny_holding (wpAny_bind (cmp (j + 1) (argBest bt j) v u _ _ _ hJ2 pv pu ?_))))
  refine wpAny_bind (wpAny_holding (wpAny_truthy_bool ?_)); refine wpAny_bind (wpAny_letGo (wpAny_pure ?_))
  cases less : bt (j + 1) (argBest bt j) with
  | true =>
   simp only [if_true]
   refine wpAny_bind (wpAny_updateSeq hB2 rfl (wpAny_bind (wpAny_letGo ?_))); rw [nm]
   refine wpAny_pure ⟨plainId_quiet F.plain_min_loop _, ih (j + 1) _ v _ (by omega) more (V.frame _ _ _ st2 fun b bf o e => keepU b o (fun z => nB (z ▸ bf)) e) (stay _ _ hJ2 fun b o _ bB e => keepU b o bB e) (by simp only [argBest, less, if_true]; exact pv) (Heap.get?_update_self _ hB2 rfl) fun v' g' tk' pv' kp' => ?_⟩
   exact out v' g' tk' pv' fun b o bw bB e => kp' b o bw bB (keepU b o bB (kp b o bw e))
  | false =>
   simp only [Bool.false_eq_true, if_false]
   refine wpAny_bind (wpAny_letGo ?_); rw [nm]
   refine wpAny_pure ⟨plainId_quiet F.plain_min_loop _, ih (j + 1) _ u c (by omega) more st2 hJ2 (by simp only [argBest, less, Bool.false_eq_true, if_false]; exact pu) hB2 fun v' g' tk' pv' kp' => ?_⟩
   exact out v' g' tk' pv' fun b o bw bB e => kp' b o bw bB (kp b o bw e)
theorem min_start {J : Heap → Prop} (V : Walks prog w A.in1 I fp wr n P St) (bt : Nat → Nat → Bool) (cmp : CmpIn prog w A.in1 J P bt) (B : Addr) (nB : B ∉ fp) (stay : ∀ h h' : Heap, J h → (∀ b o, b ∉ wr → b ≠ B → h.get? b = some o → h'.get? b = some o) → J h') (hn : 0 < n) {s : Shared} {c : Nat} (st : St 0 s.heap) (hJ : J s.heap)
  (hB : s.heap.get? B = some { cls := .type "list", dict := none, data := .seq #[] c, slots := #[] })
  (out : ∀ v h' tk, P (argBest bt (n - 1)) v → (∀ b o, b ∉ wr → b ≠ B → s.heap.get? b = some o → h'.get? b = some o) → R (.ok (.ret v)) { s with heap := h', toks := tk }) :
  codeAny (model prog w) A (.builtin "min.loop" ⟨[.ref I, .none, .ref B], []⟩) R s := by
 have nW : B ∉ wr := fun z => nB (V.sub _ z)
 have nm : (toString "min" ++ toString ".loop" : String) = "min.loop" := by decide
 refine codeAny_builtin F.entry_min_loop ?_; rw [Around.under_plainId F.plain_min_loop _]
 show wpAny _ A.in1 (seqItems? (.ref B) >>= _) _ _ s
 refine wpAny_bind (wpAny_seqItems hB rfl ?_); show wpAny _ A.in1 (tryCatch (pyNext (.ref I)) _ >>= _) _ _ s
 refine wpAny_bind (wpAny_tryCatch (V.item 0 s _ _ hn st fun v g tk pv st2 kp => ?_))
 have hB2 := kp B _ nW hB
 have hJ2 : J g := stay _ _ hJ fun b o bw _ e => kp b o bw e
 show wpAny _ A.in1 (updateSeq B (fun _ => #[v, v]) >>= _) _ _ _
 refine wpAny_bind (wpAny_updateSeq hB2 rfl ?_); rw [nm]
 refine wpAny_pure ⟨plainId_quiet F.plain_min_loop _, min_go V bt cmp B nB stay _ 0 _ v _ rfl hn (V.frame _ _ _ st2 fun b bf o e => keepU b o (fun z => nB (z ▸ bf)) e) (stay _ _ hJ2 fun b o _ bB e => keepU b o bB e) pv (Heap.get?_update_self _ hB2 rfl) fun v' g' tk' pv' kp' => ?_⟩
 exact out v' g' tk' pv' fun b o bw bB e => kp' b o bw bB (keepU b o bB (kp b o bw e))
end
section
variable {prog : Program} {w : World} {A : Around} {E : Value → Shared → Prop} {s : Shared}
theorem min_pair {a b : Value} {Q : Value → Shared → Prop} (h : wpAny (model prog w) A.in1 (pyIter (.ref s.heap.objs.size)) (fun it s₂ => ∃ I fp wr n P St bt J, it = .ref I ∧ Walks prog w A.in1 I fp wr n P St ∧ St 0 s₂.heap ∧ (∀ b ∈ fp, b < s₂.heap.objs.size) ∧ 0 < n ∧ CmpIn prog w A.in1 J P bt ∧
   J s₂.heap ∧ (∀ h h' : Heap, J h → (∀ b o, b ∉ wr → b ≠ s₂.heap.objs.size → h.get? b = some o → h'.get? b = some o) → J h') ∧
   ∀ v h' tk, P (argBest bt (n - 1)) v → (∀ b o, b ∉ wr → s₂.heap.get? b = some o → h'.get? b = some o) → Q v { s₂ with heap := h', toks := tk }) E
   { s with heap := s.heap.push { cls := .type "tuple", data := .seq #[a, b] } }) : wpAny (model prog w) A (call (.builtin "min") [a, b]) Q E s := by
 have nm : (toString "min" ++ toString ".loop" : String) = "min.loop" := by decide
 refine call_function_tree F.kind_min F.plain_min F.entry_min (F.args_min2 _ _) ?_
 show wpAny _ A.in1 (Builtin.Builtins.bindParams "min" ["key", "default"] 0 ⟨[], []⟩ >>= _) _ _ s
 have none2 : Builtin.Builtins.bindParams "min" ["key", "default"] 0 ⟨[], []⟩ = pure [none, none] := rfl
 refine wpAny_bind (wpAny_of_eq none2 ?_); show wpAny _ A.in1 (newTuple [a, b] >>= _) _ _ s
 refine wpAny_bind (wpAny_newObj_type (wpAny_bind (wpAny_mono h (fun it s₂ q => ?_) fun _ _ z => z)))
 obtain ⟨I, fp, wr, n, P, St, bt, J, rfl, V, st, lo, hn, cmp, hJ, stay, out⟩ := q
 refine wpAny_bind (wpAny_newObj_type ?_)
 have nB : s₂.heap.objs.size ∉ fp := fun z => Nat.lt_irrefl _ (lo _ z)
 have hJ2 := stay _ _ hJ fun b o _ _ e => Heap.get?_push_of_some { cls := .type "list", data := .seq #[] } e
 rw [nm]
 refine wpAny_pure ⟨plainId_quiet F.plain_min_loop _, min_start V bt cmp s₂.heap.objs.size nB stay hn (V.frame _ _ _ st fun b _ o e => Heap.get?_push_of_some _ e) hJ2 (Heap.get?_push_size _ rfl) fun v g tk pv kp => ?_⟩
 exact out v g tk pv fun b o bw e => kp b o bw (Nat.ne_of_lt (Heap.lt_size e)) (Heap.get?_push_of_some _ e)
end
end HL
set_option maxHeartbeats 4000000
namespace L2
open PySem PySem.Spec PyProof.Rows
section
variable {X : Cx}
def LsAt (as : List Addr) (nss : Nat → List Int) (h : Heap) : Prop := ∀ i a, as[i]? = some a → ∃ its : List Value, h.IsList a its.toArray ∧ IntsAre its (nss i)
theorem LsAt.cmp {P : Program} {w : World} {A : Around} {as : List Addr} {nss : Nat → List Int} (hu : A.units < cLine) :
  HL.CmpIn P w A (LsAt as nss) (fun i v => ∃ a, as[i]? = some a ∧ v = .ref a) fun i j => HT.lexLt (nss i) (nss j) := by
 rintro i j vi vj s Q E hJ ⟨a, ea, rfl⟩ ⟨b, eb, rfl⟩ q
 obtain ⟨ia, la, na⟩ := hJ i a ea
 obtain ⟨ib, lb, nb⟩ := hJ j b eb
 exact HL.lt_lists la lb (by simpa using na) (by simpa using nb) hu q
theorem LsAt.stay {as : List Addr} {nss : Nat → List Int} {h h' : Heap} {no : Addr → Prop} (hJ : LsAt as nss h) (hno : ∀ (i : Nat) (a : Addr), as[i]? = some a → ¬ no a) (k : ∀ b o, ¬ no b → h.get? b = some o → h'.get? b = some o) : LsAt as nss h' := by
 intro i a e
 obtain ⟨its, ⟨o, ho, hc⟩, n⟩ := hJ i a e
 exact ⟨its, ⟨o, k a o (hno i a e) ho, hc⟩, n⟩
theorem LsAt.of {pins : List (Addr × Obj)} {σ : St} {H : Hp} {s : Shared} {as : List Addr} {nss : Nat → List Int} (I : Inv X pins σ H s) (h : ∀ i a, as[i]? = some a → SqL X.K H a ((nss i).map V.int)) : LsAt as nss s.heap := by
 intro i a e
 obtain ⟨its, r, p, _⟩ := I.list (h i a e)
 exact ⟨its, p.isList, intsAre_of r⟩
theorem LsAt.lt {as : List Addr} {nss : Nat → List Int} {h : Heap} (hJ : LsAt as nss h) {i : Nat} {a : Addr} (e : as[i]? = some a) : a < h.objs.size := by
 obtain ⟨_, ⟨o, ho, _⟩, _⟩ := hJ i a e
 exact Heap.lt_size ho
theorem call_min2L (hc : X.calm = true) (hu : X.A.units + 64 < cLine) : CallR X (.builtin "min") (fun xs H Q => ∃ (a b : Addr) (ns ms : List Int), xs = [.ref a, .ref b] ∧ SqL X.K H a (ns.map V.int) ∧ SqL X.K H b (ms.map V.int) ∧
  Q (.ref (if HT.lexLt ms ns = true then b else a)) H) := by
 intro pins s σ H xs us Q I r h
 obtain ⟨a, b, ns, ms, rfl, ha, hb, q⟩ := h
 obtain ⟨u, v, rfl, ru, rv⟩ := vals2 r
 cases ru
 cases rv
 let as : List Addr := [a, b]
 let nss : Nat → List Int := fun i => if i = 0 then ns else ms
 have hJ : LsAt as nss s.heap := LsAt.of I fun i c e => by
  match i, e with
  | 0, e => cases e; exact ha
  | 1, e => cases e; exact hb
  | n + 2, e => cases e
 have hT : (s.heap.push { cls := .type "tuple", data := .seq #[.ref a, .ref b] }).IsTuple s.heap.objs.size #[.ref a, .ref b] := ⟨_, Heap.get?_push_size _ rfl, rfl, 0, rfl⟩
 have hsz : (s.heap.push { cls := .type "tuple", data := .seq #[.ref a, .ref b] }).objs.size = s.heap.objs.size + 1 := Heap.size_push ..
 have W := Walks.tuple (prog := X.prog) (w := X.w) (A := X.A.in1) (show X.A.in1.handled = none from I.ok.hd hc) (s.heap.push { cls := .type "tuple", data := .seq #[.ref a, .ref b] }).objs.size s.heap.objs.size (by rw [hsz]; exact Nat.ne_of_lt (Nat.lt_succ_self _)) #[.ref a, .ref b]
 have hat : ∀ (i : Nat) (v : Value), (#[Value.ref a, Value.ref b] : Array Value)[i]? = some v → ∃ c, as[i]? = some c ∧ v = .ref c := fun i v e => by
  match i, e with
  | 0, e => cases e; exact ⟨a, rfl, rfl⟩
  | 1, e => cases e; exact ⟨b, rfl, rfl⟩
  | n + 2, e => simp at e
 refine HL.min_pair (wpAny_pyIter_tuple hT ⟨_, [_, s.heap.objs.size], [_], _, fun i v => ∃ c, as[i]? = some c ∧ v = .ref c, _, fun i j => HT.lexLt (nss i) (nss j), LsAt as nss, rfl,
  ⟨W.sub, W.frame, fun i s' Q' E' hi st hQ => W.item i s' Q' E' hi st fun v h' tk e st' k => hQ v h' tk (hat i v e) st' k, W.done, W.self⟩, ⟨⟨_, Heap.get?_push_size _ rfl, rfl, rfl⟩, hT.push _⟩, ?_, Nat.succ_pos 1, LsAt.cmp (by show X.A.units + 1 < cLine; omega), ?_, ?_, ?_⟩)
 ·intro c hc'
  show c < ((s.heap.push _).push _).objs.size
  rw [Heap.size_push, hsz]
  rcases List.mem_cons.mp hc' with rfl | hc'
  ·rw [hsz]; exact Nat.lt_succ_self _
  ·have := List.mem_singleton.mp hc'
   subst this
   exact Nat.lt_succ_of_lt (Nat.lt_succ_self _)
 ·exact hJ.stay (no := fun _ => False) (fun _ _ _ => id) fun c o _ e => Heap.get?_push_of_some _ (Heap.get?_push_of_some _ e)
 ·intro h h' j k
  refine j.stay (no := fun c => c ∈ [(s.heap.push { cls := .type "tuple", data := .seq #[.ref a, .ref b] }).objs.size] ∨ c = ((s.heap.push { cls := .type "tuple", data := .seq #[.ref a, .ref b] }).push { cls := .type "tuple_iterator", data := .fields #[.ref s.heap.objs.size, .int 0 0] }).objs.size) (fun i c e => ?_) (fun c o n e => k c o (fun z => n (.inl z)) (fun z => n (.inr z)) e)
  have l := hJ.lt e
  rw [List.mem_singleton, Heap.size_push, Heap.size_push, Heap.size_push]
  exact fun z => z.elim (fun z => Nat.ne_of_lt (Nat.lt_succ_of_lt l) z) fun z => Nat.ne_of_lt (Nat.lt_succ_of_lt (Nat.lt_succ_of_lt l)) z
 ·rintro v h' tk ⟨c, ec, rfl⟩ hk
  have I1 : Inv X pins σ H { s with heap := h', toks := tk } := I.kept fun d o e => hk d o (fun z => by
   have l := Heap.lt_size e
   rw [List.mem_singleton.mp z, hsz] at l
   exact absurd l (Nat.not_lt_of_le (Nat.le_succ _))) (Heap.get?_push_of_some _ (Heap.get?_push_of_some _ e))
  have e1 : c = if HT.lexLt ms ns = true then b else a := by
   have ec' : as[argBest (fun i j => HT.lexLt (nss i) (nss j)) 1]? = some c := ec
   have eb : argBest (fun i j => HT.lexLt (nss i) (nss j)) 1 = if HT.lexLt ms ns = true then 1 else 0 := rfl
   rw [eb] at ec'
   by_cases z : HT.lexLt ms ns = true
   ·rw [if_pos z] at ec' ⊢; cases ec'; rfl
   ·rw [if_neg z] at ec' ⊢; cases ec'; rfl
  rw [e1]
  exact ⟨.ref _, H, I1, rfl, q⟩
end
end L2
namespace HT
theorem lex_irr : ∀ a : List Int, lexLt a a = false
 | [] => rfl
 | x :: a => by rw [lexLt_cons, if_pos rfl]; exact lex_irr a
theorem lex_total : ∀ a b : List Int, lexLt a b = false → lexLt b a = false → a = b
 | [], [], _, _ => rfl
 | [], _ :: _, h, _ => by rw [lexLt_nil_cons] at h; cases h
 | _ :: _, [], _, h => by rw [lexLt_nil_cons] at h; cases h
 | x :: a, y :: b, h1, h2 => by
  rw [lexLt_cons] at h1 h2
  by_cases e : x = y
  ·subst e
   rw [if_pos rfl] at h1 h2
   rw [lex_total a b h1 h2]
  ·rw [if_neg e] at h1
   rw [if_neg (fun z => e z.symm)] at h2
   have := of_decide_eq_false h1
   have := of_decide_eq_false h2
   omega
theorem lex_trans : ∀ a b c : List Int, lexLt a b = true → lexLt b c = true → lexLt a c = true
 | [], [], _, h, _ => by rw [lexLt_nil_nil] at h; cases h
 | [], _ :: _, [], _, h => by rw [lexLt_cons_nil] at h; cases h
 | [], _ :: _, _ :: _, _, _ => rfl
 | _ :: _, [], _, h, _ => by rw [lexLt_cons_nil] at h; cases h
 | _ :: _, _ :: _, [], _, h => by rw [lexLt_cons_nil] at h; cases h
 | x :: a, y :: b, z :: c, h1, h2 => by
  rw [lexLt_cons] at h1 h2 ⊢
  by_cases e1 : x = y
  ·subst e1
   rw [if_pos rfl] at h1
   by_cases e2 : x = z
   ·subst e2
    rw [if_pos rfl] at h2 ⊢
    exact lex_trans a b c h1 h2
   ·rw [if_neg e2] at h2 ⊢; exact h2
  ·rw [if_neg e1] at h1
   have g1 := of_decide_eq_true h1
   by_cases e2 : y = z
   ·subst e2
    rw [if_neg e1]; exact h1
   ·rw [if_neg e2] at h2
    have g2 := of_decide_eq_true h2
    rw [if_neg (by omega)]
    exact decide_eq_true (by omega)
theorem lex_le {a b c : List Int} (h1 : lexLt b a = false) (h2 : lexLt c b = false) : lexLt c a = false := by
 cases e : lexLt c a with
 | false => rfl
 | true =>
  cases f : lexLt b c with
  | true => rw [lex_trans b c a f e] at h1; cases h1
  | false =>
   have := lex_total b c f h2
   subst this
   rw [e] at h1
   cases h1
def IsLeast (S : List Int → Prop) (a : List Int) : Prop := S a ∧ ∀ b, S b → lexLt b a = false
theorem IsLeast.eq {S T : List Int → Prop} {a b : List Int} (h1 : IsLeast S a) (h2 : IsLeast T b) (hST : ∀ x, S x ↔ T x) : a = b :=
 lex_total a b (h2.2 a ((hST a).mp h1.1)) (h1.2 b ((hST b).mpr h2.1))
end HT
set_option maxHeartbeats 4000000
namespace L2
open PySem PySem.Spec PyProof.Rows
end L2
set_option maxHeartbeats 4000000
namespace L2
open PySem PySem.Spec PyProof.Rows
section
variable {X : Cx} {pins : List (Addr × Obj)} {σ : St} {H : Hp} {s : Shared} {a : Addr} {y v : V} {u r : Value} {A : Around} {E : Value → Shared → Prop}
theorem d_set {kvs : List (Key × V)} {k : Key} {Q : Unit → Shared → Prop} (I : Inv X pins σ H s) (e : H a = some (.dK kvs)) (l : kvs.length < sizeLine) (ry : RelV (kV k) u) (rv : RelV v r) (h : ∀ s', Inv X pins σ (upd H a (.dK (putK kvs k v))) s' → Q () s') :
  wpAny (model X.prog X.w) A (dictSet a u r) Q E s := by
 obtain ⟨z, hd, vs, rel, dd⟩ := dk_of I.hok e
 have hz : vs.length ≤ sizeLine := by rw [← rel.length]; exact z
 have hl : (putK kvs k v).length ≤ sizeLine := by have := length_putK kvs k v; omega
 refine wpAny_dictSet_pairs (hsz := hz) (kV_is ry) dd fun h' dd' hs => h _ ?_
 have he : ∃ q, h'.get? a = some q := let ⟨q, _, _, hq, _⟩ := dd'; ⟨q, hq⟩
 exact d_write I (by rw [e]; exact True.intro) hs he (dk_new hl hd (rel.put k rv) dd')
end
def tDEmit (tk tv : TE) (D : Addr) : TB := fun σ H N => tk σ H fun x H1 => tv σ H1 fun v H2 => ∃ kvs k, x = kV k ∧ H2 D = some (.dK kvs) ∧ kvs.length < sizeLine ∧ N σ (upd H2 D (.dK (putK kvs k v)))
section
variable {X : Cx}
theorem pb_demit {kx vx : Expr} {tk tv : TE} {D : Addr} {c : Code} {p : Pos} (hk : PE X kx tk) (hv : PE X vx tv) :
  PB X ((eval kx X.env >>= fun kv => holding [kv] (eval vx X.env) >>= fun vv => standAt p >>= fun _ => holding [kv, vv] (dictSet D kv vv)) >>= fun _ => again c) c (tDEmit tk tv D) := by
 intro pins s σ H N I h
 refine wpAny_bind (wpAny_bind (thn (hk pins s σ H _ I h) fun u s1 ⟨x, H1, I1, r1, q1⟩ => wpAny_bind (wpAny_holding (thn (hv pins s1 σ H1 _ I1 q1) fun w s2 ⟨v, H2, I2, r2, q2⟩ => wpAny_bind (wpAny_standAt (wpAny_holding ?_))))))
 obtain ⟨kvs, k, rfl, hD, hl, q⟩ := q2
 exact d_set I2 hD hl r1 r2 fun s3 I3 => wpAny_pure ⟨rfl, σ, _, I3, q⟩
end
def tDComp (ts : List Str) (fv : List (Str × Nat)) (wi : TI) (g : TG) (tt : TT) (tb : Addr → TB) : TE := fun σ H Q => wi σ H fun J H1 => ∀ D, H1 D = none →
 LoopR J g tt (tb D) (fun _ H' => Q (.ref D) H') (blkS ts fv σ) (upd H1 D (.dK []))
section
variable {X : Cx} {ts : List Str} {fv : List (Str × Nat)} {scope : Scope} {kx vx t0 i0 : Expr} {f0 : List Expr} {rest : List Comprehension} {pos : Pos} {wi : TI} {g : TG} {tt : TT} {tb : Addr → TB} {kont : Env → Addr → Addr → Sem Fin}
theorem dcomp_core (B : BlkOk X scope fv) (hc : X.calm = true) (hi : PI X t0 i0 wi)
  (hg : ∀ C s₀ H₀ ex, PG (blkCx X (blkN ts fv) scope C s₀ H₀ ex) t0 g) (ht : ∀ C s₀ H₀ ex, PTs (blkCx X (blkN ts fv) scope C s₀ H₀ ex) f0 tt)
  (heq : ∀ (env : Env) (it D : Addr), compTurn (.DictComp kx vx (⟨t0, i0, f0, 0⟩ :: rest) scope pos) 0 (.ref it) (.ref D) env = (standAt i0.pos >>= fun _ => pyNext (.ref it) >>= fun r => match r with
   | none => pure (.done .next)
   | some v => letOwnedTupleGo t0 (.ref it) v >>= fun _ => assign t0 env v >>= fun _ =>
    (forIn f0 true fun c r => if r = true then do let ok ← isTrue c env (eval c env); pure (ForInStep.yield ok) else pure (ForInStep.yield r)) >>= fun ok =>
     if ok = true then kont env it D else again (.compLoop (.DictComp kx vx (⟨t0, i0, f0, 0⟩ :: rest) scope pos) 0 (.ref it) (.ref D) env)))
  (hb : ∀ C s₀ H₀ ex it D, PB (blkCx X (blkN ts fv) scope C s₀ H₀ ex) (kont (blkCx X (blkN ts fv) scope C s₀ H₀ ex).env it D) (.compLoop (.DictComp kx vx (⟨t0, i0, f0, 0⟩ :: rest) scope pos) 0 (.ref it) (.ref D) (blkCx X (blkN ts fv) scope C s₀ H₀ ex).env) (tb D))
  {pins : List (Addr × Obj)} {s : Shared} {σ : St} {H : Hp} {Q : VK} {RR : Value → Addr → Result → Shared → Prop} (I : Inv X pins σ H s) (h : tDComp ts fv wi g tt tb σ H Q)
  (hRR : ∀ D C s' H', Inv X pins σ H' s' → H' C = none → X.s₀.heap.objs.size ≤ C → C ≠ X.env.locals → (∀ x c, X.env.cells.lookup x = some c → c ≠ C) → (∀ p ∈ X.pn ++ pins, p.1 ≠ C) → (∃ m, s'.heap.Ns C m) → Q (.ref D) H' → RR (.ref D) C (.ok .next) s') :
  wpAny (model X.prog X.w) X.A (eval i0 X.env) (fun x s₁ => wpAny (model X.prog X.w) X.A (pyIter x) (fun it s₂ => wpAny (model X.prog X.w) X.A newDict (fun acc s₃ =>
   wpAny (model X.prog X.w) X.A (newFunctionEnv scope X.env.globals (cloList X.env scope.names []) [] X.env.qual none .none (some X.env)) (fun cenv s₄ =>
    codeAny (model X.prog X.w) X.A (.compStart (.DictComp kx vx (⟨t0, i0, f0, 0⟩ :: rest) scope pos) 0 it acc { cenv with scope := relabel scope X.env }) (RR acc cenv.locals) s₄) X.xe s₃) X.xe s₂) X.xe s₁) X.xe s := by
 refine thn (hi pins s σ H _ I h) fun v s1 h1 => thn h1 fun itv s2 h2 => ?_
 obtain ⟨it, fp, tn, J, H2, e, I2, T, st2, f2, L⟩ := h2
 subst e
 have L := L s2.heap.objs.size I2.fresh
 refine wpAny_newObj_type ?_
 have I3 : Inv X pins σ (upd H2 s2.heap.objs.size (.dK [])) { s2 with heap := s2.heap.push { cls := .type "dict", data := .dict #[] }, toks := s2.toks } := I2.laid (a := s2.heap.objs.size) (o := .dK []) (t' := s2.toks) (fun _ _ q => Heap.get?_push_of_some _ q) (Nat.le_refl _) (dk_empty s2.heap I2.big)
 have ho2 : ∀ b ∈ fp, ∃ o, s2.heap.get? b = some o ∧ ∀ v, o.data ≠ .cell v := T.obj _ _ st2
 have f3 : ∀ b ∈ fp, FpOk X pins (upd H2 s2.heap.objs.size (.dK [])) b := fun b hb => by
  obtain ⟨o, ho, _⟩ := ho2 b hb
  refine ⟨?_, (f2 b hb).2⟩
  rw [upd_ne (Nat.ne_of_lt (Heap.lt_size ho))]
  exact (f2 b hb).1
 have st3 : tn 0 (s2.heap.push { cls := .type "dict", data := .dict #[] }) := T.keep _ _ _ st2 fun b _ o e => Heap.get?_push_of_some _ e
 have ho3 : ∀ b ∈ fp, ∃ o, (s2.heap.push { cls := .type "dict", data := .dict #[] }).get? b = some o := fun b hb => let ⟨o, e, _⟩ := ho2 b hb; ⟨o, Heap.get?_push_of_some _ e⟩
 generalize hs3 : ({ s2 with heap := s2.heap.push { cls := .type "dict", data := .dict #[] }, toks := s2.toks } : Shared) = s3 at I3
 have eh : s2.heap.push { cls := .type "dict", data := .dict #[] } = s3.heap := by rw [← hs3]
 rw [eh] at st3 ho3
 refine wpAny_newFunctionEnv B.nocell (by intro y hy; simp at hy) (fun h₁ hns hsb => ?_) B.kind
 have hk : ∀ b o, s3.heap.get? b = some o → h₁.get? b = some o := fun b o e => hsb.extBut b o (Nat.ne_of_lt (Heap.lt_size e)) (Heap.get?_push_of_some _ e)
 have I4 := blk_start (ts := ts) (tk := s3.toks + ([] : List (Str × Value)).length) B I3 f3 ho3 hns hk
 have f4 : ∀ b ∈ fp, FpOk (blkCx X (blkN ts fv) scope s3.heap.objs.size s3 (upd H2 s2.heap.objs.size (.dK [])) fp) [] (upd H2 s2.heap.objs.size (.dK [])) b := fun b hb => by
  obtain ⟨f0, f1, f2', f3', f4', f5'⟩ := f3 b hb
  obtain ⟨o, eo⟩ := ho3 b hb
  exact ⟨f0, Nat.ne_of_lt (Heap.lt_size eo), I4.ok.exfs b hb, .inl hb, (I4.ok.exf b hb).2, fun p hp => absurd (show p ∈ ([] : List (Addr × Obj)) from hp) (by simp)⟩
 have st4 : tn 0 h₁ := T.keep _ _ _ st3 fun b _ o e => hk b o e
 have loop : codeAny (model X.prog X.w) X.A (.compLoop (.DictComp kx vx (⟨t0, i0, f0, 0⟩ :: rest) scope pos) 0 (.ref it) (.ref s2.heap.objs.size) (blkCx X (blkN ts fv) scope s3.heap.objs.size s3 (upd H2 s2.heap.objs.size (.dK [])) fp).env)
   (RR (.ref s2.heap.objs.size) s3.heap.objs.size) { s3 with heap := h₁, toks := s3.toks + ([] : List (Str × Value)).length } := by
  refine comp_loop (X := blkCx X (blkN ts fv) scope s3.heap.objs.size s3 (upd H2 s2.heap.objs.size (.dK [])) fp) (tg := t0) (ifs := f0) (R := fun _ H' => Q (.ref s2.heap.objs.size) H') rfl rfl rfl rfl (heq _ it s2.heap.objs.size) T hc (hg _ _ _ _) (ht _ _ _ _) (hb _ _ _ _ it s2.heap.objs.size) f4 I4 st4 L fun s' σ' H' J' q => ?_
  obtain ⟨e1, e2, e3, e4, e5, e6⟩ := blk_end I3 f3 (Nat.le_refl _) J'
  obtain ⟨m, hm, _⟩ := J'.loc
  exact hRR _ _ s' H' e1 e2 e3 e4 e5 e6 ⟨m, hm⟩ q
 exact codeAny_compStart_dict loop (T.self _ _ _ _ _ st4 loop)
theorem ps_setDCompG {i : Nat} {y : Str} {py spos : Pos} (B : BlkOk X scope fv) (hc : X.calm = true) (hN : X.N.Nodup) (hiy : X.N[i]? = some y) (hyl : X.env.scope.names.lookup y = some .local)
  (hsw : swapsWith (.DictComp kx vx (⟨t0, i0, f0, 0⟩ :: rest) scope pos) (some (.Name y py)) spos.line X.env = pure true) (hi : PI X t0 i0 wi)
  (hg : ∀ C s₀ H₀ ex, PG (blkCx X (blkN ts fv) scope C s₀ H₀ ex) t0 g) (ht : ∀ C s₀ H₀ ex, PTs (blkCx X (blkN ts fv) scope C s₀ H₀ ex) f0 tt)
  (heq : ∀ (env : Env) (it D : Addr), compTurn (.DictComp kx vx (⟨t0, i0, f0, 0⟩ :: rest) scope pos) 0 (.ref it) (.ref D) env = (standAt i0.pos >>= fun _ => pyNext (.ref it) >>= fun r => match r with
   | none => pure (.done .next)
   | some v => letOwnedTupleGo t0 (.ref it) v >>= fun _ => assign t0 env v >>= fun _ =>
    (forIn f0 true fun c r => if r = true then do let ok ← isTrue c env (eval c env); pure (ForInStep.yield ok) else pure (ForInStep.yield r)) >>= fun ok =>
     if ok = true then kont env it D else again (.compLoop (.DictComp kx vx (⟨t0, i0, f0, 0⟩ :: rest) scope pos) 0 (.ref it) (.ref D) env)))
  (hb : ∀ C s₀ H₀ ex it D, PB (blkCx X (blkN ts fv) scope C s₀ H₀ ex) (kont (blkCx X (blkN ts fv) scope C s₀ H₀ ex).env it D) (.compLoop (.DictComp kx vx (⟨t0, i0, f0, 0⟩ :: rest) scope pos) 0 (.ref it) (.ref D) (blkCx X (blkN ts fv) scope C s₀ H₀ ex).env) (tb D))
  (hs : ∀ x, foldedSetIterable i0 X.env x = pure x := by intro _; rfl) :
  PS X (.Assign [.Name y py] (.DictComp kx vx (⟨t0, i0, f0, 0⟩ :: rest) scope pos) spos) (tAsg (tDComp ts fv wi g tt tb) (gName i)) := by
 intro pins s σ H D0 I h
 rw [exec_Assign_Name_used _ _ _ _ hsw]
 refine wpAny_bind (wpAny_standAt (wpAny_bind ?_))
 show wpAny _ X.A (do let _ ← comprehension (.DictComp kx vx (⟨t0, i0, f0, 0⟩ :: rest) scope pos) scope X.env _ newDict false (eval i0 X.env) (some (assign (.Name y py) X.env))) _ _ s
 refine wpAny_bind (wpAny_mono (wpAny_comprehension_free (use := some (assign (.Name y py) X.env)) (Q := fun _ s' => SP X pins D0 .next s') rfl hs (closure_run fun y hy e => I.ok.has y.1 (B.free y hy e)) B.kind B.names ?_) (fun _ s' hq => wpAny_pure (wpAny_pure hq)) fun _ _ e => e)
 refine dcomp_core (Q := fun x H1 => gName i x σ H1 D0.nx) (RR := fun acc C => compPost (model X.prog X.w) X.A X.xe (some (assign (.Name y py) X.env)) (fun _ s' => SP X pins D0 .next s') acc C) B hc hi hg ht heq hb I h fun D C s' H' I' e2 e3 e4 e5 e6 hm q => ?_
 obtain ⟨m, hm⟩ := hm
 show wpAny _ X.A (assign (.Name y py) X.env (.ref D)) _ _ _
 refine wpAny_assign_Name (store_ok2 I' hN hiy (.inl hyl) (show RelV (.ref D) (.ref D) from rfl) (fun s'' I'' hch => ?_) (.inr hyl))
 obtain ⟨a, hsb, ha⟩ := hch
 have haC : C ≠ a := by
  rcases ha with e | e
  ·rw [e]; exact e4
  ·exact fun z => e5 y a e z.symm
 exact ⟨m, hm.sameBut hsb haC, fun h' hs' => ⟨_, H', I''.apart hs' e2 e3 e4 e5 e6, q⟩⟩
end
section
variable {X : Cx}
def rGetL (K : PySem.W.Frag) : V → V → Hp → VK → Prop := fun o i H Q => ∃ p xs, ∃ (k : Nat) (v : V), o = .ref p ∧ i = .int k ∧ SqL K H p xs ∧ xs[k]? = some v ∧ Q v H
theorem get_list : PGet X (rGetL X.K) := by
 intro pins s σ H o i ov iv Q I ro ri h
 obtain ⟨p, xs, k, v, rfl, rfl, hq, he, q⟩ := h
 cases ro
 obtain ⟨t, rfl⟩ := ri
 obtain ⟨its, r, pl, hz⟩ := I.list hq
 obtain ⟨w, ew, rw'⟩ := r.get he
 have hl := r.length
 have hk : k < its.length := (List.getElem?_eq_some_iff.mp ew).1
 have hn := line63
 exact wpAny_getItem_list pl.isList (by omega) (by omega) (by simpa using ew) ⟨v, H, I, rw', q⟩
end
end L2
set_option maxHeartbeats 4000000
namespace L2
open PySem PySem.Spec PyProof.Rows
section
variable {X : Cx} {pins : List (Addr × Obj)} {σ : St} {H : Hp} {s : Shared} {a : Addr}
theorem Inv.thaw {kvs : List (Key × V)} {ob : Obj} (I : Inv X pins σ H s) (e : H a = some (.frz ob (.dK kvs))) (h0 : ∀ o u, X.H₀ a ≠ some (.frz o u)) : Inv X pins σ (upd H a (.dK kvs)) s := by
 have nown : ∀ c y, H c = some (.own y) → c ≠ a := fun c y r z => by subst z; rw [r] at e; cases e
 have ntup : ∀ c xs, H c = some (.tup xs) → c ≠ a := fun c xs r z => by subst z; rw [r] at e; cases e
 have nnon : ∀ c, H c = none → c ≠ a := fun c r z => by subst z; rw [r] at e; cases e
 have hok : HOk X.prog X.w (upd H a (.dK kvs)) s.heap := fun b v q => by
  have st : ∀ c w', ObjOk X.prog X.w H s.heap c w' → ObjOk X.prog X.w (upd H a (.dK kvs)) s.heap c w' := fun c w' x => x.stay (fun _ _ _ q => q) (fun d r => by rw [upd_ne (nown d c r)]; exact r) fun d xs r => by rw [upd_ne (ntup d xs r)]; exact r
  by_cases hb : b = a
  ·subst hb
   rw [upd_same] at q
   cases q
   exact st _ _ (I.hok _ _ e).2
  ·rw [upd_ne hb] at q
   exact st _ _ (I.hok b v q)
 refine ⟨I.ok, I.os, I.bare, ⟨I.base.keep, I.base.slot, fun b o q n hx => ?_, I.base.there, fun b xs q => ?_, fun b o u q => ?_, fun b ps q => ?_⟩, I.loc, I.cell, ?_, fun x c q => ?_, fun p hp => ?_, hok, I.len⟩
 ·have := I.base.free b o q n hx
  rw [upd_ne (nnon b this)]; exact this
 ·have := I.base.tups b xs q
  rw [upd_ne (ntup b xs this)]; exact this
 ·have := I.base.frzs b o u q
  rw [upd_ne (fun z => by subst z; exact h0 _ _ q)]; exact this
 ·obtain ⟨more, z⟩ := I.base.tbls b ps q
  exact ⟨more, by rw [upd_ne (fun w => by subst w; rw [z] at e; cases e)]; exact z⟩
 ·have := I.free
  rw [upd_ne (nnon _ this)]; exact this
 ·have := I.freeC x c q
  rw [upd_ne (nnon _ this)]; exact this
 ·obtain ⟨q1, q2, q3⟩ := I.pin p hp
  exact ⟨q1, by rw [upd_ne (nnon _ q2)]; exact q2, q3⟩
end
def tThaw (H0 : Hp) (t : TS) : TS := fun D σ H => t { D with nx := fun σ' H' => ∃ (a : Addr) (o : Obj) (kvs : List (Key × V)), H' a = some (.frz o (.dK kvs)) ∧ (∀ o u, H0 a ≠ some (.frz o u)) ∧ D.nx σ' (upd H' a (.dK kvs)) } σ H
theorem ps_thaw {X : Cx} {st : Stmt} {t : TS} (h : PS X st t) : PS X st (tThaw X.H₀ t) := by
 intro pins s σ H D I hw
 refine wpAny_mono (h pins s σ H _ I hw) (fun f s' q => ?_) fun _ _ e => e
 cases f with
 | next =>
  obtain ⟨σ', H', I', a, o, kvs, e, h0, q⟩ := q
  exact ⟨σ', _, I'.thaw e h0, q⟩
 | ret v => exact q
 | brk => exact q
 | cont => exact q
end L2
set_option maxHeartbeats 4000000
namespace L2
open PySem PySem.Spec PyProof.Rows
section
variable {X : Cx}
theorem strsAre_of {ys : List Str} : ∀ {us : List Value}, Vals (ys.map V.str) us → StrsAre us ys := by
 induction ys with
 | nil => intro us r; rw [List.map_nil] at r; cases r; exact .nil
 | cons y ys ih =>
  intro us r
  rw [List.map_cons] at r
  cases r with
  | cons r1 r2 =>
   obtain ⟨t, e⟩ := r1
   subst e
   exact .cons y t (ih r2)
def rJoin (K : PySem.W.Frag) : V → List V → Hp → VK → Prop := fun o xs H Q => ∃ sep p ys, o = .str sep ∧ xs = [.ref p] ∧ SqL K H p (List.map V.str ys) ∧ sep.length ≤ 16 ∧ (ys.map (·.length)).sum + ys.length ≤ 1048576 ∧ Q (.str (Txt.join sep ys)) H
theorem mt_join : MtR X "str.join" (rJoin X.K) := by
 intro pins s σ H x xs v us Q I rx rs h
 obtain ⟨sep, p, ys, rfl, rfl, hq, h1, h2, q⟩ := h
 obtain ⟨t, rfl⟩ := rx
 obtain ⟨u, rfl, ru⟩ := vals1 rs
 cases ru
 obtain ⟨its, rv, pl, _⟩ := I.list hq
 exact join_listW pl.isList (by simpa using strsAre_of rv) h1 h2 fun t' k => ⟨.str _, H, I.tok _, ⟨_, rfl⟩, q⟩
def rMulS : R2 := fun x y H Q => ∃ z n, x = .str z ∧ y = .int n ∧ MulOk z n ∧ Q (.str (Txt.mul z n)) H
theorem op_mulS : OpR X (binaryOp .Mult) rMulS := by
 intro pins s σ H x y v u Q I rx ry h
 obtain ⟨z, n, rfl, rfl, hok, q⟩ := h
 obtain ⟨t, rfl⟩ := rx
 obtain ⟨t', rfl⟩ := ry
 exact SB.mul hok fun t' k => ⟨.str _, H, I.tok _, ⟨_, rfl⟩, q⟩
end
end L2
namespace L2
open PySem PySem.Spec PyProof.Rows
theorem Str.ext' {a b : Str} (h : a.cps.toList = b.cps.toList) : a = b := by
 cases a; cases b
 simp only [Str.mk.injEq]
 exact Array.toList_inj.mp h
theorem glue_fold : ∀ (l : List Str) (a : Array Nat), (l.foldl (fun acc p => acc ++ (Str.ofString "").cps ++ p.cps) a).toList = a.toList ++ (l.map fun y => y.cps.toList).flatten
 | [], a => by simp
 | y :: r, a => by
  rw [List.foldl_cons, glue_fold r]
  have : (Str.ofString "").cps = #[] := by decide +kernel
  rw [this]
  simp
theorem join_cps (ys : List Str) : (Txt.join (Str.ofString "") ys).cps.toList = (ys.map fun y => y.cps.toList).flatten := by
 unfold Txt.join Builtin.Str.glued
 cases ys with
 | nil => rfl
 | cons y r =>
  show ((r.foldl (fun acc p => acc ++ (Str.ofString "").cps ++ p.cps) y.cps)).toList = _
  rw [glue_fold]
  simp
theorem mul_fold (c : Array Nat) : ∀ (n : Nat) (a : Array Nat), ((List.replicate n c).foldl (· ++ ·) a).toList = a.toList ++ (List.replicate n c.toList).flatten
 | 0, a => by simp
 | n + 1, a => by
  rw [List.replicate_succ, List.foldl_cons, mul_fold c n, List.replicate_succ]
  simp
theorem join_mul (r : Str) {n : Nat} (h : 1 ≤ n) (hr : r.length ≠ 0) : Txt.join (Str.ofString "") (List.replicate n r) = Txt.mul r n := by
 apply Str.ext'
 rw [join_cps, List.map_replicate]
 unfold Txt.mul
 rw [if_neg (by omega)]
 by_cases c : n = 1
 ·subst c
  rw [if_pos (by rfl)]
  simp
 ·rw [if_neg]
  ·show _ = ((List.replicate ((n : Int)).toNat r.cps).foldl (· ++ ·) #[]).toList
   rw [Int.toNat_natCast, mul_fold]
   simp
  ·simp only [Bool.or_eq_true, beq_iff_eq]
   omega
end L2
set_option maxHeartbeats 4000000
namespace KT
open PySem L2
def aftN (i : Nat) : Nat := if i % 3 = 2 then i - 2 else i + 1
theorem aftN_eq (i : Nat) : after (i : Int) = (aftN i : Int) := by unfold after aftN; split <;> split <;> omega
def nxC (M : List (Option Nat)) (c : Nat) : Option Nat := (M[aftN c]?).join
abbrev InvM (M : List (Option Nat)) : Prop := ∀ (i j : Nat), M[i]? = some (some j) → M[j]? = some (some i) ∧ i ≠ j
def letS (M : List (Option Nat)) (a p : Nat) : Str := if p = aftN ((M.getD a none).getD 0) then Str.ofString "R" else Str.ofString "L"
def letL (M : List (Option Nat)) (ws : List Nat) : List Str := (ws.zip (rot ws (1 % ws.length))).map fun q => letS M q.1 q.2
end KT
set_option maxHeartbeats 4000000
namespace KT
open PySem L2
abbrev sR : Str := Str.ofString "R"
abbrev sL : Str := Str.ofString "L"
theorem sR_is : sR = ⟨#[82]⟩ := by decide +kernel
theorem sL_is : sL = ⟨#[76]⟩ := by decide +kernel
def isLR (y : Str) : Prop := y = sR ∨ y = sL
theorem lr_code {y : Str} (h : isLR y) : ∃ c, y = ⟨#[c]⟩ ∧ c < 128 := by
 rcases h with rfl | rfl
 ·exact ⟨82, sR_is, by decide⟩
 ·exact ⟨76, sL_is, by decide⟩
theorem codes : ∀ (ys : List Str), (∀ y ∈ ys, isLR y) → ∃ cs : List Nat, (ys.map fun y => y.cps.toList).flatten = cs ∧ cs.length = ys.length ∧ (∀ c ∈ cs, c < 128) ∧ ∀ (i c : Nat), cs[i]? = some c → ys[i]? = some ⟨#[c]⟩
 | [], _ => ⟨[], rfl, rfl, (fun c hc => absurd hc List.not_mem_nil), fun i c h => (by simp at h)⟩
 | y :: r, h => by
  obtain ⟨c, rfl, hc⟩ := lr_code (h y List.mem_cons_self)
  obtain ⟨cs, e, hl, h1, h2⟩ := codes r fun z hz => h z (List.mem_cons_of_mem _ hz)
  refine ⟨c :: cs, by rw [List.map_cons, List.flatten_cons, e]; rfl, by simp [hl], fun z hz => ?_, fun i z hz => ?_⟩
  ·rcases List.mem_cons.mp hz with rfl | hz
   ·exact hc
   ·exact h1 z hz
  ·cases i with
   | zero => cases hz; rfl
   | succ i => exact h2 i z hz
theorem join_walk {ys : List Str} (h : ∀ y ∈ ys, isLR y) : (Txt.join (Str.ofString "") ys).cps.all (· < 128) = true ∧ (Txt.join (Str.ofString "") ys).cps.size = ys.length ∧ ∀ (i c : Nat), (Txt.join (Str.ofString "") ys).cps[i]? = some c → ys[i]? = some ⟨#[c]⟩ := by
 obtain ⟨cs, e, hl, h1, h2⟩ := codes ys h
 have e' : (Txt.join (Str.ofString "") ys).cps.toList = cs := by rw [join_cps, e]
 generalize (Txt.join (Str.ofString "") ys).cps = arr at e'
 subst e'
 refine ⟨?_, by rw [← hl]; simp, fun i c hc => h2 i c (by simpa using hc)⟩
 rw [← Array.all_toList, List.all_eq_true]
 exact fun c hc => decide_eq_true (h1 c hc)
section
variable {M : List (Option Nat)} {a : Nat} {ys : List Str}
theorem letL_lr (M : List (Option Nat)) (ws : List Nat) : ∀ y ∈ letL M ws, isLR y := fun y hy => by
 obtain ⟨q, _, rfl⟩ := List.mem_map.mp hy
 unfold letS
 split
 ·exact .inl rfl
 ·exact .inr rfl
theorem letL_len (M : List (Option Nat)) (ws : List Nat) (h : 0 < ws.length) : (letL M ws).length = ws.length := by
 unfold letL
 rw [List.length_map, List.length_zip, rot_len _ (Nat.le_of_lt (Nat.mod_lt _ h)), Nat.min_self]
end
end KT
set_option maxHeartbeats 4000000
namespace L2
open PySem PySem.Spec PyProof.Rows
end L2
set_option maxHeartbeats 4000000
namespace L2
open PySem PySem.Spec PyProof.Rows
section
variable {X : Cx}
theorem op_notIn_seqK (K : PySem.W.Frag) (h : X.K = K := by rfl) : OpR X (compareOp .NotIn) (rIn K true) := h ▸ op_notIn_seq
end
end L2
set_option maxHeartbeats 4000000
namespace L2
open PySem PySem.Spec PyProof.Rows PySem.SeqAt
end L2
set_option maxHeartbeats 4000000
namespace KT
open PySem L2
end KT
set_option maxHeartbeats 4000000
namespace KT
open PySem L2
theorem filter_split {P : Nat → Bool} : ∀ (l : List Nat) (k h : Nat), (l.filter P)[k]? = some h → ∃ l1 l2, l = l1 ++ h :: l2 ∧ P h = true ∧ (l1.filter P).length = k
 | [], k, h, e => by simp at e
 | x :: r, k, h, e => by
  by_cases c : P x = true
  ·rw [List.filter_cons_of_pos c] at e
   cases k with
   | zero => cases e; exact ⟨[], r, rfl, c, rfl⟩
   | succ k =>
    obtain ⟨l1, l2, e1, e2, e3⟩ := filter_split r k h e
    exact ⟨x :: l1, l2, by rw [e1]; rfl, e2, by rw [List.filter_cons_of_pos c, List.length_cons, e3]⟩
  ·rw [List.filter_cons_of_neg c] at e
   obtain ⟨l1, l2, e1, e2, e3⟩ := filter_split r k h e
   exact ⟨x :: l1, l2, by rw [e1]; rfl, e2, by rw [List.filter_cons_of_neg c, e3]⟩
theorem filter_next {P : Nat → Bool} {l : List Nat} {k h : Nat} (hk : (l.filter P)[k]? = some h) : ∃ j, l[j]? = some h ∧ ∀ p, l[(j + 1) % l.length]? = some p → P p = true → (l.filter P)[(k + 1) % (l.filter P).length]? = some p := by
 obtain ⟨l1, l2, e, hh, hl⟩ := filter_split l k h hk
 subst e
 refine ⟨l1.length, by rw [List.getElem?_append_right (Nat.le_refl _), Nat.sub_self]; rfl, fun p hp hP => ?_⟩
 have ef : (l1 ++ h :: l2).filter P = l1.filter P ++ h :: l2.filter P := by rw [List.filter_append, List.filter_cons_of_pos hh]
 rw [ef]
 cases l2 with
 | cons q r =>
  rw [Nat.mod_eq_of_lt (by simp), List.getElem?_append_right (by omega), show l1.length + 1 - l1.length = 1 by omega] at hp
  have hp : some q = some p := hp
  cases hp
  rw [List.filter_cons_of_pos hP, Nat.mod_eq_of_lt (by simp; omega), List.getElem?_append_right (by omega), show k + 1 - (l1.filter P).length = 1 by omega]
  rfl
 | nil =>
  rw [show (l1 ++ [h]).length = l1.length + 1 by simp, Nat.mod_self] at hp
  rw [show (l1.filter P ++ h :: ([] : List Nat).filter P).length = k + 1 by simp [hl], Nat.mod_self]
  cases l1 with
  | nil => cases hp; rfl
  | cons q r =>
   have hp : some q = some p := hp
   cases hp
   rw [List.filter_cons_of_pos hP]
   rfl
theorem mv_cloth {left : Bool} {a b z : Nat} (h : z / 3 = a / 3 ∨ z / 3 = b / 3) : mvN left a b z / 3 = a / 3 ∨ mvN left a b z / 3 = b / 3 := by
 have e := mvN_eq left a b z
 have h1 := (after_div a).1
 have h2 := (before_div a).1
 have h3 := (after_div b).1
 have h4 := (before_div b).1
 rcases mv_cases left a b z with c | c | c | c | c <;> rw [c] at e <;> omega
theorem mv_out {left : Bool} {a b z : Nat} (h1 : z / 3 ≠ a / 3) (h2 : z / 3 ≠ b / 3) : mvN left a b z = z := by
 have e := mvN_eq left a b z
 have d1 := (after_div a).1
 have d2 := (before_div a).1
 have d3 := (after_div b).1
 have d4 := (before_div b).1
 have : mvI left a b z = z := by
  unfold mvI
  rw [if_neg (by omega), if_neg (by omega), if_neg (by omega), if_neg (by omega)]
 omega
def keepB (a b q : Nat) : Bool := !decide (q = a) && !decide (q = b)
def keptL (a b : Nat) (ws : List Nat) : List Nat := ws.filter (keepB a b)
def mtN (M : List (Option Nat)) (h : Nat) : Nat := (M.getD h none).getD 0
def crossL (a b e f : Nat) : List Nat := if e / 3 = f / 3 then [] else [a, b].filter fun q => decide (q / 3 = e / 3)
def pullAt (M : List (Option Nat)) (left : Bool) (a b h f : Nat) : List Nat := mvN left a b h :: crossL a b (mvN left a b (mtN M h)) (mvN left a b f)
def pairsL (ks : List Nat) : List (Nat × Nat) := ks.zip (rot ks (1 % ks.length))
def pullL (M : List (Option Nat)) (left : Bool) (a b : Nat) (ps : List (Nat × Nat)) : List Nat := (ps.map fun q => pullAt M left a b q.1 q.2).flatten
theorem crossL_len (a b e f : Nat) : (crossL a b e f).length ≤ 2 := by
 unfold crossL
 split
 ·exact Nat.zero_le _
 ·exact List.length_filter_le _ _
theorem pullL_len (M : List (Option Nat)) (left : Bool) (a b : Nat) : ∀ ps : List (Nat × Nat), (pullL M left a b ps).length ≤ 3 * ps.length
 | [] => Nat.le_refl _
 | q :: r => by
  have ih := pullL_len M left a b r
  have h1 := crossL_len a b (mvN left a b (mtN M q.1)) (mvN left a b q.2)
  have e : pullL M left a b (q :: r) = pullAt M left a b q.1 q.2 ++ pullL M left a b r := rfl
  rw [e, List.length_append]
  unfold pullAt
  rw [List.length_cons, List.length_cons]
  omega
theorem pullL_step {M : List (Option Nat)} {left : Bool} {a b i h f : Nat} {ps : List (Nat × Nat)} (hq : ps[i]? = some (h, f)) : pullL M left a b (ps.take (i + 1)) = pullL M left a b (ps.take i) ++ pullAt M left a b h f := by
 unfold pullL
 rw [List.take_add_one, hq, List.map_append, List.flatten_append]
 simp
theorem pairs_get {ks : List Nat} {k h f : Nat} (hh : ks[k]? = some h) (hf : ks[(k + 1) % ks.length]? = some f) : (pairsL ks)[k]? = some (h, f) := by
 have hk := (List.getElem?_eq_some_iff.mp hh).1
 unfold pairsL
 rw [List.getElem?_zip_eq_some]
 refine ⟨hh, ?_⟩
 rw [rot_get (Nat.mod_lt _ (by omega)) hk, Nat.add_mod_mod]
 exact hf
theorem pairs_len (ks : List Nat) : (pairsL ks).length = ks.length := by
 unfold pairsL
 by_cases z : ks.length = 0
 ·have : ks = [] := List.length_eq_zero_iff.mp z
  subst this; rfl
 ·rw [List.length_zip, rot_len _ (Nat.le_of_lt (Nat.mod_lt _ (by omega))), Nat.min_self]
theorem side_ok {M : List (Option Nat)} {left : Bool} {a b k h f m : Nat} {ws : List Nat} (hP : Pl M ws) (hh : (keptL a b ws)[k]? = some h) (hf : (keptL a b ws)[(k + 1) % (keptL a b ws).length]? = some f) (hm : M[h]? = some (some m)) (hne : mvN left a b m / 3 ≠ mvN left a b f / 3) : mvN left a b m / 3 = a / 3 ∨ mvN left a b m / 3 = b / 3 := by
 by_cases c : m / 3 = a / 3 ∨ m / 3 = b / 3
 ·exact mv_cloth c
 ·exfalso
  have c1 : m / 3 ≠ a / 3 := fun z => c (.inl z)
  have c2 : m / 3 ≠ b / 3 := fun z => c (.inr z)
  obtain ⟨j, hj, nx⟩ := filter_next hh
  have hjl := (List.getElem?_eq_some_iff.mp hj).1
  have ep := List.getElem?_eq_getElem (Nat.mod_lt (j + 1) (show 0 < ws.length by omega))
  obtain ⟨p1, p2⟩ := hP.nxt j h _ hj ep m hm
  have hk : keepB a b (ws[(j + 1) % ws.length]'(Nat.mod_lt _ (by omega))) = true := by
   unfold keepB
   rw [decide_eq_false (fun z => c1 (by rw [← p1, z])), decide_eq_false (fun z => c2 (by rw [← p1, z]))]
   rfl
  have e := nx _ ep hk
  have hf' : ((ws.filter (keepB a b))[(k + 1) % (ws.filter (keepB a b)).length]?) = some f := hf
  rw [hf'] at e
  cases e
  rw [mv_out c1 c2, mv_out (by rw [p1]; exact c1) (by rw [p1]; exact c2)] at hne
  exact hne p1.symm
theorem cross_one {a b e f : Nat} (hab : a / 3 ≠ b / 3) (hne : e / 3 ≠ f / 3) (he : e / 3 = a / 3 ∨ e / 3 = b / 3) : crossL a b e f = [if a / 3 = e / 3 then a else b] := by
 unfold crossL
 rw [if_neg hne]
 rcases he with he | he
 ·rw [if_pos he.symm, List.filter_cons_of_pos (by simp [he]), List.filter_cons_of_neg (by simp only [decide_eq_true_eq]; omega)]
  rfl
 ·rw [if_neg (by omega), List.filter_cons_of_neg (by simp only [decide_eq_true_eq]; omega), List.filter_cons_of_pos (by simp [he])]
  rfl
end KT
set_option maxHeartbeats 4000000
namespace KT
open PySem L2
end KT
set_option maxHeartbeats 4000000
namespace KT
open PySem L2
end KT
set_option maxHeartbeats 4000000
namespace KT
open PySem L2
end KT
set_option maxHeartbeats 4000000
namespace KT
open PySem L2
section
variable {M : List (Option Nat)} {ns : List Int} {left : Bool} {a b : Nat}
theorem pairs_at {ks : List Nat} {k : Nat} (hk : k < ks.length) : (pairsL ks)[k]? = some (ks[k], ks[(k + 1) % ks.length]'(Nat.mod_lt _ (by omega))) := pairs_get (List.getElem?_eq_getElem hk) (List.getElem?_eq_getElem _)
structure MinP {α : Type} (u : List α) (d : Nat) : Prop where
 d1 : 1 ≤ d
 d2 : d ≤ u.length
 per : rot u (d % u.length) = u
 min : ∀ e, 1 ≤ e → e < d → rot u (e % u.length) ≠ u
theorem MinP.rep {α : Type} {ws : List α} {d : Nat} (h : MinP ws d) : ∃ c, c * d = ws.length ∧ (List.replicate c (ws.take d)).flatten = ws := by
 obtain ⟨d1, d2, hd, hmin⟩ := h
 have hp : 0 < ws.length := by omega
 have per : ∀ e, (rot ws (e % ws.length) = ws ↔ ∀ k, k < ws.length → ws[(k + e) % ws.length]? = ws[k]?) := fun e => by
  rw [rot_iff (Nat.mod_lt _ hp)]
  constructor
  ·intro h k hk; have := h k hk; rw [Nat.add_mod_mod] at this; exact this
  ·intro h k hk; rw [Nat.add_mod_mod]; exact h k hk
 have pd := (per d).mp hd
 have hdiv : d ∣ ws.length := by
  rw [Nat.dvd_iff_mod_eq_zero]
  by_cases z : ws.length % d = 0
  ·exact z
  exfalso
  have hr' : ws.length % d < d := Nat.mod_lt _ (by omega)
  refine hmin (ws.length % d) (by omega) hr' ((per _).mpr fun k hk => ?_)
  have e1 := per_mul pd hp (ws.length / d) (k + ws.length % d)
  have e2 : k + ws.length % d + ws.length / d * d = k + ws.length := by
   have := Nat.div_add_mod ws.length d
   rw [Nat.mul_comm] at this
   omega
  rw [e2, Nat.add_mod_right, Nat.mod_eq_of_lt hk] at e1
  exact e1.symm
 have hq : ws.length / d * d = ws.length := Nat.div_mul_cancel hdiv
 refine ⟨ws.length / d, hq, (rep_iff (by omega) hq).mpr fun k hk => ?_⟩
 have e1 := per_mul pd hp (k / d) (k % d)
 have e2 : k % d + k / d * d = k := by have := Nat.div_add_mod k d; rw [Nat.mul_comm] at this; omega
 have e3 : k % d < ws.length := Nat.lt_of_lt_of_le (Nat.mod_lt _ (by omega)) d2
 rw [e2, Nat.mod_eq_of_lt hk, Nat.mod_eq_of_lt e3] at e1
 exact e1.symm
theorem rep_succ {α : Type} (x : List α) (c : Nat) : (List.replicate (c + 1) x).flatten = (List.replicate c x).flatten ++ x := by
 rw [List.replicate_succ', List.flatten_append]; simp
theorem pairs_rep (x : List Nat) : ∀ c, pairsL (List.replicate c x).flatten = (List.replicate c (pairsL x)).flatten := fun c => by
 apply List.ext_getElem?
 intro k
 have hl : (List.replicate c x).flatten.length = c * x.length := repl_len x c
 by_cases hk : k < c * x.length
 ·have hx : 0 < x.length := by
   rcases Nat.eq_zero_or_pos x.length with z | z
   ·rw [z, Nat.mul_zero] at hk; omega
   ·exact z
  have hc : 0 < c := by
   rcases Nat.eq_zero_or_pos c with z | z
   ·rw [z, Nat.zero_mul] at hk; omega
   ·exact z
  have m := Nat.mod_lt k hx
  have e1 : (List.replicate c x).flatten[k]? = x[k % x.length]? := repl_get x c k hk
  have k1 : (k + 1) % (c * x.length) < c * x.length := Nat.mod_lt _ (by omega)
  have e2 : (List.replicate c x).flatten[(k + 1) % (c * x.length)]? = x[(k % x.length + 1) % x.length]? := by
   rw [repl_get x c _ k1, Nat.mod_mul_left_mod, Nat.mod_add_mod]
  rw [repl_get (pairsL x) c k (by rw [pairs_len]; exact hk), pairs_len, pairs_at m]
  refine pairs_get ?_ ?_
  ·rw [e1, List.getElem?_eq_getElem m]
  ·rw [hl, e2, List.getElem?_eq_getElem]
 ·rw [List.getElem?_eq_none (by rw [pairs_len]; omega), List.getElem?_eq_none (by rw [repl_len, pairs_len]; omega)]
theorem MinP.uniq {α : Type} {u : List α} {d e : Nat} (h : MinP u d) (g : MinP u e) : d = e := by
 rcases Nat.lt_trichotomy d e with z | z | z
 ·exact absurd h.per (g.min d h.d1 z)
 ·exact z
 ·exact absurd g.per (h.min e g.d1 z)
end
end KT
set_option maxHeartbeats 4000000
namespace KT
open PySem L2
end KT
set_option maxHeartbeats 4000000
namespace KT
open PySem L2
end KT
set_option maxHeartbeats 4000000
namespace KT
open PySem L2
end KT
set_option maxHeartbeats 4000000
namespace L2
open PySem PySem.Spec PyProof.Rows PySem.SeqAt
end L2
set_option maxHeartbeats 4000000
namespace L2
open PySem PySem.Spec PyProof.Rows
abbrev TBX := St → Hp → (St → Hp → Prop) → XK → Prop
end L2
set_option maxHeartbeats 4000000
namespace L2
open PySem PySem.Spec PyProof.Rows
end L2
set_option maxHeartbeats 4000000
namespace HL
open PySem PyProof.Rows HT
end HL
namespace L2
open PySem PySem.Spec PyProof.Rows
end L2
set_option maxHeartbeats 4000000
namespace L2
open PySem PySem.Spec PyProof.Rows
end L2
set_option maxHeartbeats 4000000
namespace L2
open PySem PySem.Spec PyProof.Rows
theorem call_abs1 {X : Cx} : CallR X (.builtin "abs") (fun xs H Q => ∃ i : Int, xs = [.int i] ∧ Q (.int (i.natAbs : Int)) H) := by
 intro pins s σ H xs us Q I r h
 obtain ⟨i, rfl, q⟩ := h
 obtain ⟨u, rfl, t, rfl⟩ := vals1 r
 refine call_abs_int fun u tk => ⟨.int _, H, I.tok _, ⟨_, rfl⟩, ?_⟩
 have e : (if i < 0 then -i else i) = (i.natAbs : Int) := by split <;> omega
 rw [e]
 exact q
end L2
set_option maxHeartbeats 4000000
namespace KT
open PySem L2
section
variable {α β : Type}
abbrev rp (m : Nat) (l : List α) : List α := (List.replicate m l).flatten
theorem rp_succ (m : Nat) (l : List α) : rp (m + 1) l = l ++ rp m l := by unfold rp; rw [List.replicate_succ, List.flatten_cons]
theorem rp_map (f : α → β) (m : Nat) (l : List α) : (rp m l).map f = rp m (l.map f) := by unfold rp; rw [List.map_flatten, List.map_replicate]
theorem rp_rev : ∀ (m : Nat) (l : List α), (rp m l).reverse = rp m l.reverse
 | 0, l => rfl
 | m + 1, l => by rw [show rp (m + 1) l = rp m l ++ l from rep_succ l m, List.reverse_append, rp_rev m l, rp_succ]
theorem rp_rot {l : List α} {m b : Nat} (hb : b < m * l.length) : rot (rp m l) b = rp m (rot l (b % l.length)) := by
 have hn : 0 < l.length := by
  rcases Nat.eq_zero_or_pos l.length with z | z
  ·rw [z, Nat.mul_zero] at hb; omega
  ·exact z
 have hl := repl_len l m
 have hb' := Nat.mod_lt b hn
 have hrl := rot_len l (Nat.le_of_lt hb')
 apply List.ext_getElem?
 intro k
 rcases Nat.lt_or_ge k (m * l.length) with hk | hk
 ·rw [rot_get (by rw [hl]; exact hb) (by rw [hl]; exact hk), hl, repl_get l m _ (Nat.mod_lt _ (by omega)), Nat.mod_mul_left_mod]
  rw [repl_get _ m k (by rw [hrl]; exact hk), hrl, rot_get hb' (Nat.mod_lt _ hn), Nat.mod_add_mod, Nat.add_mod_mod]
 ·rw [List.getElem?_eq_none (by rw [rot_len _ (by rw [hl]; omega), hl]; exact hk), List.getElem?_eq_none (by rw [repl_len, hrl]; exact hk)]
theorem rp_inj {l r : List α} {m : Nat} (hm : 0 < m) (e : l.length = r.length) (h : rp m l = rp m r) : l = r := by
 cases m with
 | zero => omega
 | succ m =>
  rw [rp_succ, rp_succ] at h
  exact (List.append_inj h e).1
theorem rp_count (f : α → Bool) : ∀ (m : Nat) (l : List α), (rp m l).countP f = m * l.countP f
 | 0, l => by simp [rp]
 | m + 1, l => by rw [rp_succ, List.countP_append, rp_count f m l, Nat.succ_mul, Nat.add_comm]
theorem MinP.times {u : List α} {d m : Nat} (h : MinP u d) (hm : 0 < m) : MinP (rp m u) d := by
 have hp : 0 < u.length := Nat.lt_of_lt_of_le h.d1 h.d2
 have hl := repl_len u m
 have hle : u.length ≤ m * u.length := Nat.le_mul_of_pos_left _ hm
 refine ⟨h.d1, by rw [hl]; exact Nat.le_trans h.d2 hle, ?_, fun e e1 e2 z => ?_⟩
 ·rw [hl, rp_rot (Nat.mod_lt _ (by omega)), Nat.mod_mul_left_mod, h.per]
 ·rw [hl, rp_rot (Nat.mod_lt _ (by omega)), Nat.mod_mul_left_mod] at z
  exact h.min e e1 e2 (rp_inj hm (rot_len _ (Nat.le_of_lt (Nat.mod_lt _ hp))) z)
theorem times_rp {u : List α} {d d' m : Nat} (h : MinP u d) (h' : MinP (rp m u) d') (hm : 0 < m) : (rp m u).length / d' = m * (u.length / d) := by
 rw [h'.uniq (h.times hm), repl_len]
 obtain ⟨c, hc, _⟩ := h.rep
 have d1 := h.d1
 rw [← hc, Nat.mul_div_cancel _ (by omega), ← Nat.mul_assoc, Nat.mul_div_cancel _ (by omega)]
end
theorem let_rp (M : List (Option Nat)) (m : Nat) (ws : List Nat) : letL M (rp m ws) = rp m (letL M ws) := by
 show (pairsL (rp m ws)).map _ = rp m ((pairsL ws).map _)
 rw [show pairsL (rp m ws) = rp m (pairsL ws) from pairs_rep ws m, rp_map]
theorem join_rp {ys : List Str} {m : Nat} (hm : 1 ≤ m) (h0 : (Txt.join (Str.ofString "") ys).length ≠ 0) : Txt.join (Str.ofString "") (rp m ys) = Txt.mul (Txt.join (Str.ofString "") ys) m := by
 rw [← join_mul _ hm h0]
 have : ∀ a b : Str, a.cps.toList = b.cps.toList → a = b := fun a b e => by
  cases a; cases b
  congr 1
  exact Array.toList_inj.mp e
 apply this
 rw [join_cps, join_cps, rp_map, List.map_replicate, join_cps]
 unfold rp
 induction m with
 | zero => rfl
 | succ m ih =>
  rcases Nat.eq_zero_or_pos m with z | z
  ·subst z; simp
  ·rw [List.replicate_succ, List.replicate_succ, List.flatten_cons, List.flatten_append, List.flatten_cons, ih z]
theorem lex_app : ∀ (x y c d : List Int), x.length = y.length → HT.lexLt (x ++ c) (y ++ d) = (HT.lexLt x y || (decide (x = y) && HT.lexLt c d))
 | [], [], c, d, _ => by simp [HT.lexLt_nil_nil]
 | a :: x, b :: y, c, d, e => by
  have ih := lex_app x y c d (by simpa using e)
  rw [List.cons_append, List.cons_append, HT.lexLt_cons, HT.lexLt_cons]
  by_cases z : a = b
  ·subst z
   rw [if_pos rfl, if_pos rfl, ih]
   simp
  ·rw [if_neg z, if_neg z, decide_eq_false (show ¬ a :: x = b :: y from fun q => z (by injection q))]
   simp
theorem lex_rp {x y : List Int} (e : x.length = y.length) : ∀ m, 0 < m → HT.lexLt (rp m x) (rp m y) = HT.lexLt x y
 | 0, h => absurd h (by decide)
 | m + 1, _ => by
  rw [rp_succ, rp_succ, lex_app _ _ _ _ e]
  rcases Nat.eq_zero_or_pos m with z | z
  ·subst z
   rw [show rp 0 x = [] from rfl, show rp 0 y = [] from rfl, HT.lexLt_nil_nil]
   simp
  ·rw [lex_rp e m z]
   cases HT.lexLt x y <;> simp
theorem least_rp {S S' : List Int → Prop} {L : List Int} {m n : Nat} (hm : 0 < m) (h : HT.IsLeast S L) (hl : ∀ x, S x → x.length = n) (hs : ∀ x, S' x ↔ ∃ y, S y ∧ x = rp m y) : HT.IsLeast S' (rp m L) := by
 refine ⟨(hs _).mpr ⟨L, h.1, rfl⟩, fun x hx => ?_⟩
 obtain ⟨y, hy, rfl⟩ := (hs x).mp hx
 rw [lex_rp (by rw [hl y hy, hl L h.1]) m hm]
 exact h.2 y hy
end KT
set_option maxHeartbeats 4000000
set_option genInjectivity false
set_option genSizeOf false
namespace KT
open PySem L2
def bmV : List Value := [.type "ValueError", .type "Exception", .type "BaseException", .type "object"]
theorem FBV : ExcBaseFacts "ValueError" "ValueError.__new__" "ValueError.__init__" bmV := PySem.F.excBase_ValueError
theorem map_some {α : Type} {f : α → V} {l : List α} {i : Nat} {y : V} (h : (l.map f)[i]? = some y) : ∃ q, l[i]? = some q ∧ y = f q := by
 rw [List.getElem?_map] at h
 cases e : l[i]? with
 | none => rw [e] at h; cases h
 | some q => rw [e] at h; cases h; exact ⟨q, rfl, rfl⟩
structure FT (K : PySem.W.Frag) (mg : Str → Option Value) (x : Str) (st : Stmt) (ps : List Str) (f : Addr) (d : FuncData) : Prop where
 F : Fun K x x st f d
 b : Binds K d ps []
 g : mg x = some (.ref f)
structure FM (K : PySem.W.Frag) (C : Addr) (x q : Str) (st : Stmt) (ps : List Str) (f : Addr) (d : FuncData) : Prop where
 F : Fun K x q st f d
 b : Binds K d ps []
 m : Meth K C x f
def BA (q : Str) (st : Stmt) (ps : List Str) : Prop := ∀ (x : Str) (kV doc pm : Value) (an : Option Addr) (cdv ct : Value) (us : List Value), us.length = ps.length → bindArgs (PySem.W.fnOf x q (defArgs st) (defBody st) (defScope st) .none kV doc pm an cdv ct) ⟨us, []⟩ = pure (ps.zip us)
theorem ba1 {q : Str} {st : Stmt} {ps : List Str} (h : ∀ (x : Str) (kV doc pm : Value) (an : Option Addr) (cdv ct : Value) (a : Value), bindArgs (PySem.W.fnOf x q (defArgs st) (defBody st) (defScope st) .none kV doc pm an cdv ct) ⟨[a], []⟩ = pure (ps.zip [a])) (hl : ps.length = 1) : BA q st ps := fun x kV doc pm an cdv ct us e => by
 rw [hl] at e
 match us, e with
 | [a], _ => exact h x kV doc pm an cdv ct a
theorem ba2 {q : Str} {st : Stmt} {ps : List Str} (h : ∀ (x : Str) (kV doc pm : Value) (an : Option Addr) (cdv ct : Value) (a b : Value), bindArgs (PySem.W.fnOf x q (defArgs st) (defBody st) (defScope st) .none kV doc pm an cdv ct) ⟨[a, b], []⟩ = pure (ps.zip [a, b])) (hl : ps.length = 2) : BA q st ps := fun x kV doc pm an cdv ct us e => by
 rw [hl] at e
 match us, e with
 | [a, b], _ => exact h x kV doc pm an cdv ct a b
theorem ba3 {q : Str} {st : Stmt} {ps : List Str} (h : ∀ (x : Str) (kV doc pm : Value) (an : Option Addr) (cdv ct : Value) (a b c : Value), bindArgs (PySem.W.fnOf x q (defArgs st) (defBody st) (defScope st) .none kV doc pm an cdv ct) ⟨[a, b, c], []⟩ = pure (ps.zip [a, b, c])) (hl : ps.length = 3) : BA q st ps := fun x kV doc pm an cdv ct us e => by
 rw [hl] at e
 match us, e with
 | [a, b, c], _ => exact h x kV doc pm an cdv ct a b c
theorem ba4 {q : Str} {st : Stmt} {ps : List Str} (h : ∀ (x : Str) (kV doc pm : Value) (an : Option Addr) (cdv ct : Value) (a b c d : Value), bindArgs (PySem.W.fnOf x q (defArgs st) (defBody st) (defScope st) .none kV doc pm an cdv ct) ⟨[a, b, c, d], []⟩ = pure (ps.zip [a, b, c, d])) (hl : ps.length = 4) : BA q st ps := fun x kV doc pm an cdv ct us e => by
 rw [hl] at e
 match us, e with
 | [a, b, c, d], _ => exact h x kV doc pm an cdv ct a b c d
section
variable {K : PySem.W.Frag} {h : Heap} {mg : Str → Option Value} {C : Addr} {x q : Str} {st : Stmt} {ps : List Str} {f : Addr} {oc : Value} {od an : Option Addr} {sl : Array (Option Value)} {kV doc pm cd ct : Value}
theorem FT.of (X : K.In h) (G : h.Ns mainGlobals mg) (B : BA x st ps) (a : PySem.W.nsIn K mainGlobals x = some (some (.ref f))) (l : K.lookup f = some ⟨oc, od, .func (PySem.W.fnOf x x (defArgs st) (defBody st) (defScope st) .none kV doc pm an cd ct), sl⟩)
  (c : PySem.W.codeIn K cd x = true) (k : PySem.W.keepIn K (.ref f) = true) : FT K mg x st ps f (PySem.W.fnOf x x (defArgs st) (defBody st) (defScope st) .none kV doc pm an cd ct) := ⟨fun_mk l c k, (fun_mk l c k).binds (B x), PySem.W.mg_of X G a⟩
theorem FM.of (B : BA q st ps) (a : PySem.W.findIn K (.ref C) x = some (some (.ref f))) (i : PySem.W.isFn K (.ref f) = true) (l : K.lookup f = some ⟨oc, od, .func (PySem.W.fnOf x q (defArgs st) (defBody st) (defScope st) .none kV doc pm an cd ct), sl⟩)
  (c : PySem.W.codeIn K cd q = true) (k : PySem.W.keepIn K (.ref f) = true) : FM K C x q st ps f (PySem.W.fnOf x q (defArgs st) (defBody st) (defScope st) .none kV doc pm an cd ct) := ⟨fun_mk l c k, (fun_mk l c k).binds (B x), ⟨a, i, k⟩⟩
end
def top (i : Nat) : Stmt := PySem.Challenge.pw_tentloops_k19_long_threads.main.body.getD i (.Pass ⟨0, 0, 0, 0⟩)
abbrev s_after : Stmt := top 11
abbrev s_before : Stmt := top 12
abbrev s_cloth_of : Stmt := top 13
abbrev s_spots_of : Stmt := top 14
abbrev s_mates_of : Stmt := top 15
abbrev s_Tent_init : Stmt := inClass (top 16) 0
abbrev s_Tent_rows : Stmt := inClass (top 16) 1
abbrev s_Tent_size : Stmt := inClass (top 16) 2
abbrev s_Tent_seams : Stmt := inClass (top 16) 3
abbrev s_Tent_all_places : Stmt := inClass (top 16) 4
abbrev s_Tent_has_place : Stmt := inClass (top 16) 5
abbrev s_Tent_look_place : Stmt := inClass (top 16) 6
abbrev s_Tent_seam_at : Stmt := inClass (top 16) 7
abbrev s_Tent_places : Stmt := inClass (top 16) 8
abbrev s_Tent_mate : Stmt := inClass (top 16) 9
abbrev s_Tent_sort_of : Stmt := inClass (top 16) 10
abbrev s_crossable : Stmt := top 18
abbrev s_follows : Stmt := top 19
abbrev s_plain : Stmt := top 20
abbrev s_look_thread : Stmt := top 21
abbrev s_backward : Stmt := top 22
abbrev s_turned : Stmt := top 23
abbrev s_least_turn : Stmt := top 24
abbrev s_least : Stmt := top 25
abbrev s_alike : Stmt := top 26
abbrev s_times : Stmt := top 27
abbrev s_letter : Stmt := top 28
abbrev s_letters : Stmt := top 29
abbrev s_look_way : Stmt := top 32
abbrev s_look_free : Stmt := top 33
abbrev s_square : Stmt := top 34
abbrev s_shifts : Stmt := top 35
abbrev s_tally : Stmt := top 37
abbrev s_flow : Stmt := top 38
abbrev s_crossing_between : Stmt := top 40
abbrev s_pulled : Stmt := top 41
abbrev s_l_cell : Stmt := top 43
abbrev s_l_numbers : Stmt := top 44
abbrev s_l_sewn : Stmt := top 45
abbrev s_l_rows : Stmt := top 46
abbrev s_l_tent : Stmt := top 47
abbrev s_l_walk : Stmt := top 48
abbrev s_l_thread : Stmt := top 49
abbrev s_l_truth : Stmt := top 50
abbrev s_l_whole : Stmt := top 51
abbrev s_l_list : Stmt := top 52
abbrev s_l_dict : Stmt := top 53
abbrev s_l_named : Stmt := top 54
abbrev s_l_tally : Stmt := top 55
abbrev s_l_free : Stmt := top 56
abbrev s_l_around : Stmt := top 57
abbrev s_l_goals : Stmt := top 58
abbrev s_l_seam : Stmt := top 59
abbrev s_l_way : Stmt := top 60
abbrev s_l_pull : Stmt := top 61
abbrev s_law : Stmt := top 62
structure Adr where
 (C_Tent f_after f_before f_cloth_of f_spots_of f_mates_of f_Tent_init f_Tent_rows f_Tent_size f_Tent_seams f_Tent_all_places f_Tent_has_place f_Tent_look_place f_Tent_seam_at f_Tent_places f_Tent_mate f_Tent_sort_of f_crossable f_follows f_plain f_look_thread f_backward f_turned f_least_turn f_least f_alike f_times f_letter f_letters f_look_way f_look_free f_square f_shifts f_tally f_flow f_crossing_between f_pulled f_l_cell f_l_numbers f_l_sewn f_l_rows f_l_tent f_l_walk f_l_thread f_l_truth f_l_whole f_l_list f_l_dict f_l_named f_l_tally f_l_free f_l_around f_l_goals f_l_seam f_l_way f_l_pull f_law g_CONTRARY_WAYS E_NoPlace E_NoSeam E_Rim E_Locked E_NoWay E_NoThread : Addr)
 (d_after d_before d_cloth_of d_spots_of d_mates_of d_Tent_init d_Tent_rows d_Tent_size d_Tent_seams d_Tent_all_places d_Tent_has_place d_Tent_look_place d_Tent_seam_at d_Tent_places d_Tent_mate d_Tent_sort_of d_crossable d_follows d_plain d_look_thread d_backward d_turned d_least_turn d_least d_alike d_times d_letter d_letters d_look_way d_look_free d_square d_shifts d_tally d_flow d_crossing_between d_pulled d_l_cell d_l_numbers d_l_sewn d_l_rows d_l_tent d_l_walk d_l_thread d_l_truth d_l_whole d_l_list d_l_dict d_l_named d_l_tally d_l_free d_l_around d_l_goals d_l_seam d_l_way d_l_pull d_law : FuncData)
 (k_GREATEST_NAME : Tok)
structure Txt (w : World) (K : PySem.W.Frag) (mg : Str → Option Value) (t : Adr) : Prop where
 gC_Tent : mg "Tent" = some (.ref t.C_Tent)
 cl_Tent : Cls K t.C_Tent
 a_Tent_cloths : NoAttr K t.C_Tent "cloths"
 a_Tent_names_at : NoAttr K t.C_Tent "names_at"
 a_Tent_spots : NoAttr K t.C_Tent "spots"
 a_Tent_mates : NoAttr K t.C_Tent "mates"
 p_after : FT K mg "after" s_after ["place"] t.f_after t.d_after
 p_before : FT K mg "before" s_before ["place"] t.f_before t.d_before
 p_cloth_of : FT K mg "cloth_of" s_cloth_of ["place"] t.f_cloth_of t.d_cloth_of
 p_spots_of : FT K mg "spots_of" s_spots_of ["names_at"] t.f_spots_of t.d_spots_of
 p_mates_of : FT K mg "mates_of" s_mates_of ["spots", "count"] t.f_mates_of t.d_mates_of
 p_Tent_init : FM K t.C_Tent "__init__" "Tent.__init__" s_Tent_init ["self", "rows"] t.f_Tent_init t.d_Tent_init
 p_Tent_rows : FM K t.C_Tent "rows" "Tent.rows" s_Tent_rows ["self"] t.f_Tent_rows t.d_Tent_rows
 p_Tent_size : FM K t.C_Tent "size" "Tent.size" s_Tent_size ["self"] t.f_Tent_size t.d_Tent_size
 p_Tent_seams : FM K t.C_Tent "seams" "Tent.seams" s_Tent_seams ["self"] t.f_Tent_seams t.d_Tent_seams
 p_Tent_all_places : FM K t.C_Tent "all_places" "Tent.all_places" s_Tent_all_places ["self"] t.f_Tent_all_places t.d_Tent_all_places
 p_Tent_has_place : FM K t.C_Tent "has_place" "Tent.has_place" s_Tent_has_place ["self", "place"] t.f_Tent_has_place t.d_Tent_has_place
 p_Tent_look_place : FM K t.C_Tent "look_place" "Tent.look_place" s_Tent_look_place ["self", "place"] t.f_Tent_look_place t.d_Tent_look_place
 p_Tent_seam_at : FM K t.C_Tent "seam_at" "Tent.seam_at" s_Tent_seam_at ["self", "place"] t.f_Tent_seam_at t.d_Tent_seam_at
 p_Tent_places : FM K t.C_Tent "places" "Tent.places" s_Tent_places ["self", "seam"] t.f_Tent_places t.d_Tent_places
 p_Tent_mate : FM K t.C_Tent "mate" "Tent.mate" s_Tent_mate ["self", "place"] t.f_Tent_mate t.d_Tent_mate
 p_Tent_sort_of : FM K t.C_Tent "sort_of" "Tent.sort_of" s_Tent_sort_of ["self", "seam"] t.f_Tent_sort_of t.d_Tent_sort_of
 p_crossable : FT K mg "crossable" s_crossable ["tent", "place"] t.f_crossable t.d_crossable
 p_follows : FT K mg "follows" s_follows ["tent", "ahead", "place"] t.f_follows t.d_follows
 p_plain : FT K mg "plain" s_plain ["tent", "word"] t.f_plain t.d_plain
 p_look_thread : FT K mg "look_thread" s_look_thread ["tent", "word"] t.f_look_thread t.d_look_thread
 p_backward : FT K mg "backward" s_backward ["tent", "word"] t.f_backward t.d_backward
 p_turned : FT K mg "turned" s_turned ["word", "by"] t.f_turned t.d_turned
 p_least_turn : FT K mg "least_turn" s_least_turn ["word"] t.f_least_turn t.d_least_turn
 p_least : FT K mg "least" s_least ["tent", "word"] t.f_least t.d_least
 p_alike : FT K mg "alike" s_alike ["tent", "one", "other"] t.f_alike t.d_alike
 p_times : FT K mg "times" s_times ["tent", "word"] t.f_times t.d_times
 p_letter : FT K mg "letter" s_letter ["tent", "ahead", "place"] t.f_letter t.d_letter
 p_letters : FT K mg "letters" s_letters ["tent", "word"] t.f_letters t.d_letters
 p_look_way : FT K mg "look_way" s_look_way ["way"] t.f_look_way t.d_look_way
 p_look_free : FT K mg "look_free" s_look_free ["tent", "seam"] t.f_look_free t.d_look_free
 p_square : FT K mg "square" s_square ["tent", "seam"] t.f_square t.d_square
 p_shifts : FT K mg "shifts" s_shifts ["tent", "seam", "way"] t.f_shifts t.d_shifts
 p_tally : FT K mg "tally" s_tally ["tent", "word"] t.f_tally t.d_tally
 p_flow : FT K mg "flow" s_flow ["tent", "word"] t.f_flow t.d_flow
 p_crossing_between : FT K mg "crossing_between" s_crossing_between ["own", "entry", "leaving"] t.f_crossing_between t.d_crossing_between
 p_pulled : FT K mg "pulled" s_pulled ["tent", "seam", "way", "word"] t.f_pulled t.d_pulled
 p_l_cell : FT K mg "_law_cell" s_l_cell ["_law_script", "_law_at"] t.f_l_cell t.d_l_cell
 p_l_numbers : FT K mg "_law_numbers" s_l_numbers ["_law_cell_here", "_law_many"] t.f_l_numbers t.d_l_numbers
 p_l_sewn : FT K mg "_law_sewn" s_l_sewn ["_law_nums", "_law_many", "_law_share"] t.f_l_sewn t.d_l_sewn
 p_l_rows : FT K mg "_law_rows" s_l_rows ["_law_mates", "_law_start", "_law_step"] t.f_l_rows t.d_l_rows
 p_l_tent : FT K mg "_law_tent" s_l_tent ["_law_script"] t.f_l_tent t.d_l_tent
 p_l_walk : FT K mg "_law_walk" s_l_walk ["_law_mates", "_law_nums"] t.f_l_walk t.d_l_walk
 p_l_thread : FT K mg "_law_thread" s_l_thread ["_law_script", "_law_at", "_law_mates"] t.f_l_thread t.d_l_thread
 p_l_truth : FT K mg "_law_truth" s_l_truth ["_law_found", "_law_due"] t.f_l_truth t.d_l_truth
 p_l_whole : FT K mg "_law_whole" s_l_whole ["_law_found"] t.f_l_whole t.d_l_whole
 p_l_list : FT K mg "_law_list" s_l_list ["_law_found", "_law_due"] t.f_l_list t.d_l_list
 p_l_dict : FT K mg "_law_dict" s_l_dict ["_law_found", "_law_due"] t.f_l_dict t.d_l_dict
 p_l_named : FT K mg "_law_named" s_l_named ["_law_rows_here", "_law_counts"] t.f_l_named t.d_l_named
 p_l_tally : FT K mg "_law_tally" s_l_tally ["_law_mates", "_law_word"] t.f_l_tally t.d_l_tally
 p_l_free : FT K mg "_law_free" s_l_free ["_law_mates"] t.f_l_free t.d_l_free
 p_l_around : FT K mg "_law_around" s_l_around ["_law_mates", "_law_place"] t.f_l_around t.d_l_around
 p_l_goals : FT K mg "_law_goals" s_l_goals ["_law_mates", "_law_place", "_law_left"] t.f_l_goals t.d_l_goals
 p_l_seam : FT K mg "_law_seam" s_l_seam ["_law_rows_here", "_law_place"] t.f_l_seam t.d_l_seam
 p_l_way : FT K mg "_law_way" s_l_way ["_law_left"] t.f_l_way t.d_l_way
 p_l_pull : FT K mg "_law_pull" s_l_pull ["_law_mates", "_law_place", "_law_goals_here", "_law_word"] t.f_l_pull t.d_l_pull
 p_law : FT K mg "law" s_law ["_law_script"] t.f_law t.d_law
 mk_Tent : Mk K t.C_Tent t.f_Tent_init
 c_GREATEST_NAME : mg "GREATEST_NAME" = some (.int 9999 t.k_GREATEST_NAME)
 gd_CONTRARY_WAYS : mg "CONTRARY_WAYS" = some (.ref t.g_CONTRARY_WAYS)
 kd_CONTRARY_WAYS : KDict w K t.g_CONTRARY_WAYS [(Sum.inr "left", .str "right"), (Sum.inr "right", .str "left")]
 bl : ∀ (s : Shared) (u : Value), BindsTo s t.d_law ⟨[u], []⟩ [("_law_script", u)]
 n_abs : mg "abs" = none
 n_all : mg "all" = none
 n_bool : mg "bool" = none
 n_dict : mg "dict" = none
 n_enumerate : mg "enumerate" = none
 n_int : mg "int" = none
 n_isinstance : mg "isinstance" = none
 n_len : mg "len" = none
 n_list : mg "list" = none
 n_max : mg "max" = none
 n_min : mg "min" = none
 n_range : mg "range" = none
 n_reversed : mg "reversed" = none
 n_sorted : mg "sorted" = none
 n_tuple : mg "tuple" = none
 n_zip : mg "zip" = none
 gx_NoPlace : mg "NoPlace" = some (.ref t.E_NoPlace)
 x_NoPlace : ExcK K t.E_NoPlace bmV "ValueError.__new__"
 gx_NoSeam : mg "NoSeam" = some (.ref t.E_NoSeam)
 x_NoSeam : ExcK K t.E_NoSeam bmV "ValueError.__new__"
 gx_Rim : mg "Rim" = some (.ref t.E_Rim)
 x_Rim : ExcK K t.E_Rim bmV "ValueError.__new__"
 gx_Locked : mg "Locked" = some (.ref t.E_Locked)
 x_Locked : ExcK K t.E_Locked bmV "ValueError.__new__"
 gx_NoWay : mg "NoWay" = some (.ref t.E_NoWay)
 x_NoWay : ExcK K t.E_NoWay bmV "ValueError.__new__"
 gx_NoThread : mg "NoThread" = some (.ref t.E_NoThread)
 x_NoThread : ExcK K t.E_NoThread bmV "ValueError.__new__"
end KT
set_option maxHeartbeats 4000000
namespace KT
open PySem L2
theorem Same.add {H H1 : Hp} {p : Addr} {o : HO} (s : Same H H1) (hp : H p = none) : Same H (upd H1 p o) := fun b u e => by rw [upd_ne (ne_of_none e hp)]; exact s b u e
theorem Same.new {H : Hp} {p : Addr} {o : HO} (hp : H p = none) : Same H (upd H p o) := Same.add (Same.refl H) hp
theorem seq_post {t u : TS} {D : Ends} {σ : St} {H : Hp} (Post : St → Hp → Prop) (ht : ∀ nx : St → Hp → Prop, (∀ σ H, Post σ H → nx σ H) → t { D with nx := nx } σ H) (hu : ∀ σ H, Post σ H → u D σ H) : tSeq t u D σ H := ht (u D) hu
theorem seq_cut {t u : TS} {D : Ends} {σ : St} {H : Hp} (ht : ∀ nx : St → Hp → Prop, (∀ σ H, u D σ H → nx σ H) → t { D with nx := nx } σ H) : tSeq t u D σ H := ht (u D) fun _ _ h => h
theorem map_snoc (xs : List Int) (y : Int) : xs.map V.int ++ [V.int y] = (xs ++ [y]).map V.int := by simp
theorem getI {ns : List Int} {n : Nat} (h : n < ns.length) : (ns.map V.int)[n]? = some (V.int (ns.getD n 0)) := by
 rw [List.getElem?_map, List.getElem?_eq_getElem h, List.getD_eq_getElem?_getD, List.getElem?_eq_getElem h]
 rfl
def cell (ns : List Int) (n : Int) : Int := if n < ns.length then ns.getD n.toNat 0 else if ns.length = 0 then 31 * n + 7 else ns.getD (n % ns.length).toNat 0 % 1000003 + 101 * n
def sp_cell (K : PySem.W.Frag) : Sp := fun vs H Q _ => ∃ (a : Addr) (ns : List Int) (n : Int), vs = [.ref a, .int n] ∧ SqL K H a (ns.map V.int) ∧ ns.length ≤ 63 ∧ 0 ≤ n ∧ n < 1000000 ∧ Q (.int (cell ns n)) H
def sp_whole : Sp := fun vs H Q _ => ∃ n : Int, vs = [.int n] ∧ Q (.bl true) H
def sp_numbers : Sp := fun vs H Q _ => ∃ (c : Int) (n : Nat), vs = [.int c, .int n] ∧ n ≤ 60 ∧ ∀ (p : Addr) (xs : List Int) (H' : Hp), Same H H' → H p = none → H' p = some (.lst (xs.map V.int)) → xs.length = n → (∀ x ∈ xs, 0 ≤ x ∧ x < 1009) → Q (.ref p) H'
section
variable {P : Program} {w : World} {K : PySem.W.Frag} {mg : Str → Option Value} {base : Heap} {t : Adr}
theorem sc_l_whole : FnScope ["_law_found"] ["_law_found"] (defScope s_l_whole) := ⟨rfl, rfl, rfl, by decide +kernel, rfl, by decide +kernel, by decide +kernel⟩
theorem ok_l_whole (T : Txt w K mg t) : FnOk P w K mg base (CXr P w) 1 t.f_l_whole t.d_l_whole ["_law_found"] sp_whole := by
 refine T.p_l_whole.F.okR sc_l_whole (fun vs H Q E h => ?_) (fun cdv A outer s H vs Q E hr h => ?_)
 ·obtain ⟨p, rfl, _⟩ := h
  rfl
 ·obtain ⟨p, rfl, k⟩ := h
  refine ⟨_, (pss_one (ps_ret (pe_and (pe_callB call_isinst (by rfl) T.n_isinstance PyProof.Rows.boot_isinstance (pa_cons (pv 0) (pa_cons (pe_bltn (v := .ty "int") (by rfl) T.n_int PySem.Pv.boot_int rfl) pa_nil))) (pe_one (pe_not (pe_callB call_isinst (by rfl) T.n_isinstance PyProof.Rows.boot_isinstance (pa_cons (pv 0) (pa_cons (pe_bltn (v := .ty "bool") (by rfl) T.n_bool PySem.Pv.boot_bool rfl) pa_nil)))))))), ?_⟩
  refine ⟨_, rfl, _, "int", _, true, rfl, TyOf.int p, kit_same, _, rfl, iteT ?_⟩
  refine ⟨_, rfl, _, "bool", _, false, rfl, TyOf.int p, (by rfl), _, rfl, k⟩
theorem sc_l_cell : FnScope ["_law_script", "_law_at"] ["_law_script", "_law_at"] (defScope s_l_cell) := ⟨rfl, rfl, rfl, by decide +kernel, rfl, by decide +kernel, by decide +kernel⟩
theorem ok_l_cell (T : Txt w K mg t) : FnOk P w K mg base (CXr P w) 1 t.f_l_cell t.d_l_cell ["_law_script", "_law_at"] (sp_cell K) := by
 refine T.p_l_cell.F.okR sc_l_cell (fun vs H Q E h => ?_) (fun cdv A outer s H vs Q E hr h => ?_)
 ·obtain ⟨a, ns, n, rfl, _⟩ := h
  rfl
 ·obtain ⟨a, ns, n, rfl, hS, hl, h0, h1, k⟩ := h
  refine ⟨_, (pss_cons (ps_if (pt_cmpR op_lt (pv 1) (pe_callB call_len_seq (by rfl) T.n_len PySem.boot_len (pa_cons (pv 0) pa_nil)) (nomark _)) (pss_one (ps_ret (pe_ix ix_list (pv 0) (pv 1) (fun _ _ => rfl)))) pss_nil)
   (pss_cons (ps_if (pt_cmpR op_eq (pe_callB call_len_seq (by rfl) T.n_len PySem.boot_len (pa_cons (pv 0) pa_nil)) pe_int (nomark _)) (pss_one (ps_ret (pe_op op_add (pe_op op_mul pe_int (pv 1)) pe_int))) pss_nil)
   (pss_one (ps_ret (pe_op op_add (pe_op op_mod (pe_ix ix_list (pv 0) (pe_op op_mod (pv 1) (pe_callB call_len_seq (by rfl) T.n_len PySem.boot_len (pa_cons (pv 0) pa_nil))) (fun _ _ => rfl)) pe_int) (pe_op op_mul pe_int (pv 1))))))), ?_⟩
  have el : ((ns.map V.int).length : Int) = ns.length := by simp
  refine ⟨_, rfl, _, rfl, a, _, rfl, .inl hS, _, _, rfl, rfl, _, rfl, ?_⟩
  rw [el]
  refine ite2 (fun h => ?_) (fun h => ?_)
  ·have h : n < ns.length := by simpa using h
   have e : cell ns n = ns.getD n.toNat 0 := if_pos h
   have en : n = (n.toNat : Int) := by omega
   have ei : atI (ns.map V.int) n = some (V.int (ns.getD n.toNat 0)) := by rw [en]; exact atI_nat (getI (n := n.toNat) (by omega))
   rw [e] at k
   exact ⟨_, rfl, _, rfl, a, _, _, _, rfl, rfl, hS, ei, k⟩
  ·have h : ¬ n < ns.length := by simpa using h
   have e : cell ns n = if ns.length = 0 then 31 * n + 7 else ns.getD (n % ns.length).toNat 0 % 1000003 + 101 * n := if_neg h
   refine ⟨_, rfl, a, _, rfl, .inl hS, rfl, _, rfl, ?_⟩
   rw [el]
   refine ite2 (fun g => ?_) (fun g => ?_)
   ·have g : ns.length = 0 := by simpa using g
    refine ⟨_, rfl, _, _, rfl, rfl, .inl ⟨by decide, by decide⟩, _, _, rfl, rfl, ?_⟩
    rw [if_pos g] at e
    rw [e] at k; exact k
   ·have g : ¬ ns.length = 0 := by simpa using g
    have gp : (0 : Int) < ns.length := by omega
    rw [if_neg g] at e
    have m0 := Int.emod_nonneg n (show (ns.length : Int) ≠ 0 by omega)
    have m1 := Int.emod_lt_of_pos n gp
    refine ⟨_, rfl, _, rfl, _, rfl, a, _, rfl, .inl hS, _, _, rfl, rfl, (by rw [el]; exact gp), a, _, _, _, rfl, rfl, hS, (?_ : atI _ _ = some (V.int (ns.getD (n % ns.length).toNat 0))), _, _, rfl, rfl, (by show (0 : Int) < 1000003; decide), _, rfl, _, _, rfl, rfl, .inl ⟨by decide, by decide⟩, _, _, rfl, rfl, ?_⟩
    ·rw [el]
     have en : n % (ns.length : Int) = ((n % (ns.length : Int)).toNat : Int) := by omega
     rw [en]
     exact atI_nat (getI (by omega))
    ·rw [e] at k; exact k
theorem sc_l_numbers : FnScope ["_law_cell_here", "_law_many", "_law_row", "_law_rest", "_law_seed"] ["_law_cell_here", "_law_many"] (defScope s_l_numbers) := ⟨rfl, rfl, rfl, by decide +kernel, rfl, by decide +kernel, by decide +kernel⟩
theorem ok_l_numbers (T : Txt w K mg t) : FnOk P w K mg base (CXr P w) 1 t.f_l_numbers t.d_l_numbers ["_law_cell_here", "_law_many"] sp_numbers := by
 refine T.p_l_numbers.F.okR sc_l_numbers (fun vs H Q E h => ?_) (fun cdv A outer s H vs Q E hr h => ?_)
 ·obtain ⟨c, n, rfl, _⟩ := h
  rfl
 ·obtain ⟨c, n, rfl, hn60, k⟩ := h
  refine ⟨_, (pss_cons (ps_set (i := 2) sc_l_numbers.nd rfl (Or.inl rfl) (pe_lst pa_nil))
   (pss_cons (ps_set (i := 3) sc_l_numbers.nd rfl (Or.inl rfl) (pe_op op_sub (pv 0) (pe_op op_pow pe_int pe_int)))
   (pss_cons (ps_while PassesOwn.never (PW.pt (pw_and (pt_cmpR op_gt (pv 3) pe_int (nomark _)) (pw_and1 (pt_cmpR op_lt (pe_callB call_len_seq (by rfl) T.n_len PySem.boot_len (pa_cons (pv 2) pa_nil)) (pv 1) (nomark _))))) (pss_cons (ps_expr (pe_bm PySem.F.plainAttrs_list PySem.F.slot_list_append PySem.F.type_list_append mt_append (pv 2) (pa_cons (pe_op op_mod (pv 3) pe_int) pa_nil)))
   (pss_one (ps_set (i := 3) sc_l_numbers.nd rfl (Or.inl rfl) (pe_op op_fdiv (pv 3) pe_int)))))
   (pss_cons (ps_set (i := 4) sc_l_numbers.nd rfl (Or.inl rfl) (pe_op op_mod (pv 0) pe_int))
   (pss_cons (ps_while PassesOwn.never (pt_cmpR op_lt (pe_callB call_len_seq (by rfl) T.n_len PySem.boot_len (pa_cons (pv 2) pa_nil)) (pv 1) (nomark _)) (pss_cons (ps_set (i := 4) sc_l_numbers.nd rfl (Or.inl rfl) (pe_op op_mod (pe_op op_add (pe_op op_add (pe_op op_mul (pv 4) pe_int) pe_int) (pe_callB call_len_seq (by rfl) T.n_len PySem.boot_len (pa_cons (pv 2) pa_nil))) pe_int))
   (pss_one (ps_expr (pe_bm PySem.F.plainAttrs_list PySem.F.slot_list_append PySem.F.type_list_append mt_append (pv 2) (pa_cons (pe_op op_mod (pe_op op_fdiv (pe_op op_mod (pe_op op_mul (pv 4) pe_int) pe_int) pe_int) pe_int) pa_nil))))))
   (pss_one (ps_ret (pv 2)))))))), ?_⟩
  refine ⟨Nat.zero_le _, fun r hr0 => ?_⟩
  refine ⟨_, rfl, _, _, rfl, rfl, ⟨by decide, by decide, by decide⟩, _, _, rfl, rfl, ?_⟩
  show tSeq (tWhile _ _) _ _ _ _
  refine seq_post (fun σ H1 => ∃ (xs : List Int) (rest : Int), σ = [some (.int c), some (.int n), some (.ref r), some (.int rest), none] ∧ Same H H1 ∧ H1 r = some (.lst (xs.map V.int)) ∧ xs.length ≤ n ∧ (∀ x ∈ xs, 0 ≤ x ∧ x < 1009)) (fun nx hnx => ?_) ?_
  ·refine ⟨fun m σ H1 => ∃ (xs : List Int) (rest : Int), m = n - xs.length ∧ σ = [some (.int c), some (.int n), some (.ref r), some (.int rest), none] ∧ Same H H1 ∧ H1 r = some (.lst (xs.map V.int)) ∧ xs.length ≤ n ∧ (∀ x ∈ xs, 0 ≤ x ∧ x < 1009),
    ⟨n, [], _, rfl, rfl, Same.new hr0, upd_same, Nat.zero_le _, fun x hx => absurd hx (by simp)⟩, ?_⟩
   rintro m σ H1 ⟨xs, rest, rfl, rfl, sm, h1, hl, hx⟩
   have el : ((xs.map V.int).length : Int) = xs.length := by simp
   refine ⟨_, rfl, _, _, rfl, rfl, _, rfl, ?_⟩
   refine ite2 (fun _ => ?_) (fun _ => ?_)
   ·refine ⟨_, rfl, r, _, rfl, .inl (SqL.of h1), _, rfl, _, _, rfl, rfl, _, rfl, ?_⟩
    rw [el]
    refine ite2 (fun g => ?_) (fun _ => ?_)
    ·have g : (xs.length : Int) < n := by simpa using g
     refine ⟨_, fun σ' H' h => h, ?_⟩
     refine ⟨_, rfl, .inl ⟨rfl, _, SqL.of h1⟩, _, rfl, _, _, rfl, rfl, (by show (0 : Int) < 1009; decide), r, _, _, rfl, rfl, h1, (by rw [List.length_map]; exact small1000 (by omega)), ?_⟩
     refine ⟨_, rfl, _, _, rfl, rfl, ⟨by decide, by decide⟩, ?_⟩
     refine ⟨n - (xs ++ [rest % 1009]).length, ?_, xs ++ [rest % 1009], _, rfl, rfl, Same.add sm hr0, ?_, ?_, ?_⟩
     ·rw [List.length_append, List.length_singleton]; omega
     ·rw [upd_same, ← map_snoc]
     ·rw [List.length_append, List.length_singleton]; omega
     ·intro x hm
      rcases List.mem_append.mp hm with z | z
      ·exact hx x z
      ·have : x = rest % 1009 := by simpa using z
       subst this
       omega
    ·exact hnx _ _ ⟨xs, rest, rfl, sm, h1, hl, hx⟩
   ·exact hnx _ _ ⟨xs, rest, rfl, sm, h1, hl, hx⟩
  rintro σ H1 ⟨xs, rest, rfl, sm, h1, hl, hx⟩
  refine ⟨_, rfl, _, _, rfl, rfl, (by show (0 : Int) < 2147483629; decide), ?_⟩
  show tSeq (tWhile _ _) _ _ _ _
  refine seq_post (fun σ H1 => ∃ (xs : List Int) (rest seed : Int), σ = [some (.int c), some (.int n), some (.ref r), some (.int rest), some (.int seed)] ∧ Same H H1 ∧ H1 r = some (.lst (xs.map V.int)) ∧ xs.length = n ∧ (∀ x ∈ xs, 0 ≤ x ∧ x < 1009)) (fun nx hnx => ?_) ?_
  ·refine ⟨fun m σ H1 => ∃ (xs : List Int) (rest seed : Int), m = n - xs.length ∧ σ = [some (.int c), some (.int n), some (.ref r), some (.int rest), some (.int seed)] ∧ Same H H1 ∧ H1 r = some (.lst (xs.map V.int)) ∧ xs.length ≤ n ∧ (∀ x ∈ xs, 0 ≤ x ∧ x < 1009),
    ⟨n - xs.length, xs, rest, _, rfl, rfl, sm, h1, hl, hx⟩, ?_⟩
   clear h1 hl hx sm xs rest
   rintro m σ H1 ⟨xs, rest, seed, rfl, rfl, sm, h1, hl, hx⟩
   have el : ((xs.map V.int).length : Int) = xs.length := by simp
   refine ⟨_, rfl, r, _, rfl, .inl (SqL.of h1), _, rfl, _, _, rfl, rfl, _, rfl, ?_⟩
   rw [el]
   refine ite2 (fun g => ?_) (fun g => ?_)
   ·have g : (xs.length : Int) < n := by simpa using g
    refine ⟨_, fun σ' H' h => h, ?_⟩
    refine ⟨_, rfl, _, _, rfl, rfl, .inr ⟨by decide, by decide⟩, _, _, rfl, rfl, _, rfl, r, _, rfl, .inl (SqL.of h1), _, _, rfl, rfl, _, _, rfl, rfl, (by show (0 : Int) < 2147483647; decide), ?_⟩
    obtain ⟨y, hy⟩ : ∃ y, y = (seed * 48271 + 12345 + ((xs.map V.int).length : Int)) % 2147483647 * 69621 % 2147483629 / 7 % 1009 := ⟨_, rfl⟩
    refine ⟨_, rfl, .inl ⟨rfl, _, SqL.of h1⟩, _, rfl, _, _, rfl, rfl, .inr ⟨by decide, by decide⟩, _, _, rfl, rfl, (by show (0 : Int) < 2147483629; decide), _, _, rfl, rfl, ⟨by decide, by decide⟩, _, _, rfl, rfl, (by show (0 : Int) < 1009; decide), r, _, _, rfl, rfl, h1, (by rw [List.length_map]; exact small1000 (by omega)), ?_⟩
    refine ⟨n - (xs ++ [y]).length, ?_, xs ++ [y], _, _, rfl, rfl, Same.add sm hr0, ?_, ?_, ?_⟩
    ·rw [List.length_append, List.length_singleton]; omega
    ·rw [upd_same, ← map_snoc, hy]
    ·rw [List.length_append, List.length_singleton]; omega
    ·intro x hm
     rcases List.mem_append.mp hm with z | z
     ·exact hx x z
     ·have : x = y := by simpa using z
      rw [this, hy]
      exact ⟨Int.emod_nonneg _ (by decide), Int.emod_lt_of_pos _ (by decide)⟩
   ·have g : ¬ (xs.length : Int) < n := by simpa using g
    exact hnx _ _ ⟨xs, rest, seed, rfl, sm, h1, by omega, hx⟩
  rintro σ H1 ⟨xs, rest, seed, rfl, sm, h1, hl, hx⟩
  exact ⟨_, rfl, k r xs H1 sm hr0 h1 hl hx⟩
def sp_sewn (K : PySem.W.Frag) : Sp := fun vs H Q _ => ∃ (a : Addr) (xs : List Int) (n : Nat) (sh : Int), vs = [.ref a, .int n, .int sh] ∧ H a = some (.lst (xs.map V.int)) ∧ xs.length = 60 ∧ (∀ x ∈ xs, 0 ≤ x ∧ x < 1009) ∧ 1 ≤ n ∧ n ≤ 14 ∧
 ∀ (p : Addr) (M : List (Option Nat)) (H' : Hp), Same H H' → H p = none → H' p = some (.lst (M.map mV)) → M.length = 3 * n → (∀ (i j : Nat), M[i]? = some (some j) → M[j]? = some (some i) ∧ i ≠ j) → Q (.ref p) H'
theorem map_set {α : Type} (f : α → V) (l : List α) (i : Nat) (x : α) : (l.map f).set i (f x) = (l.set i x).map f := by rw [List.map_set]
theorem ixN_nat {n i : Nat} (h : i < n) : ixN n (i : Int) = some i := by
 unfold ixN
 simp
 omega
theorem er_map {α β : Type} (f : α → β) : ∀ (l : List α) (i : Nat), (l.map f).eraseIdx i = (l.eraseIdx i).map f
 | [], _ => rfl
 | _ :: _, 0 => rfl
 | a :: r, i + 1 => by rw [List.map_cons, List.eraseIdx_cons_succ, er_map f r i, List.eraseIdx_cons_succ, List.map_cons]
theorem natV (F : List Nat) (i : Nat) : (F.map fun (j : Nat) => V.int j)[i]? = (F[i]?).map fun (j : Nat) => V.int j := List.getElem?_map ..
theorem sc_l_sewn : FnScope ["_law_nums", "_law_many", "_law_share", "_law_mates", "_law_free_here", "_law_at", "_law_one", "_law_pick", "_law_other"] ["_law_nums", "_law_many", "_law_share"] (defScope s_l_sewn) := ⟨rfl, rfl, rfl, by decide +kernel, rfl, by decide +kernel, by decide +kernel⟩
theorem ok_l_sewn (T : Txt w K mg t) : FnOk P w K mg base (CXr P w) 1 t.f_l_sewn t.d_l_sewn ["_law_nums", "_law_many", "_law_share"] (sp_sewn K) := by
 refine T.p_l_sewn.F.okR sc_l_sewn (fun vs H Q E h => ?_) (fun cdv A outer s H vs Q E hr h => ?_)
 ·obtain ⟨a, xs, n, sh, rfl, _⟩ := h
  rfl
 ·obtain ⟨a, xs, n, sh, rfl, ha, hl, hx, h1, h2, k⟩ := h
  refine ⟨_, (pss_cons (ps_set (i := 3) sc_l_sewn.nd rfl (Or.inl rfl) (pe_op op_rep (pe_lst (pa_cons pe_non pa_nil)) (pe_op op_mul pe_int (pv 1))))
   (pss_cons (ps_set (i := 4) sc_l_sewn.nd rfl (Or.inl rfl) (pe_listRange rfl T.n_list rfl T.n_range rfl (pa_cons (pe_op op_mul pe_int (pv 1)) pa_nil)))
   (pss_cons (ps_set (i := 5) sc_l_sewn.nd rfl (Or.inl rfl) pe_int)
   (pss_cons (ps_while PassesOwn.never (pt_cmpR op_gt (pe_callB call_len_seq (by rfl) T.n_len PySem.boot_len (pa_cons (pv 4) pa_nil)) pe_int (nomark _)) (pss_cons (ps_set (i := 6) sc_l_sewn.nd rfl (Or.inl rfl) (pe_bm PySem.F.plainAttrs_list PySem.F.slot_list_pop PySem.F.type_list_pop mt_popAt (pv 4) (pa_cons pe_int pa_nil)))
   (pss_cons (ps_set (i := 7) sc_l_sewn.nd rfl (Or.inl rfl) (pe_ix ix_list (pv 0) (pv 5) (fun _ _ => rfl)))
   (pss_cons (ps_set (i := 5) sc_l_sewn.nd rfl (Or.inl rfl) (pe_op op_add (pv 5) pe_int))
   (pss_one (ps_if (pt_cmpR op_ge (pe_op op_mod (pv 7) pe_int) (pv 2) (nomark _)) (pss_cons (ps_set (i := 8) sc_l_sewn.nd rfl (Or.inl rfl) (pe_bm PySem.F.plainAttrs_list PySem.F.slot_list_pop PySem.F.type_list_pop mt_popAt (pv 4) (pa_cons (pe_op op_mod (pe_op op_fdiv (pv 7) pe_int) (pe_callB call_len_seq (by rfl) T.n_len PySem.boot_len (pa_cons (pv 4) pa_nil))) pa_nil)))
   (pss_cons (ps_asg (pv 8) (pg_sub (pv 3) (pv 6) set_list))
   (pss_one (ps_asg (pv 6) (pg_sub (pv 3) (pv 8) set_list))))) pss_nil))))))
   (pss_one (ps_ret (pv 3))))))), ?_⟩
  refine ⟨(by show 1 ≤ sizeLine; decide), fun q hq => ?_⟩
  refine ⟨_, rfl, _, _, rfl, rfl, .inl ⟨by decide, by decide⟩, q, _, _, rfl, rfl, upd_same, (by omega), (by omega), ?_, fun m hm => ?_⟩
  ·have : (3 * (n : Int)).toNat = 3 * n := by omega
   show 1 * (3 * (n : Int)).toNat ≤ sizeLine
   rw [this, sizeLine_eq]; omega
  have eN : (3 * (n : Int)).toNat = 3 * n := by omega
  have eM : (List.replicate (3 * (n : Int)).toNat [V.non]).flatten = (List.replicate (3 * n) (none : Option Nat)).map mV := by
   rw [eN, List.flatten_replicate_singleton, List.map_replicate]
   rfl
  refine ⟨_, rfl, _, _, rfl, rfl, .inl ⟨by decide, by decide⟩, 3 * n, (congrArg (fun z => [V.int z]) (by omega : (3 * (n : Int)) = ((3 * n : Nat) : Int))), by omega, fun f hf => ?_⟩
  have hfm : f ≠ m := fun z => by rw [z, upd_same] at hf; cases hf
  have hm0 : H m = none := by
   have : m ≠ q := fun z => by rw [z, upd_same] at hm; cases hm
   rw [upd_ne this] at hm; exact hm
  have hf0 : H f = none := by
   rw [upd_ne hfm] at hf
   have : f ≠ q := fun z => by rw [z, upd_same] at hf; cases hf
   rw [upd_ne this] at hf; exact hf
  have sm0 : Same H (upd (upd (upd H q (.lst [.non])) m (.lst (List.replicate (3 * (n : Int)).toNat [V.non]).flatten)) f (.lst ((List.range (3 * n)).map fun (i : Nat) => V.int i))) := Same.add (Same.add (Same.new hq) hm0) hf0
  show tSeq (tWhile _ _) _ _ _ _
  refine seq_post (fun σ H1 => ∃ (M : List (Option Nat)) (v4 v5 v6 v7 v8 : Option V), σ = [some (.ref a), some (.int n), some (.int sh), some (.ref m), v4, v5, v6, v7, v8] ∧ Same H H1 ∧ H1 m = some (.lst (M.map mV)) ∧ M.length = 3 * n ∧ ∀ (i j : Nat), M[i]? = some (some j) → M[j]? = some (some i) ∧ i ≠ j) (fun nx hnx => ?_) ?_
  ·refine ⟨fun c σ H1 => ∃ (F : List Nat) (M : List (Option Nat)) (at' : Nat) (v6 v7 v8 : Option V), c = F.length ∧ σ = [some (.ref a), some (.int n), some (.int sh), some (.ref m), some (.ref f), some (.int at'), v6, v7, v8] ∧ Same H H1 ∧ H1 m = some (.lst (M.map mV)) ∧ H1 f = some (.lst (F.map fun (i : Nat) => V.int i)) ∧ SewOk (3 * n) F M ∧ at' + F.length ≤ 3 * n,
    ⟨_, List.range (3 * n), List.replicate (3 * n) none, 0, none, none, none, rfl, rfl, sm0, ?_, upd_same, SewOk.start _, by simp⟩, ?_⟩
   ·rw [upd_ne hfm.symm, upd_same, eM]
   rintro c σ H1 ⟨F, M, at', v6, v7, v8, rfl, rfl, sm, g1, g2, hs, hat⟩
   refine ⟨_, rfl, f, _, rfl, .inl (SqL.of g2), _, _, rfl, rfl, _, rfl, ?_⟩
   rw [List.length_map]
   refine ite2 (fun g => ?_) (fun g => ?_)
   ·have g : 1 < F.length := by have := of_decide_eq_true g; omega
    obtain ⟨one, F', rfl⟩ : ∃ one F', F = one :: F' := by
     cases F with
     | nil => simp at g
     | cons a b => exact ⟨a, b, rfl⟩
    rw [List.length_cons] at g hat
    refine ⟨_, fun σ' H' h => h, ?_⟩
    refine ⟨_, rfl, .inl ⟨rfl, _, SqL.of g2⟩, f, _, 0, 0, V.int one, rfl, rfl, g2, by decide, by decide, (by simp [seqIndex?]), rfl, ?_⟩
    have e0 : ((one :: F').map fun (i : Nat) => V.int i).eraseIdx 0 = F'.map fun (i : Nat) => V.int i := rfl
    rw [e0]
    have g2' : (upd H1 f (.lst (F'.map fun (i : Nat) => V.int i))) f = some (.lst (F'.map fun (i : Nat) => V.int i)) := upd_same
    have g1' : (upd H1 f (.lst (F'.map fun (i : Nat) => V.int i))) m = some (.lst (M.map mV)) := by rw [upd_ne hfm.symm]; exact g1
    have sm' : Same H (upd H1 f (.lst (F'.map fun (i : Nat) => V.int i))) := Same.add sm hf0
    generalize upd H1 f (.lst (F'.map fun (i : Nat) => V.int i)) = H2 at g1' g2' sm' ⊢
    have hpick : at' < xs.length := by omega
    refine ⟨_, rfl, _, rfl, a, _, _, _, rfl, rfl, SqL.of (sm' _ _ ha), atI_nat (getI hpick), ?_⟩
    obtain ⟨p0, p1⟩ := hx _ (List.getElem_mem hpick)
    have ep : xs.getD at' 0 = xs[at'] := by rw [List.getD_eq_getElem?_getD, List.getElem?_eq_getElem hpick]; rfl
    rw [ep]
    generalize xs[at'] = pick at p0 p1 ⊢
    refine ⟨_, rfl, _, _, rfl, rfl, ?_⟩
    refine ⟨_, rfl, _, _, rfl, rfl, (by show (0 : Int) < 7; decide), _, rfl, _, _, rfl, rfl, _, rfl, ?_⟩
    refine ite2 (fun _ => ?_) (fun _ => ?_)
    ·-- other = free.pop(..)
     have hF : (0 : Int) < F'.length := by omega
     have k0 := Int.emod_nonneg (pick / 7) (show (F'.length : Int) ≠ 0 by omega)
     have k1 := Int.emod_lt_of_pos (pick / 7) hF
     obtain ⟨kk, hkk⟩ : ∃ kk : Nat, pick / 7 % (F'.length : Int) = kk := ⟨_, (Int.toNat_of_nonneg k0).symm⟩
     have hkl : kk < F'.length := by omega
     refine ⟨_, rfl, .inl ⟨rfl, _, SqL.of g2'⟩, _, rfl, _, _, rfl, rfl, ⟨by decide, by decide⟩, _, rfl, f, _, rfl, .inl (SqL.of g2'), _, _, rfl, rfl, (by rw [List.length_map]; exact hF), f, _, _, kk, V.int F'[kk], rfl, rfl, g2', ?_, ?_, ?_, ?_, ?_⟩
     ·rw [List.length_map, hkk]; omega
     ·rw [List.length_map, hkk]; omega
     ·rw [List.length_map, hkk]; simp [seqIndex?]; omega
     ·rw [natV, List.getElem?_eq_getElem hkl]; rfl
     have e1 : (F'.map fun (i : Nat) => V.int i).eraseIdx kk = (F'.eraseIdx kk).map fun (i : Nat) => V.int i := by rw [er_map]
     rw [e1]
     have hp := hs.pair (List.getElem?_eq_getElem hkl)
     have l1 : one < M.length := by rw [hs.len]; exact (hs.free one List.mem_cons_self).1
     have l2 : F'[kk] < M.length := by rw [hs.len]; exact (hs.free _ (List.mem_cons_of_mem _ (List.getElem_mem hkl))).1
     have g1'' : (upd H2 f (.lst ((F'.eraseIdx kk).map fun (i : Nat) => V.int i))) m = some (.lst (M.map mV)) := by rw [upd_ne hfm.symm]; exact g1'
     refine ⟨_, rfl, _, rfl, _, rfl, m, _, _, one, rfl, rfl, g1'', (by rw [List.length_map]; exact ixN_nat l1), ?_⟩
     refine ⟨_, rfl, _, rfl, _, rfl, m, _, _, F'[kk], rfl, rfl, upd_same, (by rw [List.length_set, List.length_map]; exact ixN_nat l2), ?_⟩
     refine ⟨(F'.eraseIdx kk).length, ?_, F'.eraseIdx kk, (M.set one (some F'[kk])).set F'[kk] (some one), at' + 1, _, _, _, rfl, rfl, Same.add (Same.add (Same.add sm' hf0) hm0) hm0, ?_, ?_, hp, ?_⟩
     ·rw [List.length_eraseIdx_of_lt hkl, List.length_cons]; omega
     ·rw [upd_same]
      show some (HO.lst (((M.map mV).set one (mV (some F'[kk]))).set F'[kk] (mV (some one)))) = _
      rw [map_set, map_set]
     ·rw [upd_ne hfm, upd_ne hfm, upd_same]
     ·rw [List.length_eraseIdx_of_lt hkl]; omega
    ·exact ⟨F'.length, by rw [List.length_cons]; omega, F', M, at' + 1, _, _, _, rfl, rfl, sm', g1', g2', hs.skip, by omega⟩
   ·exact hnx _ _ ⟨M, _, _, _, _, _, rfl, sm, g1, hs.len, hs.inv⟩
  rintro σ H1 ⟨M, v4, v5, v6, v7, v8, rfl, sm, g1, hl', hi'⟩
  exact ⟨_, rfl, k m M H1 sm hm0 g1 hl' hi'⟩
end
end KT
set_option maxHeartbeats 4000000
namespace KT
open PySem L2
theorem loop_range {lo : Int} {n : Nat} {g : TG} {tt : TT} {tb : TB} {R : St → Hp → Prop} {σ : St} {H : Hp} (Pv : Nat → St → Hp → Prop) (h0 : Pv 0 σ H)
  (hs : ∀ (i : Nat) σ H, i < n → Pv i σ H → g (.int (lo + i)) σ H fun σ2 H2 => tt σ2 H2 fun b H3 => if b = true then tb σ2 H3 (Pv (i + 1)) else Pv (i + 1) σ2 H3) (hd : ∀ σ H, Pv n σ H → R σ H) : LoopR (Itr lo n) g tt tb R σ H := by
 refine ⟨fun i m σ H => m = n - i ∧ i ≤ n ∧ Pv i σ H, ⟨n, by simp, Nat.zero_le _, h0⟩, ?_⟩
 rintro i m σ H ⟨rfl, hi, p⟩
 by_cases hlt : i < n
 ·refine .inr ⟨hlt, Pv (i + 1), fun σ' H' p' => ⟨n - (i + 1), by omega, rfl, hlt, p'⟩, fun x H' y => ?_⟩
  obtain ⟨e, y⟩ := y
  subst e y
  exact hs i σ _ hlt p
 ·have e : i = n := by omega
  subst e
  exact .inl ⟨Nat.le_refl _, hd σ H p⟩
theorem loop_list {K : PySem.W.Frag} {a : Addr} {xs : List V} {g : TG} {tt : TT} {tb : TB} {R : St → Hp → Prop} {σ : St} {H : Hp} (Pv : Nat → St → Hp → Prop) (h0 : Pv 0 σ H) (hl : ∀ i σ H, i ≤ xs.length → Pv i σ H → SqL K H a xs)
  (hs : ∀ (i : Nat) x σ H, xs[i]? = some x → Pv i σ H → g x σ H fun σ2 H2 => tt σ2 H2 fun b H3 => if b = true then tb σ2 H3 (Pv (i + 1)) else Pv (i + 1) σ2 H3) (hd : ∀ σ H, Pv xs.length σ H → R σ H) : LoopR (Itl K a) g tt tb R σ H := by
 refine ⟨fun i m σ H => m = xs.length - i ∧ i ≤ xs.length ∧ Pv i σ H, ⟨xs.length, by simp, Nat.zero_le _, h0⟩, ?_⟩
 rintro i m σ H ⟨rfl, hi, p⟩
 have q := hl i σ H hi p
 by_cases hlt : i < xs.length
 ·refine .inr ⟨⟨xs, xs[i], q, by simp [hlt]⟩, Pv (i + 1), fun σ' H' p' => ⟨xs.length - (i + 1), by omega, rfl, hlt, p'⟩, fun x H' y => ?_⟩
  obtain ⟨e, y⟩ := y
  subst e
  exact hs i x σ _ (y xs q) p
 ·have e : i = xs.length := by omega
  subst e
  exact .inl ⟨⟨xs, q, Nat.le_refl _⟩, hd σ H p⟩
theorem loop_tup {K : PySem.W.Frag} {a : Addr} {xs : List V} {g : TG} {tt : TT} {tb : TB} {R : St → Hp → Prop} {σ : St} {H : Hp} (Pv : Nat → St → Hp → Prop) (h0 : Pv 0 σ H) (hl : ∀ i σ H, i ≤ xs.length → Pv i σ H → SqT K H a xs)
  (hs : ∀ (i : Nat) x σ H, xs[i]? = some x → Pv i σ H → g x σ H fun σ2 H2 => tt σ2 H2 fun b H3 => if b = true then tb σ2 H3 (Pv (i + 1)) else Pv (i + 1) σ2 H3) (hd : ∀ σ H, Pv xs.length σ H → R σ H) : LoopR (Itt K a) g tt tb R σ H := by
 refine ⟨fun i m σ H => m = xs.length - i ∧ i ≤ xs.length ∧ Pv i σ H, ⟨xs.length, by simp, Nat.zero_le _, h0⟩, ?_⟩
 rintro i m σ H ⟨rfl, hi, p⟩
 have q := hl i σ H hi p
 by_cases hlt : i < xs.length
 ·refine .inr ⟨⟨xs, xs[i], q, by simp [hlt]⟩, Pv (i + 1), fun σ' H' p' => ⟨xs.length - (i + 1), by omega, rfl, hlt, p'⟩, fun x H' y => ?_⟩
  obtain ⟨e, y⟩ := y
  subst e
  exact hs i x σ _ (y xs q) p
 ·have e : i = xs.length := by omega
  subst e
  exact .inl ⟨⟨xs, q, Nat.le_refl _⟩, hd σ H p⟩
def row3 (ns : List Int) (k : Nat) : List V := [.int (ns.getD (3 * k) 0), .int (ns.getD (3 * k + 1) 0), .int (ns.getD (3 * k + 2) 0)]
def RowsAt (H : Hp) (r : Addr) (ns : List Int) : Prop := ∃ ts : List Addr, H r = some (.lst (ts.map V.ref)) ∧ ns.length = 3 * ts.length ∧ ∀ (k : Nat) (t : Addr), ts[k]? = some t → H t = some (.tup (row3 ns k))
theorem RowsAt.same {H H' : Hp} {r : Addr} {ns : List Int} (h : RowsAt H r ns) (s : Same H H') : RowsAt H' r ns := by
 obtain ⟨ts, h1, h2, h3⟩ := h
 exact ⟨ts, s _ _ h1, h2, fun k t e => s _ _ (h3 k t e)⟩
def sp_rows : Sp := fun vs H Q _ => ∃ (a : Addr) (M : List (Option Nat)) (n : Nat) (st sp : Int), vs = [.ref a, .int st, .int sp] ∧ H a = some (.lst (M.map mV)) ∧ M.length = 3 * n ∧ 1 ≤ n ∧ n ≤ 14 ∧ (∀ (i j : Nat), M[i]? = some (some j) → M[j]? = some (some i) ∧ i ≠ j) ∧ sp ∈ steps ∧
 ∀ (p : Addr) (H' : Hp), Same H H' → H p = none → RowsAt H' p (flat M st sp) → Q (.ref p) H'
theorem steps_small {t : Int} (h : t ∈ steps) : -(2 ^ 64) < t ∧ t < 2 ^ 64 := by
 simp only [steps, List.mem_cons, List.not_mem_nil, or_false] at h
 rcases h with rfl | rfl | rfl | rfl | rfl | rfl | rfl | rfl <;> decide
theorem mV_get {M : List (Option Nat)} {i : Nat} (h : i < M.length) : atI (M.map mV) (0 + (i : Int)) = some (mV M[i]) := by
 rw [Int.zero_add]
 exact atI_nat (by rw [List.getElem?_map, List.getElem?_eq_getElem h]; rfl)
section
variable {P : Program} {w : World} {K : PySem.W.Frag} {mg : Str → Option Value} {base : Heap} {t : Adr}
theorem sc_l_rows : FnScope ["_law_mates", "_law_start", "_law_step", "_law_flat", "_law_at", "_law_mate"] ["_law_mates", "_law_start", "_law_step"] (defScope s_l_rows) := ⟨rfl, rfl, rfl, by decide +kernel, rfl, by decide +kernel, by decide +kernel⟩
theorem ok_l_rows (T : Txt w K mg t) : FnOk P w K mg base (CXr P w) 1 t.f_l_rows t.d_l_rows ["_law_mates", "_law_start", "_law_step"] sp_rows := by
 refine T.p_l_rows.F.okR sc_l_rows (fun vs H Q E h => ?_) (fun cdv A outer s H vs Q E hr h => ?_)
 ·obtain ⟨a, M, n, st, sp, rfl, _⟩ := h
  rfl
 ·obtain ⟨a, M, n, st, sp, rfl, ha, hM, h1, h2, hi, hsp, k⟩ := h
  refine ⟨_, (pss_cons (ps_set (i := 3) sc_l_rows.nd rfl (Or.inr rfl) (pe_lst pa_nil))
   (pss_cons (ps_for PassesOwn.never rfl (pi_range1 rfl T.n_range (pa_cons (pe_callB call_len_seq (by rfl) T.n_len PySem.boot_len (pa_cons (pv 0) pa_nil)) pa_nil)) (pg_name (i := 4) sc_l_rows.nd rfl (Or.inl rfl)) (pss_cons (ps_set (i := 5) sc_l_rows.nd rfl (Or.inl rfl) (pe_ix ix_list (pv 0) (pv 4) (fun _ _ => rfl)))
   (pss_one (ps_if (PW.pt (pw_and (pt_cmpR op_notN (pv 5) pe_non (nomark _)) (pw_and1 (pt_cmpR op_lt (pv 5) (pv 4) (nomark _))))) (pss_one (ps_expr (pe_bm PySem.F.plainAttrs_list PySem.F.slot_list_append PySem.F.type_list_append mt_append (pv 3) (pa_cons (pe_ix ix_list (pv 3) (pv 5) (fun _ _ => rfl)) pa_nil)))) (pss_one (ps_expr (pe_bm PySem.F.plainAttrs_list PySem.F.slot_list_append PySem.F.type_list_append mt_append (pv 3) (pa_cons (pe_op op_mod (pe_op op_add (pv 1) (pe_op op_mul (pv 2) (pv 4))) pe_int) pa_nil))))))))
   (pss_one (ps_ret (pe_compG (ts := ["_law_k"]) (fv := [("_law_flat", 3)]) ⟨rfl, by decide +kernel, by decide +kernel, blkFree (by rfl), ⟨⟨rfl, rfl, Or.inl rfl⟩, trivial⟩⟩ rfl (pi_range1 rfl T.n_range (pa_cons (pe_op op_fdiv (pe_callB call_len_seq (by rfl) T.n_len PySem.boot_len (pa_cons (pv 0) pa_nil)) pe_int) pa_nil)) (fun _ _ _ _ => (pg_name (i := 0) (show List.Nodup (["_law_k", "_law_flat"] : List Str) from by decide +kernel) rfl (Or.inl rfl) (Or.inr rfl))) (fun _ _ _ _ => pts_nil) (fun _ _ _ => rfl) (fun _ _ _ _ _ _ => pb_emit (pe_tup (pa_cons (pe_ix (ix_listK K) (pv 1) (pe_op op_mul pe_int (pv 0)) (fun _ _ => rfl)) (pa_cons (pe_ix (ix_listK K) (pv 1) (pe_op op_add (pe_op op_mul pe_int (pv 0)) pe_int) (fun _ _ => rfl)) (pa_cons (pe_ix (ix_listK K) (pv 1) (pe_op op_add (pe_op op_mul pe_int (pv 0)) pe_int) (fun _ _ => rfl)) pa_nil)))))))))), ?_⟩
  refine ⟨Nat.zero_le _, fun f hf => ?_⟩
  have eL : (((M.map mV).length : Nat) : Int).toNat = M.length := by simp
  have ha1 : (upd H f (.lst [])) a = some (.lst (M.map mV)) := by rw [upd_ne (ne_of_none ha hf)]; exact ha
  dsimp only [gName]
  show tSeq (tFor _ _ _) _ _ _ _
  refine seq_post (fun σ H1 => ∃ (v4 v5 : Option V), σ = [some (.ref a), some (.int st), some (.int sp), some (.ref f), v4, v5] ∧ Same H H1 ∧ H1 f = some (.lst ((flat M st sp).map V.int))) (fun nx hnx => ?_) ?_
  ·refine ⟨_, rfl, a, _, rfl, .inl (SqL.of ha1), _, rfl, by omega, by rw [List.length_map]; omega, ?_⟩
   rw [eL]
   refine for_range (n := M.length) (fun i σ H1 => ∃ (v4 v5 : Option V), σ = [some (.ref a), some (.int st), some (.int sp), some (.ref f), v4, v5] ∧ Same H H1 ∧ H1 f = some (.lst (((List.range i).map fun i => nm st sp (rep M i)).map V.int))) ⟨none, none, rfl, Same.new hf, upd_same⟩ ?_ ?_
   ·rintro i σ H1 hlt ⟨v4, v5, rfl, sm, hfl⟩
    refine ⟨_, rfl, _, rfl, a, _, _, _, rfl, rfl, SqL.of (sm _ _ ha), mV_get hlt, ?_⟩
    have fin : ∀ x : Int, x = nm st sp (rep M i) → (upd H1 f (.lst (((List.range i).map fun i => nm st sp (rep M i)).map V.int ++ [V.int x]))) f = some (.lst (((List.range (i + 1)).map fun i => nm st sp (rep M i)).map V.int)) := fun x hx => by
     rw [upd_same, hx, List.range_succ]
     simp
    have hlen : (((List.range i).map fun i => nm st sp (rep M i)).map V.int).length < sizeLine := by
     rw [List.length_map, List.length_map, List.length_range]; exact small1000 (by omega)
    refine ⟨_, rfl, rfl, _, rfl, ?_⟩
    cases e : M[i] with
    | none =>
     have er : rep M i = i := by unfold rep; rw [List.getElem?_eq_getElem hlt, e]
     refine iteF ?_
     refine iteF ?_
     refine ⟨_, rfl, .inl ⟨rfl, _, SqL.of hfl⟩, _, rfl, _, rfl, _, rfl, _, _, rfl, rfl, .inl (steps_small hsp), _, _, rfl, rfl, _, _, rfl, rfl, (by show (0 : Int) < 10000; decide), f, _, _, rfl, rfl, hfl, hlen, ?_⟩
     exact ⟨_, _, rfl, Same.add sm hf, fin _ (by rw [er]; unfold nm; rw [Int.zero_add])⟩
    | some j =>
     have hMi : M[i]? = some (some j) := by rw [List.getElem?_eq_getElem hlt, e]
     refine iteT ?_
     refine ⟨_, rfl, _, rfl, _, _, rfl, rfl, _, rfl, ?_⟩
     refine ite2 (fun g => ?_) (fun g => ?_)
     ·have g : j < i := by have := of_decide_eq_true g; omega
      have er : rep M i = j := by unfold rep; rw [hMi]; exact if_pos g
      have erj : rep M j = j := by unfold rep; rw [(hi i j hMi).1]; exact if_neg (by omega)
      have ej : atI (((List.range i).map fun i => nm st sp (rep M i)).map V.int) (j : Int) = some (V.int (nm st sp (rep M i))) := by
       refine atI_nat ?_
       rw [List.getElem?_map, List.getElem?_map, List.getElem?_range g, er]
       show some (V.int (nm st sp (rep M j))) = _
       rw [erj]
      refine ⟨_, rfl, .inl ⟨rfl, _, SqL.of hfl⟩, _, rfl, _, rfl, f, _, _, _, rfl, rfl, SqL.of hfl, ej, f, _, _, rfl, rfl, hfl, hlen, ?_⟩
      exact ⟨_, _, rfl, Same.add sm hf, fin _ rfl⟩
     ·have g : ¬ j < i := by
       have : ¬ ((j : Int) < 0 + (i : Int)) := fun z => g (decide_eq_true z)
       omega
      have er : rep M i = i := by unfold rep; rw [hMi]; exact if_neg g
      refine ⟨_, rfl, .inl ⟨rfl, _, SqL.of hfl⟩, _, rfl, _, rfl, _, rfl, _, _, rfl, rfl, .inl (steps_small hsp), _, _, rfl, rfl, _, _, rfl, rfl, (by show (0 : Int) < 10000; decide), f, _, _, rfl, rfl, hfl, hlen, ?_⟩
      exact ⟨_, _, rfl, Same.add sm hf, fin _ (by rw [er]; unfold nm; rw [Int.zero_add])⟩
   ·rintro σ H1 ⟨v4, v5, rfl, sm, hfl⟩
    exact hnx _ _ ⟨v4, v5, rfl, sm, hfl⟩
  rintro σ H1 ⟨v4, v5, rfl, sm, hfl⟩
  refine ⟨_, rfl, a, _, rfl, .inl (SqL.of (sm _ _ ha)), _, _, rfl, rfl, ⟨by decide, by decide⟩, _, rfl, by rw [List.length_map]; omega, by rw [List.length_map]; omega, fun D hD => ?_⟩
  have eD : ((((M.map mV).length : Nat) : Int) / 3).toNat = n := by rw [List.length_map, hM]; omega
  have hD0 : H D = none := sm.free hD
  have hfD : f ≠ D := fun z => by rw [z] at hfl; rw [hD] at hfl; cases hfl
  have hlf : (flat M st sp).length = 3 * n := by unfold flat; simp [hM]
  show LoopR (Itr 0 ((((M.map mV).length : Nat) : Int) / 3).toNat) _ _ _ _ _ _
  rw [eD]
  refine loop_range (fun i σ H2 => ∃ (ts : List Addr) (v : Option V), σ = [v, some (.ref f)] ∧ Same H H2 ∧ H2 D = some (.lst (ts.map V.ref)) ∧ ts.length = i ∧ H2 f = some (.lst ((flat M st sp).map V.int)) ∧ ∀ (k : Nat) (t : Addr), ts[k]? = some t → H2 t = some (.tup (row3 (flat M st sp) k)))
   ⟨[], none, rfl, Same.add sm hD0, upd_same, rfl, by rw [upd_ne hfD]; exact hfl, fun k t z => by simp at z⟩ ?_ ?_
  ·rintro i σ H2 hlt ⟨ts, v, rfl, sm2, g1, hl2, g2, g3⟩
   have at' : ∀ (c : Nat) (z : Int), c < 3 → z = 3 * (0 + (i : Int)) + c → atI ((flat M st sp).map V.int) z = some (V.int ((flat M st sp).getD (3 * i + c) 0)) := fun c z hc hz => by
    have e : z = ((3 * i + c : Nat) : Int) := by omega
    rw [e]
    exact atI_nat (getI (by omega))
   dsimp only [gName, tYes]
   rw [if_pos rfl]
   refine ⟨_, rfl, _, rfl, _, _, rfl, rfl, .inl ⟨by decide, by decide⟩, f, _, _, _, rfl, rfl, SqL.of g2, at' 0 _ (by decide) (by simp), ?_⟩
   refine ⟨_, rfl, _, rfl, _, _, rfl, rfl, .inl ⟨by decide, by decide⟩, _, _, rfl, rfl, f, _, _, _, rfl, rfl, SqL.of g2, at' 1 _ (by decide) rfl, ?_⟩
   refine ⟨_, rfl, _, rfl, _, _, rfl, rfl, .inl ⟨by decide, by decide⟩, _, _, rfl, rfl, f, _, _, _, rfl, rfl, SqL.of g2, at' 2 _ (by decide) rfl, ?_⟩
   refine ⟨(by show 3 ≤ sizeLine; decide), fun q hq => ?_⟩
   have hqD : q ≠ D := fun z => by rw [z, g1] at hq; cases hq
   have hqf : q ≠ f := fun z => by rw [z, g2] at hq; cases hq
   have hq0 : H q = none := sm2.free hq
   refine ⟨_, by rw [upd_ne (Ne.symm hqD)]; exact g1, (by rw [List.length_map]; exact small1000 (by omega)), ts ++ [q], _, rfl, Same.add (Same.add sm2 hq0) hD0, ?_, ?_, ?_, ?_⟩
   ·rw [upd_same]; simp
   ·rw [List.length_append, List.length_singleton, hl2]
   ·rw [upd_ne hfD, upd_ne (Ne.symm hqf)]; exact g2
   ·intro k t z
    by_cases hk : k < ts.length
    ·rw [List.getElem?_append_left hk] at z
     have g := g3 k t z
     rw [upd_ne (fun e => by rw [e, g1] at g; cases g), upd_ne (ne_of_none g hq)]
     exact g
    ·have hk2 : k = ts.length := by
      have := (List.getElem?_eq_some_iff.mp z).1
      rw [List.length_append, List.length_singleton] at this
      omega
     subst hk2
     have : t = q := by simpa using z.symm
     subst this
     rw [upd_ne hqD, upd_same, hl2]
     rfl
  ·rintro σ H2 ⟨ts, v, rfl, sm2, g1, hl2, g2, g3⟩
   exact k D H2 sm2 hD0 ⟨ts, g1, by rw [hlf, hl2], g3⟩
end
end KT
set_option maxHeartbeats 4000000
namespace KT
open PySem L2
theorem at4 {i : Int} (h0 : 0 ≤ i) (h1 : i < 4) : ∃ sh : Int, atI [V.int 0, V.int 0, V.int 1, V.int 3] i = some (V.int sh) := by
 obtain rfl | rfl | rfl | rfl : i = 0 ∨ i = 1 ∨ i = 2 ∨ i = 3 := by omega
 all_goals exact ⟨_, rfl⟩
theorem at8 {i : Int} (h0 : 0 ≤ i) (h1 : i < 8) : ∃ sp : Int, sp ∈ steps ∧ atI [V.int 1, V.int 3, V.int 7, V.int 9, V.int 37, V.int 1009, V.int 3333, V.int 9999] i = some (V.int sp) := by
 obtain rfl | rfl | rfl | rfl | rfl | rfl | rfl | rfl : i = 0 ∨ i = 1 ∨ i = 2 ∨ i = 3 ∨ i = 4 ∨ i = 5 ∨ i = 6 ∨ i = 7 := by omega
 all_goals exact ⟨_, by decide, rfl⟩
def sp_tent (K : PySem.W.Frag) : Sp := fun vs H Q _ => ∃ (a : Addr) (ns : List Int), vs = [.ref a] ∧ SqL K H a (ns.map V.int) ∧ ns.length ≤ 63 ∧
 ∀ (p m r : Addr) (M : List (Option Nat)) (nms : List Int) (H' : Hp), Same H H' → H' p = some (.tup [.ref m, .ref r]) → H' m = some (.lst (M.map mV)) → RowsAt H' r nms → TD M nms → M.length ≤ 42 → H m = none → H r = none → Q (.ref p) H'
section
variable {P : Program} {w : World} {K : PySem.W.Frag} {mg : Str → Option Value} {base : Heap} {t : Adr}
theorem sc_l_tent : FnScope ["_law_script", "_law_head", "_law_many", "_law_names", "_law_share", "_law_mates", "_law_step"] ["_law_script"] (defScope s_l_tent) := ⟨rfl, rfl, rfl, by decide +kernel, rfl, by decide +kernel, by decide +kernel⟩
theorem ok_l_tent (T : Txt w K mg t) : FnOk P w K mg base (CXr P w) 2 t.f_l_tent t.d_l_tent ["_law_script"] (sp_tent K) := by
 refine T.p_l_tent.F.okR sc_l_tent (fun vs H Q E h => ?_) (fun cdv A outer s H vs Q E hr h => ?_)
 ·obtain ⟨a, ns, rfl, _⟩ := h
  rfl
 ·obtain ⟨a, ns, rfl, hS, hl, k⟩ := h
  refine ⟨_, (pss_cons (ps_set (i := 1) sc_l_tent.nd rfl (Or.inl rfl) (pe_call (ok_l_cell T) (hr.mono (by decide)) rfl T.p_l_cell.g T.p_l_cell.F.kp T.p_l_cell.b .nil passR (pa_cons (pv 0) (pa_cons pe_int pa_nil))))
   (pss_cons (ps_set (i := 2) sc_l_tent.nd rfl (Or.inl rfl) (pe_op op_add pe_int (pe_op op_mod (pv 1) pe_int)))
   (pss_cons (ps_if (pt_cmpR op_eq (pe_op op_mod (pe_op op_fdiv (pv 1) pe_int) pe_int) pe_int (nomark _)) (pss_one (ps_set (i := 2) sc_l_tent.nd rfl (Or.inl rfl) (pe_op op_add pe_int (pe_op op_mod (pe_op op_fdiv (pv 1) pe_int) pe_int)))) pss_nil)
   (pss_cons (ps_set (i := 3) sc_l_tent.nd rfl (Or.inl rfl) (pe_call (ok_l_cell T) (hr.mono (by decide)) rfl T.p_l_cell.g T.p_l_cell.F.kp T.p_l_cell.b .nil passR (pa_cons (pv 0) (pa_cons pe_int pa_nil))))
   (pss_cons (ps_set (i := 4) sc_l_tent.nd rfl (Or.inl rfl) (pe_ix ix_tup (pe_tup (pa_cons pe_int (pa_cons pe_int (pa_cons pe_int (pa_cons pe_int pa_nil))))) (pe_op op_mod (pv 3) pe_int) (fun _ _ => rfl)))
   (pss_cons (ps_set (i := 5) sc_l_tent.nd rfl (Or.inl rfl) (pe_call (ok_l_sewn T) (hr.mono (by decide)) rfl T.p_l_sewn.g T.p_l_sewn.F.kp T.p_l_sewn.b .nil passR (pa_cons (pe_call (ok_l_numbers T) (hr.mono (by decide)) rfl T.p_l_numbers.g T.p_l_numbers.F.kp T.p_l_numbers.b .nil passR (pa_cons (pe_call (ok_l_cell T) (hr.mono (by decide)) rfl T.p_l_cell.g T.p_l_cell.F.kp T.p_l_cell.b .nil passR (pa_cons (pv 0) (pa_cons pe_int pa_nil))) (pa_cons pe_int pa_nil))) (pa_cons (pv 2) (pa_cons (pv 4) pa_nil)))))
   (pss_cons (ps_set (i := 6) sc_l_tent.nd rfl (Or.inl rfl) (pe_ix ix_tup (pe_tup (pa_cons pe_int (pa_cons pe_int (pa_cons pe_int (pa_cons pe_int (pa_cons pe_int (pa_cons pe_int (pa_cons pe_int (pa_cons pe_int pa_nil))))))))) (pe_op op_mod (pe_op op_fdiv (pv 3) pe_int) pe_int) (fun _ _ => rfl)))
   (pss_one (ps_ret (pe_tup (pa_cons (pv 5) (pa_cons (pe_call (ok_l_rows T) (hr.mono (by decide)) rfl T.p_l_rows.g T.p_l_rows.F.kp T.p_l_rows.b .nil passR (pa_cons (pv 5) (pa_cons (pe_op op_mod (pe_op op_fdiv (pv 3) pe_int) pe_int) (pa_cons (pv 6) pa_nil)))) pa_nil)))))))))))), ?_⟩
  refine ⟨_, rfl, a, ns, 0, rfl, hS, hl, by decide, by decide, ?_⟩
  generalize cell ns 0 = hd
  refine ⟨_, rfl, _, _, rfl, rfl, (by show (0 : Int) < 6; decide), _, _, rfl, rfl, ?_⟩
  dsimp only [gName]
  show tSeq (tIfS _ _ _) _ _ _ _
  refine seq_post (fun σ H1 => ∃ n : Nat, 1 ≤ n ∧ n ≤ 14 ∧ σ = [some (.ref a), some (.int hd), some (.int n), none, none, none, none] ∧ H1 = H) (fun nx hnx => ?_) ?_
  ·refine ⟨_, rfl, _, _, rfl, rfl, ⟨by decide, by decide⟩, _, _, rfl, rfl, (by show (0 : Int) < 9; decide), rfl, _, rfl, ?_⟩
   refine ite2 (fun _ => ?_) (fun _ => ?_)
   ·refine ⟨_, rfl, _, _, rfl, rfl, ⟨by decide, by decide⟩, _, _, rfl, rfl, (by show (0 : Int) < 8; decide), _, _, rfl, rfl, ?_⟩
    have e : (7 + hd / 54 % 8 : Int) = ((7 + (hd / 54 % 8).toNat : Nat) : Int) := by omega
    exact hnx _ _ ⟨7 + (hd / 54 % 8).toNat, by omega, by omega, by rw [← e]; rfl, rfl⟩
   ·have e : (1 + hd % 6 : Int) = ((1 + (hd % 6).toNat : Nat) : Int) := by omega
    exact hnx _ _ ⟨1 + (hd % 6).toNat, by omega, by omega, by rw [← e]; rfl, rfl⟩
  rintro σ H1 ⟨n, n1, n2, rfl, rfl⟩
  refine ⟨_, rfl, a, ns, 2, rfl, hS, hl, by decide, by decide, ?_⟩
  generalize cell ns 2 = nam
  refine ⟨(by show 4 ≤ sizeLine; decide), fun q hq => ?_⟩
  have m4 : 0 ≤ nam % 4 ∧ nam % 4 < 4 := by omega
  obtain ⟨sh, esh⟩ := at4 m4.1 m4.2
  refine ⟨_, rfl, _, _, rfl, rfl, (by show (0 : Int) < 4; decide), q, _, _, _, rfl, rfl, SqT.of upd_same, esh, ?_⟩
  have s1 : Same H1 (upd H1 q (.tup [V.int 0, V.int 0, V.int 1, V.int 3])) := Same.new hq
  refine ⟨_, rfl, a, ns, 1, rfl, s1.seq hS, hl, by decide, by decide, ?_⟩
  refine ⟨_, 60, rfl, by decide, fun p xs H2 s2 hp h2 h60 hx => ?_⟩
  refine ⟨_, rfl, _, rfl, p, xs, n, sh, rfl, h2, h60, hx, n1, n2, fun m M H3 s3 hm hM hlen hinv => ?_⟩
  have s13 : Same H1 H3 := (s1.trans s2).trans s3
  have hm0 : H1 m = none := (s1.trans s2).free hm
  refine ⟨(by show 8 ≤ sizeLine; decide), fun q2 hq2 => ?_⟩
  have m8 : 0 ≤ nam / 4 % 8 ∧ nam / 4 % 8 < 8 := by omega
  obtain ⟨sp, hsp, esp⟩ := at8 m8.1 m8.2
  refine ⟨_, rfl, _, _, rfl, rfl, ⟨by decide, by decide⟩, _, _, rfl, rfl, (by show (0 : Int) < 8; decide), q2, _, _, _, rfl, rfl, SqT.of upd_same, esp, ?_⟩
  have s14 : Same H1 (upd H3 q2 (.tup [V.int 1, V.int 3, V.int 7, V.int 9, V.int 37, V.int 1009, V.int 3333, V.int 9999])) := Same.add s13 (s13.free hq2)
  have hM4 : (upd H3 q2 (.tup [V.int 1, V.int 3, V.int 7, V.int 9, V.int 37, V.int 1009, V.int 3333, V.int 9999])) m = some (.lst (M.map mV)) := by rw [upd_ne (ne_of_none hM hq2)]; exact hM
  refine ⟨_, rfl, _, rfl, _, rfl, _, _, rfl, rfl, ⟨by decide, by decide⟩, _, _, rfl, rfl, (by show (0 : Int) < 10000; decide), _, rfl, m, M, n, _, sp, rfl, hM4, hlen, n1, n2, hinv, hsp, fun r H5 s5 hr5 hrow => ?_⟩
  refine ⟨(by show 2 ≤ sizeLine; decide), fun p5 hp5 => ?_⟩
  have s15 := s14.trans s5
  have hr0 : H1 r = none := s14.free hr5
  refine k p5 m r M _ _ (Same.add s15 (s15.free hp5)) upd_same ?_ (hrow.same (Same.new hp5)) (td_flat n1 n2 hlen hinv hsp) (by omega) hm0 hr0
  rw [upd_ne (ne_of_none (s5 _ _ hM4) hp5)]
  exact s5 _ _ hM4
end
end KT
set_option maxHeartbeats 4000000
namespace KT
open PySem L2
def spk (ns : List Int) (n : Nat) (f : Int → Addr) : List (Key × V) := (keys ns n).map fun x => ((Sum.inl x : Key), V.ref (f x))
structure SpotsF (H : Hp) (ns : List Int) (n : Nat) (f : Int → Addr) : Prop where
 inj : ∀ x ∈ keys ns n, ∀ y ∈ keys ns n, f x = f y → x = y
 at' : ∀ x ∈ keys ns n, H (f x) = some (.lst ((pl ns n x).map nV))
def sp_spots_of : Sp := fun vs H Q _ => ∃ (a : Addr) (M : List (Option Nat)) (ns : List Int), vs = [.ref a] ∧ H a = some (.lst (ns.map V.int)) ∧ TD M ns ∧ ns.length ≤ 120 ∧
 ∀ (d : Addr) (f : Int → Addr) (H' : Hp), Same H H' → H d = none → H' d = some (.dK (spk ns ns.length f)) → SpotsF H' ns ns.length f → (∀ x ∈ keys ns ns.length, H (f x) = none) → Q (.ref d) H'
section
variable {P : Program} {w : World} {K : PySem.W.Frag} {mg : Str → Option Value} {base : Heap} {t : Adr}
theorem sc_spots_of : FnScope ["names_at", "spots", "place", "name"] ["names_at"] (defScope s_spots_of) := ⟨rfl, rfl, rfl, by decide +kernel, rfl, by decide +kernel, by decide +kernel⟩
theorem ok_spots_of (T : Txt w K mg t) : FnOk P w K mg base (CXr P w) 1 t.f_spots_of t.d_spots_of ["names_at"] sp_spots_of := by
 refine T.p_spots_of.F.okR sc_spots_of (fun vs H Q E h => ?_) (fun cdv A outer s H vs Q E hr h => ?_)
 ·obtain ⟨a, M, ns, rfl, _⟩ := h
  rfl
 ·obtain ⟨a, M, ns, rfl, ha, td, hl, k⟩ := h
  have hu := hu_of hr
  refine ⟨_, (pss_cons (ps_set (i := 1) sc_spots_of.nd rfl (Or.inl rfl) pe_dnewK)
   (pss_cons (ps_for PassesOwn.never rfl (pi_enum rfl T.n_enumerate (pa_cons (pv 0) pa_nil)) (pg_tup rfl (pgs_cons (pg_name (i := 2) sc_spots_of.nd rfl (Or.inl rfl)) (pgs_cons (pg_name (i := 3) sc_spots_of.nd rfl (Or.inl rfl)) pgs_nil))) (pss_cons (ps_if (PW.pt (pw_or (pt_cmpR op_lt (pv 3) pe_int (nomark _)) (pw_or1 (pt_cmpR op_gt (pv 3) (pe_glob (v := .int 9999) rfl T.c_GREATEST_NAME ⟨_, rfl⟩) (nomark _))))) pss_never pss_nil)
   (pss_cons (ps_expr (pe_bm PySem.F.plainAttrs_list PySem.F.slot_list_append PySem.F.type_list_append mt_append (pe_dsetd (pv 1) (pv 3) (pe_lst pa_nil) ⟨rfl, rfl, rfl, rfl⟩) (pa_cons (pv 2) pa_nil)))
   (pss_one (ps_if (pt_cmpR op_gt (pe_callB call_len_seq (by rfl) T.n_len PySem.boot_len (pa_cons (pe_dget hu (pv 1) (pv 3) (fun _ _ => rfl)) pa_nil)) pe_int (nomark _)) pss_never pss_nil)))))
   (pss_one (ps_ret (pv 1))))), ?_⟩
  intro d hd
  have hda : a ≠ d := ne_of_none ha hd
  dsimp only [gName]
  show tSeq (tFor _ _ _) _ _ _ _
  refine seq_post (fun σ H1 => ∃ (f : Int → Addr) (v2 v3 : Option V), σ = [some (.ref a), some (.ref d), v2, v3] ∧ Same H H1 ∧ H1 d = some (.dK (spk ns ns.length f)) ∧ SpotsF H1 ns ns.length f ∧ ∀ x ∈ keys ns ns.length, H (f x) = none) (fun nx hnx => ?_) ?_
  ·refine ⟨_, rfl, a, rfl, ⟨_, SqL.of (by rw [upd_ne hda]; exact ha)⟩, ?_⟩
   have el : (ns.map V.int).length = ns.length := by simp
   refine for_enum (xs := ns.map V.int) (fun i σ H1 => ∃ (f : Int → Addr) (v2 v3 : Option V), σ = [some (.ref a), some (.ref d), v2, v3] ∧ Same H H1 ∧ H1 d = some (.dK (spk ns i f)) ∧ SpotsF H1 ns i f ∧ ∀ x ∈ keys ns i, H (f x) = none)
    ⟨fun _ => 0, none, none, rfl, Same.new hd, upd_same, ⟨fun x hx => by simp [keys] at hx, fun x hx => by simp [keys] at hx⟩, fun x hx => by simp [keys] at hx⟩ ?_ ?_ ?_
   ·rintro i σ H1 _ ⟨f, v2, v3, rfl, sm, _⟩
    exact SqL.of (sm _ _ ha)
   ·rintro i x0 σ H1 q hx hq ⟨f, v2, v3, rfl, sm, hd1, sf, hf0⟩
    have hi : i < ns.length := by rw [← el]; exact (List.getElem?_eq_some_iff.mp hx).1
    obtain ⟨x, hx'⟩ : ∃ x, ns[i]? = some x := ⟨_, List.getElem?_eq_getElem hi⟩
    obtain rfl : x0 = V.int x := by rw [List.getElem?_map, hx'] at hx; exact (Option.some.inj hx).symm
    refine ⟨q, _, rfl, SqT.of upd_same, rfl, _, _, rfl, _, _, rfl, rfl, ?_⟩
    obtain ⟨x0, x1⟩ := td.rng i x hx'
    refine ⟨_, rfl, _, _, rfl, rfl, _, rfl, ?_⟩
    rw [decide_eq_false (by omega : ¬ x < 0)]
    refine iteF ?_
    refine ⟨_, rfl, _, _, rfl, rfl, _, rfl, ?_⟩
    rw [decide_eq_false (by omega : ¬ x > 9999)]
    refine iteF ?_
    have hdq : d ≠ q := ne_of_none hd1 hq
    have hd2 : (upd H1 q (.tup [.int i, .int x])) d = some (.dK (spk ns i f)) := by rw [upd_ne hdq]; exact hd1
    dsimp only [tNext]
    show tSeq (tDrop _) _ _ _ _
    refine seq_post (fun σ H2 => ∃ (f : Int → Addr), σ = [some (.ref a), some (.ref d), some (.int i), some (.int x)] ∧ Same H H2 ∧ H2 d = some (.dK (spk ns (i + 1) f)) ∧ SpotsF H2 ns (i + 1) f ∧ ∀ x ∈ keys ns (i + 1), H (f x) = none) (fun nx2 hnx2 => ?_) ?_
    ·refine ⟨_, rfl, d, rfl, .inl ⟨_, .inl hd2⟩, _, rfl, Nat.zero_le _, fun l hl' => ?_⟩
     obtain ⟨hlq, hl1⟩ := upd_none hl'
     have hdl : d ≠ l := ne_of_none hd1 hl1
     have hd3 : (upd (upd H1 q (.tup [.int i, .int x])) l (.lst [])) d = some (.dK (spk ns i f)) := by rw [upd_ne hdl]; exact hd2
     have hlk : (spk ns i f).length < sizeLine := by unfold spk; rw [List.length_map]; exact small1000 (by have := keys_len ns i; omega)
     have hq0 : H q = none := sm.free hq
     have hl0 : H l = none := sm.free hl1
     have smq : Same H (upd (upd H1 q (.tup [.int i, .int x])) l (.lst [])) := Same.add (Same.add sm hq0) hl0
     have hp2 : (pl ns i x).length < sizeLine := small1000 (by have := pl_le2 td i x; omega)
     have old : ∀ b u, H1 b = some u → (upd (upd H1 q (.tup [.int i, .int x])) l (.lst [])) b = some u := fun b u e => by rw [upd_ne (ne_of_none e hl1), upd_ne (ne_of_none e hq)]; exact e
     refine ⟨spk ns i f, Sum.inl x, hd3, hlk, rfl, fun v hv => ?_, fun hv => ?_⟩
     ·-- the name stands already
      have hx2 : x ∈ keys ns i := by
       unfold spk at hv
       rw [val_map] at hv
       by_cases c : x ∈ keys ns i
       ·exact c
       ·rw [if_neg c] at hv; cases hv
      obtain rfl : v = V.ref (f x) := by
       unfold spk at hv
       rw [val_map, if_pos hx2] at hv
       exact (Option.some.inj hv).symm
      have ek : keys ns (i + 1) = keys ns i := by rw [keys_step hx', if_pos hx2]
      have hfx := old _ _ (sf.at' x hx2)
      refine ⟨.inl ⟨rfl, _, SqL.of hfx⟩, _, rfl, f x, _, _, rfl, rfl, hfx, by rw [List.length_map]; exact hp2, hnx2 _ _ ⟨f, rfl, Same.add smq (hf0 x hx2), ?_, ⟨?_, ?_⟩, ?_⟩⟩
      ·have : d ≠ f x := fun z => by rw [← z, hd3] at hfx; cases hfx
       rw [upd_ne this, hd3]
       unfold spk
       rw [ek]
      ·rw [ek]; exact sf.inj
      ·intro y hy
       rw [ek] at hy
       by_cases c : y = x
       ·subst c
        rw [upd_same, pl_same hx', List.map_append]
        rfl
       ·have : f y ≠ f x := fun z => c (sf.inj y hy x hx2 z)
        rw [upd_ne this, old _ _ (sf.at' y hy), pl_other (by rw [hx']; intro z; cases z; exact c rfl)]
      ·rw [ek]; exact hf0
     ·-- a new name
      have hx2 : x ∉ keys ns i := by
       intro c
       unfold spk at hv
       rw [val_map, if_pos c] at hv
       cases hv
      have ek : keys ns (i + 1) = keys ns i ++ [x] := by rw [keys_step hx', if_neg hx2]
      have ep : putK (spk ns i f) (Sum.inl x) (V.ref l) = spk ns (i + 1) (fun y => if y = x then l else f y) := by
       unfold spk
       rw [put_new hx2, ek, List.map_append]
       congr 1
       ·apply List.map_congr_left
        intro y hy
        dsimp only
        rw [if_neg (fun (z : y = x) => hx2 (z ▸ hy))]
       ·simp
      rw [ep]
      have hl4 : (upd (upd (upd H1 q (.tup [.int i, .int x])) l (.lst [])) d (.dK (spk ns (i + 1) (fun y => if y = x then l else f y)))) l = some (.lst []) := by rw [upd_ne (Ne.symm hdl), upd_same]
      refine ⟨.inl ⟨rfl, _, SqL.of hl4⟩, _, rfl, l, _, _, rfl, rfl, hl4, by decide, hnx2 _ _ ⟨fun y => if y = x then l else f y, rfl, Same.add (Same.add smq hd) hl0, ?_, ⟨?_, ?_⟩, ?_⟩⟩
      ·rw [upd_ne hdl, upd_same]
      ·intro y hy z hz e
       rw [ek, List.mem_append, List.mem_singleton] at hy hz
       by_cases c1 : y = x
       ·by_cases c2 : z = x
        ·rw [c1, c2]
        ·have hz' := hz.resolve_right c2
         simp only [c1, c2, if_true, if_false] at e
         exact absurd (sf.at' z hz') (by rw [← e, hl1]; intro w; cases w)
       ·have hy' := hy.resolve_right c1
        by_cases c2 : z = x
        ·simp only [c1, c2, if_true, if_false] at e
         exact absurd (sf.at' y hy') (by rw [e, hl1]; intro w; cases w)
        ·have hz' := hz.resolve_right c2
         simp only [c1, c2, if_false] at e
         exact sf.inj y hy' z hz' e
      ·intro y hy
       rw [ek, List.mem_append, List.mem_singleton] at hy
       by_cases c : y = x
       ·subst c
        simp only [if_true]
        rw [upd_same, pl_same hx', pl_nil hx2]
        rfl
       ·have hy' := hy.resolve_right c
        have e1 := sf.at' y hy'
        have n1 : f y ≠ l := ne_of_none e1 hl1
        have n2 : f y ≠ d := fun z => by rw [z, hd1] at e1; cases e1
        simp only [c, if_false]
        rw [upd_ne n1, upd_ne n2, old _ _ e1, pl_other (by rw [hx']; intro z; cases z; exact c rfl)]
      ·intro y hy
       rw [ek, List.mem_append, List.mem_singleton] at hy
       by_cases c : y = x
       ·simp only [c, if_true]; exact hl0
       ·simp only [c, if_false]; exact hf0 y (hy.resolve_right c)
    rintro σ H2 ⟨f', rfl, sm2, hd4, sf2, hf2⟩
    have hx3 : x ∈ keys ns (i + 1) := keys_mem.mpr ⟨i, by omega, hx'⟩
    have hg : valV (spk ns (i + 1) f') (Sum.inl x) = some (V.ref (f' x)) := by unfold spk; rw [val_map, if_pos hx3]
    refine ⟨_, rfl, _, rfl, d, _, rfl, ?_, f' x, _, rfl, .inl (SqL.of (sf2.at' x hx3)), _, _, rfl, rfl, _, rfl, ?_⟩
    ·exact .inl ⟨_, Sum.inl x, .inl hd4, rfl, hg.symm⟩
    have h2 := pl_le2 td (i + 1) x
    rw [decide_eq_false (by rw [List.length_map]; omega : ¬ ((((pl ns (i + 1) x).map nV).length : Nat) : Int) > 2)]
    refine iteF ?_
    exact ⟨f', _, _, rfl, sm2, hd4, sf2, hf2⟩
   ·rintro σ H1 ⟨f, v2, v3, rfl, sm, hd1, sf, hf0⟩
    rw [el] at hd1 sf hf0
    exact hnx _ _ ⟨f, v2, v3, rfl, sm, hd1, sf, hf0⟩
  rintro σ H1 ⟨f, v2, v3, rfl, sm, hd1, sf, hf0⟩
  exact ⟨_, rfl, k d f H1 sm hd hd1 sf hf0⟩
def sp_mates_of : Sp := fun vs H Q _ => ∃ (d : Addr) (M : List (Option Nat)) (ns : List Int) (f : Int → Addr), vs = [.ref d, .int ns.length] ∧ H d = some (.dK (spk ns ns.length f)) ∧ SpotsF H ns ns.length f ∧ TD M ns ∧ ns.length ≤ 120 ∧
 ∀ (m : Addr) (o : Obj) (H' : Hp), (∀ b u, b ≠ d → H b = some u → H' b = some u) → H m = none → H' m = some (.lst (M.map mV)) → H' d = some (.frz o (.dK (spk ns ns.length f))) → Q (.ref m) H'
theorem sc_mates_of : FnScope ["spots", "count", "mates", "pair"] ["spots", "count"] (defScope s_mates_of) := ⟨rfl, rfl, rfl, by decide +kernel, rfl, by decide +kernel, by decide +kernel⟩
theorem ok_mates_of (T : Txt w K mg t) : FnOk P w K mg base (CXr P w) 1 t.f_mates_of t.d_mates_of ["spots", "count"] sp_mates_of := by
 refine T.p_mates_of.F.okR sc_mates_of (fun vs H Q E h => ?_) (fun cdv A outer s H vs Q E hr h => ?_)
 ·obtain ⟨d, M, ns, f, rfl, _⟩ := h
  rfl
 ·obtain ⟨d, M, ns, f, rfl, hd, sf, td, hl, k⟩ := h
  refine ⟨_, (pss_cons (ps_set (i := 2) sc_mates_of.nd rfl (Or.inl rfl) (pe_op op_rep (pe_lst (pa_cons pe_non pa_nil)) (pv 1)))
   (pss_cons (ps_for PassesOwn.never rfl (pi_vals (pv 0) ⟨rfl, rfl, rfl⟩) (pg_name (i := 3) sc_mates_of.nd rfl (Or.inl rfl)) (pss_one (ps_if (pt_cmpR op_eq (pe_callB call_len_seq (by rfl) T.n_len PySem.boot_len (pa_cons (pv 3) pa_nil)) pe_int (nomark _)) (pss_cons (ps_asg (pe_ix ix_list (pv 3) pe_int (fun _ _ => rfl)) (pg_sub (pv 2) (pe_ix ix_list (pv 3) pe_int (fun _ _ => rfl)) set_list))
   (pss_one (ps_asg (pe_ix ix_list (pv 3) pe_int (fun _ _ => rfl)) (pg_sub (pv 2) (pe_ix ix_list (pv 3) pe_int (fun _ _ => rfl)) set_list)))) pss_nil)))
   (pss_one (ps_ret (pv 2))))), ?_⟩
  refine ⟨(by show 1 ≤ sizeLine; decide), fun q hq => ?_⟩
  refine ⟨_, rfl, q, _, _, rfl, rfl, upd_same, by omega, by omega, ?_, fun m hm => ?_⟩
  ·have : ((ns.length : Nat) : Int).toNat = ns.length := by omega
   show 1 * ((ns.length : Nat) : Int).toNat ≤ sizeLine
   rw [this, sizeLine_eq]; omega
  obtain ⟨hmq, hm0⟩ := upd_none hm
  have eM : (List.replicate ((ns.length : Nat) : Int).toNat [V.non]).flatten = (part M ns []).map mV := by
   have : ((ns.length : Nat) : Int).toNat = M.length := by rw [← td.len]; omega
   rw [this, List.flatten_replicate_singleton, part_nil td, List.map_replicate]
   rfl
  rw [eM]
  have hdm : d ≠ m := ne_of_none hd hm0
  have hdq : d ≠ q := ne_of_none hd hq
  dsimp only [gName]
  show tSeq (tFor _ _ _) _ _ _ _
  refine seq_post (fun σ H1 => ∃ (o : Obj) (v : Option V), σ = [some (.ref d), some (.int ns.length), some (.ref m), v] ∧ (∀ b u, b ≠ d → H b = some u → H1 b = some u) ∧ H1 m = some (.lst (M.map mV)) ∧ H1 d = some (.frz o (.dK (spk ns ns.length f)))) (fun nx hnx => ?_) ?_
  ·refine ⟨_, rfl, d, _, rfl, .inl ⟨by rw [upd_ne hdm, upd_ne hdq]; exact hd, fun o => ?_⟩⟩
   refine for_vals (fun j σ H1 => ∃ (v : Option V), σ = [some (.ref d), some (.int ns.length), some (.ref m), v] ∧ (∀ b u, b ≠ d → H b = some u → H1 b = some u) ∧ H1 m = some (.lst ((part M ns ((keys ns ns.length).take j)).map mV)) ∧ H1 d = some (.frz o (.dK (spk ns ns.length f))))
    ⟨none, rfl, fun b u hb e => ?_, ?_, upd_same⟩ ?_ ?_ ?_
   ·rw [upd_ne hb, upd_ne (ne_of_none e hm0), upd_ne (ne_of_none e hq)]; exact e
   ·rw [upd_ne (Ne.symm hdm), upd_same]
    rfl
   ·rintro j σ H1 _ ⟨v, rfl, old, h1, h2⟩
    exact h2
   ·rintro j k0 x0 σ H1 hk ⟨v, rfl, old, h1, h2⟩
    obtain ⟨x, hx, rfl⟩ : ∃ x, (keys ns ns.length)[j]? = some x ∧ x0 = V.ref (f x) := by
     unfold spk at hk
     rw [List.getElem?_map] at hk
     cases e : (keys ns ns.length)[j]? with
     | none => rw [e] at hk; cases hk
     | some x => rw [e] at hk; cases hk; exact ⟨x, rfl, rfl⟩
    have hm1 : x ∈ keys ns ns.length := List.mem_of_getElem? hx
    have et : (keys ns ns.length).take (j + 1) = (keys ns ns.length).take j ++ [x] := by
     rw [List.take_add_one, hx]; rfl
    have hfx := sf.at' x hm1
    have hfd : f x ≠ d := fun z => by rw [z, hd] at hfx; cases hfx
    have hf1 := old _ _ hfd hfx
    dsimp only [gName]
    refine ⟨_, rfl, f x, _, rfl, .inl (SqL.of hf1), rfl, _, rfl, ?_⟩
    rcases pl_cases td hm1 with ⟨a, e, ea, ma⟩ | ⟨a, b, hab, e, ea, eb, ma, mb⟩
    ·rw [e] at hf1 ⊢
     refine iteF ?_
     refine ⟨_, rfl, old, ?_, h2⟩
     rw [et, part_rim td e ma]
     exact h1
    ·rw [e] at hf1 ⊢
     refine iteT ?_
     have la : a < (part M ns ((keys ns ns.length).take j)).length := by rw [part_len]; exact (List.getElem?_eq_some_iff.mp ma).1
     have lb : b < (part M ns ((keys ns ns.length).take j)).length := by rw [part_len]; exact (List.getElem?_eq_some_iff.mp mb).1
     have hfm : f x ≠ m := ne_of_none hfx hm0
     refine ⟨_, rfl, f x, _, _, _, rfl, rfl, SqL.of hf1, rfl, ?_⟩
     refine ⟨_, rfl, _, rfl, f x, _, _, _, rfl, rfl, SqL.of hf1, rfl, m, _, _, a, rfl, rfl, h1, (by rw [List.length_map]; exact ixN_nat la), ?_⟩
     have hf2 : (upd H1 m (.lst (((part M ns ((keys ns ns.length).take j)).map mV).set a (nV b)))) (f x) = some (.lst ([a, b].map nV)) := by rw [upd_ne hfm]; exact hf1
     refine ⟨_, rfl, f x, _, _, _, rfl, rfl, SqL.of hf2, rfl, ?_⟩
     refine ⟨_, rfl, _, rfl, f x, _, _, _, rfl, rfl, SqL.of hf2, rfl, m, _, _, b, rfl, rfl, upd_same, (by rw [List.length_set, List.length_map]; exact ixN_nat lb), ?_⟩
     refine ⟨_, rfl, fun c u hc ec => ?_, ?_, ?_⟩
     ·have : c ≠ m := ne_of_none ec hm0
      rw [upd_ne this, upd_ne this]
      exact old c u hc ec
     ·rw [upd_same, et, part_sewn td e hab ma mb]
      show some (HO.lst ((((part M ns ((keys ns ns.length).take j)).map mV).set a (mV (some b))).set b (mV (some a)))) = _
      rw [map_set, map_set]
     ·rw [upd_ne hdm, upd_ne hdm]; exact h2
   ·rintro σ H1 ⟨v, rfl, old, h1, h2⟩
    refine hnx _ _ ⟨o, v, rfl, old, ?_, h2⟩
    have : (keys ns ns.length).take (spk ns ns.length f).length = keys ns ns.length := by
     unfold spk; rw [List.length_map, List.take_length]
    rw [this, part_all td] at h1
    exact h1
  rintro σ H1 ⟨o, v, rfl, old, h1, h2⟩
  exact ⟨_, rfl, k m o H1 old hm0 h1 h2⟩
end
end KT
set_option maxHeartbeats 4000000
namespace KT
open PySem L2
def tflds (cl na sp mt : Addr) : List (Str × V) := putF "mates" (.ref mt) (putF "spots" (.ref sp) (putF "names_at" (.ref na) (putF "cloths" (.ref cl) [])))
theorem len_putF (f : Str) (v : V) : ∀ fs : List (Str × V), (putF f v fs).length ≤ fs.length + 1
 | [] => by simp [putF]
 | (g, x) :: r => by
  have := len_putF f v r
  unfold putF
  split
  ·simp
  ·simp only [List.length_cons]; omega
theorem s_cn : ¬ ("cloths" : Str) = "names_at" := by decide
theorem s_cs : ¬ ("cloths" : Str) = "spots" := by decide
theorem s_cm : ¬ ("cloths" : Str) = "mates" := by decide
theorem s_ns : ¬ ("names_at" : Str) = "spots" := by decide
theorem s_nm : ¬ ("names_at" : Str) = "mates" := by decide
theorem s_sm : ¬ ("spots" : Str) = "mates" := by decide
theorem fl_cloths (cl na sp mt : Addr) : (tflds cl na sp mt).lookup ("cloths" : Str) = some (.ref cl) := by
 unfold tflds; rw [lookup_putF, if_neg s_cm, lookup_putF, if_neg s_cs, lookup_putF, if_neg s_cn, lookup_putF, if_pos rfl]
theorem fl_names (cl na sp mt : Addr) : (tflds cl na sp mt).lookup ("names_at" : Str) = some (.ref na) := by
 unfold tflds; rw [lookup_putF, if_neg s_nm, lookup_putF, if_neg s_ns, lookup_putF, if_pos rfl]
theorem fl_spots (cl na sp mt : Addr) : (tflds cl na sp mt).lookup ("spots" : Str) = some (.ref sp) := by
 unfold tflds; rw [lookup_putF, if_neg s_sm, lookup_putF, if_pos rfl]
theorem fl_mates (cl na sp mt : Addr) : (tflds cl na sp mt).lookup ("mates" : Str) = some (.ref mt) := by
 unfold tflds; rw [lookup_putF, if_pos rfl]
theorem fl_none (cl na sp mt : Addr) {m : Str} (h : m ≠ "cloths" ∧ m ≠ "names_at" ∧ m ≠ "spots" ∧ m ≠ "mates" := by decide) : (tflds cl na sp mt).lookup m = none := by
 obtain ⟨h1, h2, h3, h4⟩ := h
 unfold tflds; rw [lookup_putF, if_neg h4, lookup_putF, if_neg h3, lookup_putF, if_neg h2, lookup_putF, if_neg h1]; rfl
structure TentB (C : Addr) (H : Hp) (p : Addr) (M : List (Option Nat)) (ns : List Int) (dx cl na sp mt : Addr) (o : Obj) (f : Int → Addr) : Prop where
 ins : H p = some (.ins C dx (tflds cl na sp mt))
 rows : RowsAt H cl ns
 names : H na = some (.lst (ns.map V.int))
 spots : H sp = some (.frz o (.dK (spk ns ns.length f)))
 mates : H mt = some (.lst (M.map mV))
 at' : ∀ x ∈ keys ns ns.length, H (f x) = some (.lst ((pl ns ns.length x).map nV))
def TentAt (C : Addr) (H : Hp) (p : Addr) (M : List (Option Nat)) (ns : List Int) : Prop := ∃ dx cl na sp mt o f, TentB C H p M ns dx cl na sp mt o f
theorem TentAt.same {C : Addr} {H H' : Hp} {p : Addr} {M : List (Option Nat)} {ns : List Int} (h : TentAt C H p M ns) (s : Same H H') : TentAt C H' p M ns := by
 obtain ⟨dx, cl, na, sp, mt, o, f, b⟩ := h
 exact ⟨dx, cl, na, sp, mt, o, f, s _ _ b.ins, b.rows.same s, s _ _ b.names, s _ _ b.spots, s _ _ b.mates, fun x hx => s _ _ (b.at' x hx)⟩
theorem take_row {ns : List Int} {k n : Nat} (h : ns.length = 3 * n) (hk : k < n) : (ns.take (3 * k)).map V.int ++ row3 ns k = (ns.take (3 * (k + 1))).map V.int := by
 have e : ns.take (3 * (k + 1)) = ns.take (3 * k) ++ [ns.getD (3 * k) 0, ns.getD (3 * k + 1) 0, ns.getD (3 * k + 2) 0] := by
  have l0 : 3 * k < ns.length := by omega
  have l1 : 3 * k + 1 < ns.length := by omega
  have l2 : 3 * k + 2 < ns.length := by omega
  have g : ∀ i, i < ns.length → ns[i]? = some (ns.getD i 0) := fun i hi => by rw [List.getD_eq_getElem?_getD, List.getElem?_eq_getElem hi]; rfl
  rw [show 3 * (k + 1) = 3 * k + 1 + 1 + 1 by omega, List.take_add_one, List.take_add_one, List.take_add_one, g _ l0, g _ l1, g _ l2, List.append_assoc, List.append_assoc]
  rfl
 rw [e, List.map_append]
 rfl
def sp_Tent_init (C : Addr) : Sp := fun vs H Q _ => ∃ (p r dx : Addr) (M : List (Option Nat)) (ns : List Int), vs = [.ref p, .ref r] ∧ H p = some (.ins C dx []) ∧ RowsAt H r ns ∧ TD M ns ∧ ns.length ≤ 120 ∧
 ∀ (H' : Hp), (∀ b u, b ≠ p → H b = some u → H' b = some u) → TentAt C H' p M ns → Q .non H'
section
variable {P : Program} {w : World} {K : PySem.W.Frag} {mg : Str → Option Value} {base : Heap} {t : Adr}
theorem sc_Tent_init : FnScope ["self", "rows"] ["self", "rows"] (defScope s_Tent_init) := ⟨rfl, rfl, rfl, by decide +kernel, rfl, by decide +kernel, by decide +kernel⟩
theorem ok_Tent_init (T : Txt w K mg t) : FnOk P w K mg base (CXr P w) 2 t.f_Tent_init t.d_Tent_init ["self", "rows"] (sp_Tent_init t.C_Tent) := by
  refine T.p_Tent_init.F.okR sc_Tent_init (fun vs H Q E h => ?_) (fun cdv A outer s H vs Q E hr h => ?_)
  · obtain ⟨p, r, dx, M, ns, rfl, _⟩ := h
    rfl
  · obtain ⟨p, r, dx, M, ns, rfl, hp, ⟨ts, hr1, hr2, hr3⟩, td, hl, k⟩ := h
    refine ⟨_, (pss_cons (ps_if (pt_not (pt_truth (pv 1) (fun _ => rfl))) pss_never pss_nil)
      (pss_cons (ps_fld (pv 0) (pe_compG (ts := ["row"]) (fv := []) ⟨rfl, by decide +kernel, by decide +kernel, blkFree (by rfl), trivial⟩ rfl (pi_list (pv 1)) (fun _ _ _ _ => (pg_name (i := 0) (show List.Nodup (["row"] : List Str) from by decide +kernel) rfl (Or.inl rfl) (Or.inr rfl))) (fun _ _ _ _ => pts_nil) (fun _ _ _ => rfl) (fun _ _ _ _ _ _ => pb_emit (pe_callTy (call_tuple_ofK K) (by rfl) T.n_tuple PySem.Pv.boot_tuple (pa_cons (pv 0) pa_nil)))) rfl)
      (pss_cons (ps_fld (pv 0) (pe_compG (ts := ["row", "name"]) (fv := []) ⟨rfl, by decide +kernel, by decide +kernel, blkFree (by rfl), trivial⟩ rfl (pi_list (pe_fld (pv 0) rfl)) (fun _ _ _ _ => (pg_name (i := 0) (show List.Nodup (["row", "name"] : List Str) from by decide +kernel) rfl (Or.inl rfl) (Or.inr rfl))) (fun _ _ _ _ => pts_nil) (fun _ _ _ => rfl) (fun _ _ _ _ _ _ => pb_gen rfl rfl (pi_tupK K (pv 0)) (pg_name (i := 1) (show List.Nodup (["row", "name"] : List Str) from by decide +kernel) rfl (Or.inl rfl) (Or.inr rfl)) pts_nil (pv 1))) rfl)
      (pss_cons (ps_fld (pv 0) (pe_call (ok_spots_of T) (hr.mono (by decide)) rfl T.p_spots_of.g T.p_spots_of.F.kp T.p_spots_of.b .nil passR (pa_cons (pe_fld (pv 0) rfl) pa_nil)) rfl)
      (pss_one (ps_fld (pv 0) (pe_call (ok_mates_of T) (hr.mono (by decide)) rfl T.p_mates_of.g T.p_mates_of.F.kp T.p_mates_of.b .nil passR (pa_cons (pe_fld (pv 0) rfl) (pa_cons (pe_callB call_len_seq (by rfl) T.n_len PySem.boot_len (pa_cons (pe_fld (pv 0) rfl) pa_nil)) pa_nil))) rfl)))))), ?_⟩
    obtain ⟨n, n1, n2, hn⟩ := td.n
    have hnn : ns.length = 3 * n := by rw [td.len, hn]
    have htn : ts.length = n := by omega
    have hrp : r ≠ p := fun z => by rw [z, hp] at hr1; cases hr1
    refine ⟨_, rfl, true, .inl ⟨_, SqL.of hr1, ?_⟩, ?_⟩
    · cases ts with
      | nil => simp at htn; omega
      | cons _ _ => rfl
    refine iteF ?_
    dsimp only [tNext]
    refine ⟨_, rfl, r, rfl, ⟨_, SqL.of hr1⟩, fun D hD => ?_⟩
    have hDp : D ≠ p := fun z => by rw [z, hp] at hD; cases hD
    refine loop_list (xs := ts.map V.ref) (fun i σ H1 => ∃ (v : Option V), σ = [v] ∧ Same H H1 ∧ H1 D = some (.lst ((ts.take i).map V.ref))) ⟨none, rfl, Same.new hD, upd_same⟩ ?_ ?_ ?_
    · rintro i σ H1 _ ⟨v, rfl, sm, h1⟩
      exact SqL.of (sm _ _ hr1)
    · rintro i x σ H1 hx ⟨v, rfl, sm, h1⟩
      dsimp only [gName, tYes]
      rw [if_pos rfl]
      obtain ⟨tt, ht, rfl⟩ := map_some hx
      refine ⟨_, rfl, tt, _, rfl, .inr ⟨SqT.of (sm _ _ (hr3 i tt ht)), _, h1, (by rw [List.length_map, List.length_take]; exact small1000 (by omega)), _, rfl, Same.add sm hD, ?_⟩⟩
      rw [upd_same, List.take_add_one, ht, List.map_append]
      rfl
    rintro σ H1 ⟨v, rfl, sm1, h1⟩
    rw [List.length_map, List.take_length] at h1
    have hp1 := sm1 _ _ hp
    refine ⟨_, rfl, p, _, dx, _, rfl, hp1, T.cl_Tent, T.a_Tent_cloths, by decide, ?_⟩
    have old2 : ∀ b u, b ≠ p → H b = some u → (upd H1 p (.ins t.C_Tent dx (putF "cloths" (.ref D) []))) b = some u := fun b u hb e => by rw [upd_ne hb]; exact sm1 b u e
    have hD2 : (upd H1 p (.ins t.C_Tent dx (putF "cloths" (.ref D) []))) D = some (.lst (ts.map V.ref)) := by rw [upd_ne hDp]; exact h1
    have hp2 : (upd H1 p (.ins t.C_Tent dx (putF "cloths" (.ref D) []))) p = some (.ins t.C_Tent dx (putF "cloths" (.ref D) [])) := upd_same
    have ht2 : ∀ (k : Nat) (q : Addr), ts[k]? = some q → (upd H1 p (.ins t.C_Tent dx (putF "cloths" (.ref D) []))) q = some (.tup (row3 ns k)) := fun k q e => by
      have e1 := hr3 k q e
      have : q ≠ p := fun z => by rw [z, hp] at e1; cases e1
      exact old2 q _ this e1
    generalize upd H1 p (.ins t.C_Tent dx (putF "cloths" (.ref D) [])) = H2 at old2 hD2 hp2 ht2 ⊢
    refine ⟨_, rfl, p, _, dx, _, _, rfl, hp2, T.cl_Tent, T.a_Tent_cloths, rfl, D, rfl, ⟨_, SqL.of hD2⟩, fun N hN => ?_⟩
    have hND : N ≠ D := fun z => by rw [z, hD2] at hN; cases hN
    have hNp : N ≠ p := fun z => by rw [z, hp2] at hN; cases hN
    refine loop_list (xs := ts.map V.ref) (fun i σ H3 => ∃ (v v' : Option V), σ = [v, v'] ∧ Same H2 H3 ∧ H3 N = some (.lst ((ns.take (3 * i)).map V.int))) ⟨none, none, rfl, Same.new hN, upd_same⟩ ?_ ?_ ?_
    · rintro i σ H3 _ ⟨v, v', rfl, sm, h3⟩
      exact SqL.of (sm _ _ hD2)
    · rintro i x σ H3 hx ⟨v, v', rfl, sm, h3⟩
      dsimp only [gName, tYes]
      rw [if_pos rfl]
      obtain ⟨tt, ht, rfl⟩ := map_some hx
      have hi : i < n := by rw [← htn]; exact (List.getElem?_eq_some_iff.mp ht).1
      refine ⟨_, rfl, tt, rfl, ⟨_, SqT.of (sm _ _ (ht2 i tt ht))⟩, ?_⟩
      refine loop_tup (xs := row3 ns i) (fun j σ H4 => ∃ (v' : Option V), σ = [some (.ref tt), v'] ∧ Same H2 H4 ∧ H4 N = some (.lst ((ns.take (3 * i)).map V.int ++ (row3 ns i).take j))) ⟨v', rfl, sm, by rw [h3, List.take_zero, List.append_nil]⟩ ?_ ?_ ?_
      · rintro j σ H4 _ ⟨v', rfl, sm, h4⟩
        exact SqT.of (sm _ _ (ht2 i tt ht))
      · rintro j x σ H4 hx ⟨v', rfl, sm, h4⟩
        dsimp only [gName, tYes]
        rw [if_pos rfl]
        refine ⟨_, rfl, _, h4, ?_, _, rfl, Same.add sm hN, ?_⟩
        · rw [List.length_append, List.length_map, List.length_take, List.length_take]
          exact small1000 (by have : (row3 ns i).length = 3 := rfl; omega)
        · rw [upd_same, List.take_add_one, hx, ← List.append_assoc]
          rfl
      · rintro σ H4 ⟨v', rfl, sm, h4⟩
        refine ⟨_, _, rfl, sm, ?_⟩
        rw [h4, List.take_length, take_row hnn hi]
    rintro σ H3 ⟨v, v', rfl, sm3, h3⟩
    have eall : ns.take (3 * (ts.map V.ref).length) = ns := by rw [List.length_map, htn, ← hnn, List.take_length]
    rw [eall] at h3
    have hp3 := sm3 _ _ hp2
    refine ⟨_, rfl, p, _, dx, _, rfl, hp3, T.cl_Tent, T.a_Tent_names_at, (by have h1 := len_putF "cloths" (.ref D) []; simp only [List.length_nil] at h1; omega), ?_⟩
    have old4 : ∀ b u, b ≠ p → H2 b = some u → (upd H3 p (.ins t.C_Tent dx (putF "names_at" (.ref N) (putF "cloths" (.ref D) [])))) b = some u := fun b u hb e => by rw [upd_ne hb]; exact sm3 b u e
    have hN4 : (upd H3 p (.ins t.C_Tent dx (putF "names_at" (.ref N) (putF "cloths" (.ref D) [])))) N = some (.lst (ns.map V.int)) := by rw [upd_ne hNp]; exact h3
    have hp4 : (upd H3 p (.ins t.C_Tent dx (putF "names_at" (.ref N) (putF "cloths" (.ref D) [])))) p = some (.ins t.C_Tent dx (putF "names_at" (.ref N) (putF "cloths" (.ref D) []))) := upd_same
    generalize upd H3 p (.ins t.C_Tent dx (putF "names_at" (.ref N) (putF "cloths" (.ref D) []))) = H4 at old4 hN4 hp4 ⊢
    have lk1 : (putF "names_at" (.ref N) (putF "cloths" (.ref D) [])).lookup ("names_at" : Str) = some (.ref N) := by rw [lookup_putF, if_pos rfl]
    refine ⟨_, rfl, p, _, dx, _, _, rfl, hp4, T.cl_Tent, T.a_Tent_names_at, lk1, N, M, ns, rfl, hN4, td, hl, fun d f H5 sm5 hd5 hd5' sf hf0 => ?_⟩
    have hp5 := sm5 _ _ hp4
    refine ⟨_, rfl, p, _, dx, _, rfl, hp5, T.cl_Tent, T.a_Tent_spots, (by have h1 := len_putF "cloths" (.ref D) []; have h2 := len_putF "names_at" (.ref N) (putF "cloths" (.ref D) []); simp only [List.length_nil] at h1; omega), ?_⟩
    have hdp : d ≠ p := fun z => by rw [z, hp4] at hd5; cases hd5
    have hfp : ∀ x ∈ keys ns ns.length, f x ≠ p := fun x hx z => by have := hf0 x hx; rw [z, hp4] at this; cases this
    have old6 : ∀ b u, b ≠ p → H4 b = some u → (upd H5 p (.ins t.C_Tent dx (putF "spots" (.ref d) (putF "names_at" (.ref N) (putF "cloths" (.ref D) []))))) b = some u := fun b u hb e => by rw [upd_ne hb]; exact sm5 b u e
    have hp6 : (upd H5 p (.ins t.C_Tent dx (putF "spots" (.ref d) (putF "names_at" (.ref N) (putF "cloths" (.ref D) []))))) p = some (.ins t.C_Tent dx (putF "spots" (.ref d) (putF "names_at" (.ref N) (putF "cloths" (.ref D) [])))) := upd_same
    have hd6 : (upd H5 p (.ins t.C_Tent dx (putF "spots" (.ref d) (putF "names_at" (.ref N) (putF "cloths" (.ref D) []))))) d = some (.dK (spk ns ns.length f)) := by rw [upd_ne hdp]; exact hd5'
    have sf6 : SpotsF (upd H5 p (.ins t.C_Tent dx (putF "spots" (.ref d) (putF "names_at" (.ref N) (putF "cloths" (.ref D) []))))) ns ns.length f := ⟨sf.inj, fun x hx => by rw [upd_ne (hfp x hx)]; exact sf.at' x hx⟩
    generalize upd H5 p (.ins t.C_Tent dx (putF "spots" (.ref d) (putF "names_at" (.ref N) (putF "cloths" (.ref D) [])))) = H6 at old6 hp6 hd6 sf6 ⊢
    have lk2 : (putF "spots" (.ref d) (putF "names_at" (.ref N) (putF "cloths" (.ref D) []))).lookup ("spots" : Str) = some (.ref d) := by rw [lookup_putF, if_pos rfl]
    have lk3 : (putF "spots" (.ref d) (putF "names_at" (.ref N) (putF "cloths" (.ref D) []))).lookup ("names_at" : Str) = some (.ref N) := by rw [lookup_putF, if_neg s_ns, lookup_putF, if_pos rfl]
    have hN6 := old6 _ _ hNp hN4
    have eln : (((ns.map V.int).length : Nat) : Int) = (ns.length : Nat) := by rw [List.length_map]
    refine ⟨_, rfl, p, _, dx, _, _, rfl, hp6, T.cl_Tent, T.a_Tent_spots, lk2, _, rfl, p, _, dx, _, _, rfl, hp6, T.cl_Tent, T.a_Tent_names_at, lk3, N, _, rfl, .inl (SqL.of hN6), d, M, ns, f, (by rw [eln]; rfl), hd6, sf6, td, hl, fun m o H7 old7 hm7 hmm hdd => ?_⟩
    have hpd : p ≠ d := Ne.symm hdp
    have hp7 := old7 _ _ hpd hp6
    refine ⟨_, rfl, p, _, dx, _, rfl, hp7, T.cl_Tent, T.a_Tent_mates, (by have h1 := len_putF "cloths" (.ref D) []; have h2 := len_putF "names_at" (.ref N) (putF "cloths" (.ref D) []); have h3 := len_putF "spots" (.ref d) (putF "names_at" (.ref N) (putF "cloths" (.ref D) [])); simp only [List.length_nil] at h1; omega), ?_⟩
    have hmp : m ≠ p := fun z => by rw [z, hp6] at hm7; cases hm7
    have dN : N ≠ d := fun z => by rw [z, hd6] at hN6; cases hN6
    have old8 : ∀ b u, b ≠ p → b ≠ d → H6 b = some u → (upd H7 p (.ins t.C_Tent dx (tflds D N d m))) b = some u := fun b u hb hbd e => by rw [upd_ne hb]; exact old7 b u hbd e
    have old46 : ∀ b u, b ≠ p → H4 b = some u → H6 b = some u ∧ b ≠ d := fun b u hb e => ⟨old6 b u hb e, fun z => by rw [z, hd5] at e; cases e⟩
    have old28 : ∀ b u, b ≠ p → H2 b = some u → (upd H7 p (.ins t.C_Tent dx (tflds D N d m))) b = some u := fun b u hb e => by
      obtain ⟨e6, hbd⟩ := old46 b u hb (old4 b u hb e)
      exact old8 b u hb hbd e6
    refine k _ (fun b u hb e => old28 b u hb (old2 b u hb e)) ⟨dx, D, N, d, m, o, f, upd_same, ⟨ts, old28 _ _ hDp hD2, by omega, fun k q e => ?_⟩, ?_, ?_, ?_, ?_⟩
    · have e1 := ht2 k q e
      exact old28 q _ (fun z => by rw [z, hp2] at e1; cases e1) e1
    · exact old8 _ _ hNp dN hN6
    · rw [upd_ne hdp]; exact hdd
    · rw [upd_ne hmp]; exact hmm
    · intro x hx
      have e1 := sf6.at' x hx
      exact old8 _ _ (hfp x hx) (fun z => by rw [z, hd6] at e1; cases e1) e1
end
end KT
set_option maxHeartbeats 4000000
namespace KT
open PySem L2
def sortOf (ns : List Int) (x : Int) : Str := match pl ns ns.length x with
 | [a, b] => if a / 3 = b / 3 then "locked" else "free"
 | _ => "rim"
def sp_after : Sp := fun vs H Q _ => ∃ p : Int, vs = [.int p] ∧ Q (.int (after p)) H
def sp_before : Sp := fun vs H Q _ => ∃ p : Int, vs = [.int p] ∧ Q (.int (before p)) H
def sp_cloth_of : Sp := fun vs H Q _ => ∃ p : Int, vs = [.int p] ∧ Q (.int (p / 3)) H
def sp_Tent_size (C : Addr) : Sp := fun vs H Q _ => ∃ (p : Addr) (M : List (Option Nat)) (ns : List Int) (n : Nat), vs = [.ref p] ∧ TentAt C H p M ns ∧ ns.length = 3 * n ∧ Q (.int n) H
def sp_Tent_seams (C : Addr) : Sp := fun vs H Q _ => ∃ (p : Addr) (M : List (Option Nat)) (ns : List Int), vs = [.ref p] ∧ TentAt C H p M ns ∧ ns.length < 64 ∧
 ∀ (l : Addr) (out : List Int), H l = none → out.Perm (keys ns ns.length) → out.Pairwise (· ≤ ·) → Q (.ref l) (upd H l (.lst (out.map V.int)))
def sp_Tent_has_place (C : Addr) : Sp := fun vs H Q _ => ∃ (p : Addr) (M : List (Option Nat)) (ns : List Int) (x : Int), vs = [.ref p, .int x] ∧ TentAt C H p M ns ∧ Q (.bl (decide (0 ≤ x ∧ x < ns.length))) H
def sp_Tent_look_place (C EP : Addr) : Sp := fun vs H Q E => ∃ (p : Addr) (M : List (Option Nat)) (ns : List Int) (x : Int), vs = [.ref p, .int x] ∧ TentAt C H p M ns ∧ (0 ≤ x ∧ x < ns.length → Q .non H) ∧ (¬ (0 ≤ x ∧ x < ns.length) → E (.ref EP) none H)
def sp_Tent_seam_at (C EP : Addr) : Sp := fun vs H Q E => ∃ (p : Addr) (M : List (Option Nat)) (ns : List Int) (x : Int), vs = [.ref p, .int x] ∧ TentAt C H p M ns ∧ (∀ (i : Nat) (y : Int), x = i → ns[i]? = some y → Q (.int y) H) ∧ (¬ (0 ≤ x ∧ x < ns.length) → E (.ref EP) none H)
def sp_Tent_mate (C EP : Addr) : Sp := fun vs H Q E => ∃ (p : Addr) (M : List (Option Nat)) (ns : List Int) (x : Int), vs = [.ref p, .int x] ∧ TentAt C H p M ns ∧ M.length = ns.length ∧ (∀ (i : Nat) (y : Option Nat), x = i → M[i]? = some y → Q (mV y) H) ∧ (¬ (0 ≤ x ∧ x < ns.length) → E (.ref EP) none H)
def sp_Tent_places (C ES : Addr) : Sp := fun vs H Q E => ∃ (p : Addr) (M : List (Option Nat)) (ns : List Int) (x : Int), vs = [.ref p, .int x] ∧ TentAt C H p M ns ∧ (x ∈ keys ns ns.length → ∀ l, H l = none → Q (.ref l) (upd H l (.lst ((pl ns ns.length x).map nV)))) ∧ (x ∉ keys ns ns.length → E (.ref ES) none H)
def sp_Tent_sort_of (C ES : Addr) : Sp := fun vs H Q E => ∃ (p : Addr) (M : List (Option Nat)) (ns : List Int) (x : Int), vs = [.ref p, .int x] ∧ TentAt C H p M ns ∧ TD M ns ∧ (x ∈ keys ns ns.length → ∀ H', Same H H' → Q (.str (sortOf ns x)) H') ∧ (x ∉ keys ns ns.length → E (.ref ES) none H)
section
variable {P : Program} {w : World} {K : PySem.W.Frag} {mg : Str → Option Value} {base : Heap} {t : Adr}
theorem sc_after : FnScope ["place"] ["place"] (defScope s_after) := ⟨rfl, rfl, rfl, by decide +kernel, rfl, by decide +kernel, by decide +kernel⟩
theorem ok_after (T : Txt w K mg t) : FnOk P w K mg base (CXr P w) 1 t.f_after t.d_after ["place"] sp_after := by
 refine T.p_after.F.okR sc_after (fun vs H Q E h => ?_) (fun cdv A outer s H vs Q E hr h => ?_)
 ·obtain ⟨p, rfl, _⟩ := h
  rfl
 ·obtain ⟨p, rfl, k⟩ := h
  refine ⟨_, (pss_one (ps_ret (pe_ifExp (pt_cmpR op_eq (pe_op op_mod (pv 0) pe_int) pe_int (nomark _)) (pe_op op_sub (pv 0) pe_int) (pe_op op_add (pv 0) pe_int)))), ?_⟩
  refine ⟨_, rfl, _, _, rfl, rfl, (by show (0 : Int) < 3; decide), rfl, _, rfl, ?_⟩
  refine ite2 (fun h => ?_) (fun h => ?_)
  ·have h : p % 3 = 2 := by simpa using h
   refine ⟨_, rfl, _, _, rfl, rfl, ?_⟩
   have e : after p = p - 2 := if_pos h
   rw [e] at k; exact k
  ·have h : ¬ p % 3 = 2 := by simpa using h
   refine ⟨_, rfl, _, _, rfl, rfl, ?_⟩
   have e : after p = p + 1 := if_neg h
   rw [e] at k; exact k
theorem sc_before : FnScope ["place"] ["place"] (defScope s_before) := ⟨rfl, rfl, rfl, by decide +kernel, rfl, by decide +kernel, by decide +kernel⟩
theorem ok_before (T : Txt w K mg t) : FnOk P w K mg base (CXr P w) 1 t.f_before t.d_before ["place"] sp_before := by
 refine T.p_before.F.okR sc_before (fun vs H Q E h => ?_) (fun cdv A outer s H vs Q E hr h => ?_)
 ·obtain ⟨p, rfl, _⟩ := h
  rfl
 ·obtain ⟨p, rfl, k⟩ := h
  refine ⟨_, (pss_one (ps_ret (pe_ifExp (pt_cmpR op_eq (pe_op op_mod (pv 0) pe_int) pe_int (nomark _)) (pe_op op_add (pv 0) pe_int) (pe_op op_sub (pv 0) pe_int)))), ?_⟩
  refine ⟨_, rfl, _, _, rfl, rfl, (by show (0 : Int) < 3; decide), rfl, _, rfl, ?_⟩
  refine ite2 (fun h => ?_) (fun h => ?_)
  ·have h : p % 3 = 0 := by simpa using h
   refine ⟨_, rfl, _, _, rfl, rfl, ?_⟩
   have e : before p = p + 2 := if_pos h
   rw [e] at k; exact k
  ·have h : ¬ p % 3 = 0 := by simpa using h
   refine ⟨_, rfl, _, _, rfl, rfl, ?_⟩
   have e : before p = p - 1 := if_neg h
   rw [e] at k; exact k
theorem sc_cloth_of : FnScope ["place"] ["place"] (defScope s_cloth_of) := ⟨rfl, rfl, rfl, by decide +kernel, rfl, by decide +kernel, by decide +kernel⟩
theorem ok_cloth_of (T : Txt w K mg t) : FnOk P w K mg base (CXr P w) 1 t.f_cloth_of t.d_cloth_of ["place"] sp_cloth_of := by
 refine T.p_cloth_of.F.okR sc_cloth_of (fun vs H Q E h => ?_) (fun cdv A outer s H vs Q E hr h => ?_)
 ·obtain ⟨p, rfl, _⟩ := h
  rfl
 ·obtain ⟨p, rfl, k⟩ := h
  refine ⟨_, (pss_one (ps_ret (pe_op op_fdiv (pv 0) pe_int))), ?_⟩
  exact ⟨_, rfl, _, _, rfl, rfl, ⟨by decide, by decide⟩, k⟩
theorem sc_Tent_size : FnScope ["self"] ["self"] (defScope s_Tent_size) := ⟨rfl, rfl, rfl, by decide +kernel, rfl, by decide +kernel, by decide +kernel⟩
theorem ok_Tent_size (T : Txt w K mg t) : FnOk P w K mg base (CXr P w) 1 t.f_Tent_size t.d_Tent_size ["self"] (sp_Tent_size t.C_Tent) := by
 refine T.p_Tent_size.F.okR sc_Tent_size (fun vs H Q E h => ?_) (fun cdv A outer s H vs Q E hr h => ?_)
 ·obtain ⟨p, M, ns, n, rfl, _⟩ := h
  rfl
 ·obtain ⟨p, M, ns, n, rfl, ⟨dx, cl, na, sp, mt, o, f, b⟩, hn, k⟩ := h
  refine ⟨_, (pss_one (ps_ret (pe_callB call_len_seq (by rfl) T.n_len PySem.boot_len (pa_cons (pe_fld (pv 0) rfl) pa_nil)))), ?_⟩
  obtain ⟨ts, h1, h2, h3⟩ := b.rows
  refine ⟨_, rfl, p, _, dx, _, _, rfl, b.ins, T.cl_Tent, T.a_Tent_cloths, fl_cloths .., cl, _, rfl, .inl (SqL.of h1), ?_⟩
  have : (ts.map V.ref).length = n := by rw [List.length_map]; omega
  rw [this]; exact k
theorem sc_Tent_seams : FnScope ["self"] ["self"] (defScope s_Tent_seams) := ⟨rfl, rfl, rfl, by decide +kernel, rfl, by decide +kernel, by decide +kernel⟩
theorem ok_Tent_seams (T : Txt w K mg t) : FnOk P w K mg base (CXr P w) 1 t.f_Tent_seams t.d_Tent_seams ["self"] (sp_Tent_seams t.C_Tent) := by
 refine T.p_Tent_seams.F.okR sc_Tent_seams (fun vs H Q E h => ?_) (fun cdv A outer s H vs Q E hr h => ?_)
 ·obtain ⟨p, M, ns, rfl, _⟩ := h
  rfl
 ·obtain ⟨p, M, ns, rfl, ⟨dx, cl, na, sp, mt, o, f, b⟩, h64, k⟩ := h
  refine ⟨_, (pss_one (ps_ret (pe_callB (call_sortedD rfl) (by rfl) T.n_sorted PyProof.Rows.boot_sorted (pa_cons (pe_fld (pv 0) rfl) pa_nil)))), ?_⟩
  refine ⟨_, rfl, p, _, dx, _, _, rfl, b.ins, T.cl_Tent, T.a_Tent_spots, fl_spots .., sp, _, keys ns ns.length, rfl, .inr ⟨o, b.spots⟩, ?_, by have := keys_len ns ns.length; omega, k⟩
  unfold spk; rw [List.map_map]; rfl
theorem sc_Tent_has_place : FnScope ["self", "place"] ["self", "place"] (defScope s_Tent_has_place) := ⟨rfl, rfl, rfl, by decide +kernel, rfl, by decide +kernel, by decide +kernel⟩
theorem ok_Tent_has_place (T : Txt w K mg t) : FnOk P w K mg base (CXr P w) 1 t.f_Tent_has_place t.d_Tent_has_place ["self", "place"] (sp_Tent_has_place t.C_Tent) := by
 refine T.p_Tent_has_place.F.okR sc_Tent_has_place (fun vs H Q E h => ?_) (fun cdv A outer s H vs Q E hr h => ?_)
 ·obtain ⟨p, M, ns, x, rfl, _⟩ := h
  rfl
 ·obtain ⟨p, M, ns, x, rfl, ⟨dx, cl, na, sp, mt, o, f, b⟩, k⟩ := h
  refine ⟨_, (pss_one (ps_ret (pe_chain op_le op_lt pe_int (pv 1) (pe_callB call_len_seq (by rfl) T.n_len PySem.boot_len (pa_cons (pe_fld (pv 0) rfl) pa_nil))))), ?_⟩
  refine ⟨_, rfl, _, _, rfl, rfl, _, rfl, ?_⟩
  refine ite2 (fun h => ?_) (fun h => ?_)
  ·have h : 0 ≤ x := of_decide_eq_true h
   refine ⟨_, rfl, p, _, dx, _, _, rfl, b.ins, T.cl_Tent, T.a_Tent_names_at, fl_names .., na, _, rfl, .inl (SqL.of b.names), _, _, rfl, rfl, ?_⟩
   have : decide (x < (((ns.map V.int).length : Nat) : Int)) = decide (0 ≤ x ∧ x < (ns.length : Int)) := by rw [List.length_map]; simp [h]
   show Q (V.bl (decide (x < (((ns.map V.int).length : Nat) : Int)))) H
   rw [this]; exact k
  ·have h : ¬ 0 ≤ x := fun z => h (decide_eq_true z)
   have : decide (0 ≤ x ∧ x < (ns.length : Int)) = false := decide_eq_false fun z => h z.1
   rw [this] at k; exact k
theorem sc_Tent_look_place : FnScope ["self", "place"] ["self", "place"] (defScope s_Tent_look_place) := ⟨rfl, rfl, rfl, by decide +kernel, rfl, by decide +kernel, by decide +kernel⟩
theorem ok_Tent_look_place (T : Txt w K mg t) : FnOk P w K mg base (CXr P w) 2 t.f_Tent_look_place t.d_Tent_look_place ["self", "place"] (sp_Tent_look_place t.C_Tent t.E_NoPlace) := by
 refine T.p_Tent_look_place.F.okX sc_Tent_look_place (fun vs H Q E h => ?_) (fun cdv A outer s H vs Q E hr h => ?_)
 ·obtain ⟨p, M, ns, x, rfl, _⟩ := h
  rfl
 ·obtain ⟨p, M, ns, x, rfl, ta, k1, k2⟩ := h
  obtain ⟨dx, cl, na, sp, mt, o, f, b⟩ := id ta
  refine ⟨_, (pssx_one (psx_if (pt_not (pt_val (pe_meth (pv 0) T.cl_Tent T.p_Tent_has_place.m (ok_Tent_has_place T) (hr.mono (by decide)) T.p_Tent_has_place.b .nil passR (pa_cons (pv 1) pa_nil)))) (pssx_one (psx_raise T.x_NoPlace FBV rfl T.gx_NoPlace rfl (pa_cons pe_str pa_nil))) pssx_nil)), ?_⟩
  refine ⟨_, rfl, p, dx, _, rfl, b.ins, fl_none _ _ _ _, _, rfl, p, M, ns, x, rfl, ta, _, rfl, ?_⟩
  by_cases c : 0 ≤ x ∧ x < (ns.length : Int)
  ·rw [decide_eq_true c]
   exact iteF (k1 c)
  ·rw [decide_eq_false c]
   exact iteT ⟨by decide, k2 c⟩
theorem sc_Tent_seam_at : FnScope ["self", "place"] ["self", "place"] (defScope s_Tent_seam_at) := ⟨rfl, rfl, rfl, by decide +kernel, rfl, by decide +kernel, by decide +kernel⟩
theorem ok_Tent_seam_at (T : Txt w K mg t) : FnOk P w K mg base (CXr P w) 3 t.f_Tent_seam_at t.d_Tent_seam_at ["self", "place"] (sp_Tent_seam_at t.C_Tent t.E_NoPlace) := by
 refine T.p_Tent_seam_at.F.okX sc_Tent_seam_at (fun vs H Q E h => ?_) (fun cdv A outer s H vs Q E hr h => ?_)
 ·obtain ⟨p, M, ns, x, rfl, _⟩ := h
  rfl
 ·obtain ⟨p, M, ns, x, rfl, ta, k1, k2⟩ := h
  obtain ⟨dx, cl, na, sp, mt, o, f, b⟩ := id ta
  refine ⟨_, (pssx_cons (psx_expr (pex_meth (pv 0) T.cl_Tent T.p_Tent_look_place.m (ok_Tent_look_place T) (hr.mono (by decide)) T.p_Tent_look_place.b .nil (pa_cons (pv 1) pa_nil)))
   (pssx_one (psx_of (ps_ret (pe_ix ix_list (pe_fld (pv 0) rfl) (pv 1) (fun _ _ => rfl)))))), ?_⟩
  refine ⟨_, rfl, p, dx, _, rfl, b.ins, fl_none _ _ _ _, _, rfl, p, M, ns, x, rfl, ta, fun c => ?_, k2⟩
  have hi : x.toNat < ns.length := by omega
  obtain ⟨y, hy⟩ : ∃ y, ns[x.toNat]? = some y := ⟨_, List.getElem?_eq_getElem hi⟩
  have ex : x = (x.toNat : Int) := by omega
  refine ⟨_, rfl, p, _, dx, _, _, rfl, b.ins, T.cl_Tent, T.a_Tent_names_at, fl_names .., _, rfl, na, _, _, _, rfl, rfl, SqL.of b.names, (by rw [ex]; exact map_at hy), k1 _ _ ex hy⟩
theorem sc_Tent_mate : FnScope ["self", "place"] ["self", "place"] (defScope s_Tent_mate) := ⟨rfl, rfl, rfl, by decide +kernel, rfl, by decide +kernel, by decide +kernel⟩
theorem ok_Tent_mate (T : Txt w K mg t) : FnOk P w K mg base (CXr P w) 3 t.f_Tent_mate t.d_Tent_mate ["self", "place"] (sp_Tent_mate t.C_Tent t.E_NoPlace) := by
 refine T.p_Tent_mate.F.okX sc_Tent_mate (fun vs H Q E h => ?_) (fun cdv A outer s H vs Q E hr h => ?_)
 ·obtain ⟨p, M, ns, x, rfl, _⟩ := h
  rfl
 ·obtain ⟨p, M, ns, x, rfl, ta, hlen, k1, k2⟩ := h
  obtain ⟨dx, cl, na, sp, mt, o, f, b⟩ := id ta
  refine ⟨_, (pssx_cons (psx_expr (pex_meth (pv 0) T.cl_Tent T.p_Tent_look_place.m (ok_Tent_look_place T) (hr.mono (by decide)) T.p_Tent_look_place.b .nil (pa_cons (pv 1) pa_nil)))
   (pssx_one (psx_of (ps_ret (pe_ix ix_list (pe_fld (pv 0) rfl) (pv 1) (fun _ _ => rfl)))))), ?_⟩
  refine ⟨_, rfl, p, dx, _, rfl, b.ins, fl_none _ _ _ _, _, rfl, p, M, ns, x, rfl, ta, fun c => ?_, k2⟩
  have hi : x.toNat < M.length := by omega
  obtain ⟨y, hy⟩ : ∃ y, M[x.toNat]? = some y := ⟨_, List.getElem?_eq_getElem hi⟩
  have ex : x = (x.toNat : Int) := by omega
  refine ⟨_, rfl, p, _, dx, _, _, rfl, b.ins, T.cl_Tent, T.a_Tent_mates, fl_mates .., _, rfl, mt, _, _, _, rfl, rfl, SqL.of b.mates, (by rw [ex]; exact map_at hy), k1 _ _ ex hy⟩
theorem sc_Tent_places : FnScope ["self", "seam"] ["self", "seam"] (defScope s_Tent_places) := ⟨rfl, rfl, rfl, by decide +kernel, rfl, by decide +kernel, by decide +kernel⟩
theorem ok_Tent_places (T : Txt w K mg t) : FnOk P w K mg base (CXr P w) 1 t.f_Tent_places t.d_Tent_places ["self", "seam"] (sp_Tent_places t.C_Tent t.E_NoSeam) := by
 refine T.p_Tent_places.F.okX sc_Tent_places (fun vs H Q E h => ?_) (fun cdv A outer s H vs Q E hr h => ?_)
 ·obtain ⟨p, M, ns, x, rfl, _⟩ := h
  rfl
 ·obtain ⟨p, M, ns, x, rfl, ta, k1, k2⟩ := h
  obtain ⟨dx, cl, na, sp, mt, o, f, b⟩ := id ta
  have hu := hu_of hr
  refine ⟨_, (pssx_cons (psx_if (pt_cmp (pc_dnotin hu (pv 1) (pe_fld (pv 0) rfl)) (by with_unfolding_all rfl)) (pssx_one (psx_raise T.x_NoSeam FBV rfl T.gx_NoSeam rfl (pa_cons pe_str pa_nil))) pssx_nil)
   (pssx_one (psx_of (ps_ret (pe_callTy call_list_of (by rfl) T.n_list PySem.Pv.boot_list (pa_cons (pe_dget hu (pe_fld (pv 0) rfl) (pv 1) (fun _ _ => rfl)) pa_nil)))))), ?_⟩
  have hg : DGet H sp (.int x) (if x ∈ keys ns ns.length then some (V.ref (f x)) else none) := .inl ⟨_, Sum.inl x, .inr ⟨o, b.spots⟩, rfl, by unfold spk; rw [val_map]⟩
  refine ⟨_, rfl, _, rfl, p, _, dx, _, _, rfl, b.ins, T.cl_Tent, T.a_Tent_spots, fl_spots .., sp, _, rfl, hg, _, rfl, ?_⟩
  by_cases c : x ∈ keys ns ns.length
  ·rw [if_pos c] at hg ⊢
   refine iteF ?_
   exact ⟨_, rfl, p, _, dx, _, _, rfl, b.ins, T.cl_Tent, T.a_Tent_spots, fl_spots .., _, rfl, sp, _, rfl, hg, f x, _, rfl, .inl (SqL.of (b.at' x c)), k1 c⟩
  ·rw [if_neg c] at hg ⊢
   exact iteT ⟨by decide, k2 c⟩
theorem sc_Tent_sort_of : FnScope ["self", "seam", "spots"] ["self", "seam"] (defScope s_Tent_sort_of) := ⟨rfl, rfl, rfl, by decide +kernel, rfl, by decide +kernel, by decide +kernel⟩
theorem ok_Tent_sort_of (T : Txt w K mg t) : FnOk P w K mg base (CXr P w) 2 t.f_Tent_sort_of t.d_Tent_sort_of ["self", "seam"] (sp_Tent_sort_of t.C_Tent t.E_NoSeam) := by
 refine T.p_Tent_sort_of.F.okX sc_Tent_sort_of (fun vs H Q E h => ?_) (fun cdv A outer s H vs Q E hr h => ?_)
 ·obtain ⟨p, M, ns, x, rfl, _⟩ := h
  rfl
 ·obtain ⟨p, M, ns, x, rfl, ta, td, k1, k2⟩ := h
  obtain ⟨dx, cl, na, sp, mt, o, f, b⟩ := id ta
  refine ⟨_, (pssx_cons (psx_set (i := 2) sc_Tent_sort_of.nd rfl (Or.inl rfl) (pex_meth (pv 0) T.cl_Tent T.p_Tent_places.m (ok_Tent_places T) (hr.mono (by decide)) T.p_Tent_places.b .nil (pa_cons (pv 1) pa_nil)))
   (pssx_cons (psx_of (ps_if (pt_cmpR op_eq (pe_callB call_len_seq (by rfl) T.n_len PySem.boot_len (pa_cons (pv 2) pa_nil)) pe_int (nomark _)) (pss_one (ps_ret pe_str)) pss_nil))
   (pssx_cons (psx_of (ps_if (pt_cmpR op_eq (pe_call (ok_cloth_of T) (hr.mono (by decide)) rfl T.p_cloth_of.g T.p_cloth_of.F.kp T.p_cloth_of.b .nil passR (pa_cons (pe_ix ix_list (pv 2) pe_int (fun _ _ => rfl)) pa_nil)) (pe_call (ok_cloth_of T) (hr.mono (by decide)) rfl T.p_cloth_of.g T.p_cloth_of.F.kp T.p_cloth_of.b .nil passR (pa_cons (pe_ix ix_list (pv 2) pe_int (fun _ _ => rfl)) pa_nil)) (nomark _)) (pss_one (ps_ret pe_str)) pss_nil))
   (pssx_one (psx_of (ps_ret pe_str)))))), ?_⟩
  refine ⟨_, rfl, p, dx, _, rfl, b.ins, fl_none _ _ _ _, _, rfl, p, M, ns, x, rfl, ta, fun c l hl => ?_, k2⟩
  have k1' := k1 c _ (Same.new (o := .lst ((pl ns ns.length x).map nV)) hl)
  refine ⟨_, rfl, l, _, rfl, .inl (SqL.of upd_same), rfl, _, rfl, ?_⟩
  rcases pl_cases td c with ⟨a, e, _⟩ | ⟨a, b', hab, e, _⟩
  ·rw [e] at k1' ⊢
   refine iteT ?_
   have : sortOf ns x = "rim" := by unfold sortOf; rw [e]
   rw [this] at k1'
   exact k1'
  ·rw [e] at k1' ⊢
   refine iteF ?_
   refine ⟨_, rfl, l, _, _, _, rfl, rfl, SqL.of upd_same, rfl, _, rfl, _, rfl, l, _, _, _, rfl, rfl, SqL.of upd_same, rfl, _, rfl, rfl, _, rfl, ?_⟩
   by_cases q : a / 3 = b' / 3
   ·have : sortOf ns x = "locked" := by unfold sortOf; rw [e]; exact if_pos q
    rw [this] at k1'
    rw [decide_eq_true (by congr 1; omega)]
    exact iteT k1'
   ·have : sortOf ns x = "free" := by unfold sortOf; rw [e]; exact if_neg q
    rw [this] at k1'
    rw [decide_eq_false (fun z => q (by injection z; omega))]
    exact iteF k1'
end
end KT
set_option maxHeartbeats 4000000
namespace KT
open PySem L2
def sp_look_free (C ES ER EL : Addr) : Sp := fun vs H Q E => ∃ (p : Addr) (M : List (Option Nat)) (ns : List Int) (x : Int), vs = [.ref p, .int x] ∧ TentAt C H p M ns ∧ TD M ns ∧
 (x ∈ keys ns ns.length → ∀ H', Same H H' → (sortOf ns x = "rim" → E (.ref ER) none H') ∧ (sortOf ns x = "locked" → E (.ref EL) none H') ∧ (sortOf ns x = "free" → Q .non H')) ∧ (x ∉ keys ns ns.length → E (.ref ES) none H)
def sqr (a b : Nat) : List V := [.int (after a), .int (before a), .int (after b), .int (before b)]
def sp_square (C ES ER EL : Addr) : Sp := fun vs H Q E => ∃ (p : Addr) (M : List (Option Nat)) (ns : List Int) (x : Int), vs = [.ref p, .int x] ∧ TentAt C H p M ns ∧ TD M ns ∧
 (x ∈ keys ns ns.length → ∀ H', Same H H' → (sortOf ns x = "rim" → E (.ref ER) none H') ∧ (sortOf ns x = "locked" → E (.ref EL) none H') ∧ (∀ a b l, pl ns ns.length x = [a, b] → a < b → M[a]? = some (some b) → a / 3 ≠ b / 3 → H l = none → H' l = some (.tup (sqr a b)) → Q (.ref l) H')) ∧ (x ∉ keys ns ns.length → E (.ref ES) none H)
theorem sort_cases {M : List (Option Nat)} {ns : List Int} (td : TD M ns) {x : Int} (hx : x ∈ keys ns ns.length) :
  (sortOf ns x = "rim" ∧ ∃ a, pl ns ns.length x = [a] ∧ M[a]? = some none) ∨ (sortOf ns x = "locked" ∧ ∃ a b, a < b ∧ pl ns ns.length x = [a, b] ∧ M[a]? = some (some b) ∧ a / 3 = b / 3) ∨ (sortOf ns x = "free" ∧ ∃ a b, a < b ∧ pl ns ns.length x = [a, b] ∧ M[a]? = some (some b) ∧ a / 3 ≠ b / 3) := by
 rcases pl_cases td hx with ⟨a, e, _, ma⟩ | ⟨a, b, hab, e, _, _, ma, _⟩
 ·exact .inl ⟨by unfold sortOf; rw [e], a, e, ma⟩
 ·by_cases c : a / 3 = b / 3
  ·exact .inr (.inl ⟨by unfold sortOf; rw [e]; exact if_pos c, a, b, hab, e, ma, c⟩)
  ·exact .inr (.inr ⟨by unfold sortOf; rw [e]; exact if_neg c, a, b, hab, e, ma, c⟩)
theorem t_rf : ¬ (("rim" : Str)) = "free" := by decide
theorem t_lf : ¬ (("locked" : Str)) = "free" := by decide
theorem t_lr : ¬ (("locked" : Str)) = "rim" := by decide
theorem t_fr : ¬ (("free" : Str)) = "rim" := by decide
theorem t_fl : ¬ (("free" : Str)) = "locked" := by decide
theorem str_ne {x y : Str} (h : ¬ x = y) : decide (V.str x = V.str y) = false := decide_eq_false fun z => h (by injection z)
theorem str_eq {x : Str} : decide (V.str x = V.str x) = true := decide_eq_true rfl
section
variable {P : Program} {w : World} {K : PySem.W.Frag} {mg : Str → Option Value} {base : Heap} {t : Adr}
theorem sc_look_free : FnScope ["tent", "seam", "sort"] ["tent", "seam"] (defScope s_look_free) := ⟨rfl, rfl, rfl, by decide +kernel, rfl, by decide +kernel, by decide +kernel⟩
theorem ok_look_free (T : Txt w K mg t) : FnOk P w K mg base (CXr P w) 3 t.f_look_free t.d_look_free ["tent", "seam"] (sp_look_free t.C_Tent t.E_NoSeam t.E_Rim t.E_Locked) := by
 refine T.p_look_free.F.okX sc_look_free (fun vs H Q E h => ?_) (fun cdv A outer s H vs Q E hr h => ?_)
 ·obtain ⟨p, M, ns, x, rfl, _⟩ := h
  rfl
 ·obtain ⟨p, M, ns, x, rfl, ta, td, k1, k2⟩ := h
  obtain ⟨dx, cl, na, sp, mt, o, f, b⟩ := id ta
  refine ⟨_, (pssx_cons (psx_set (i := 2) sc_look_free.nd rfl (Or.inl rfl) (pex_meth (pv 0) T.cl_Tent T.p_Tent_sort_of.m (ok_Tent_sort_of T) (hr.mono (by decide)) T.p_Tent_sort_of.b .nil (pa_cons (pv 1) pa_nil)))
   (pssx_cons (psx_if (pt_cmpR op_eq (pv 2) pe_str (nomark _)) (pssx_one (psx_raise T.x_Rim FBV rfl T.gx_Rim rfl (pa_cons pe_str pa_nil))) pssx_nil)
   (pssx_one (psx_if (pt_cmpR op_eq (pv 2) pe_str (nomark _)) (pssx_one (psx_raise T.x_Locked FBV rfl T.gx_Locked rfl (pa_cons pe_str pa_nil))) pssx_nil)))), ?_⟩
  refine ⟨_, rfl, p, dx, _, rfl, b.ins, fl_none _ _ _ _, _, rfl, p, M, ns, x, rfl, ta, td, fun c H' sm => ?_, k2⟩
  obtain ⟨j1, j2, j3⟩ := k1 c H' sm
  refine ⟨_, rfl, rfl, _, rfl, ?_⟩
  rcases sort_cases td c with ⟨e, _⟩ | ⟨e, _⟩ | ⟨e, _⟩
  ·rw [e, str_eq]
   exact iteT ⟨by decide, j1 e⟩
  ·rw [e, str_ne t_lr]
   refine iteF ⟨_, rfl, rfl, _, rfl, ?_⟩
   rw [str_eq]
   exact iteT ⟨by decide, j2 e⟩
  ·rw [e, str_ne t_fr]
   refine iteF ⟨_, rfl, rfl, _, rfl, ?_⟩
   rw [str_ne t_fl]
   exact iteF (j3 e)
theorem sc_square : FnScope ["tent", "seam", "lesser", "greater"] ["tent", "seam"] (defScope s_square) := ⟨rfl, rfl, rfl, by decide +kernel, rfl, by decide +kernel, by decide +kernel⟩
theorem ok_square (T : Txt w K mg t) : FnOk P w K mg base (CXr P w) 4 t.f_square t.d_square ["tent", "seam"] (sp_square t.C_Tent t.E_NoSeam t.E_Rim t.E_Locked) := by
 refine T.p_square.F.okX sc_square (fun vs H Q E h => ?_) (fun cdv A outer s H vs Q E hr h => ?_)
 ·obtain ⟨p, M, ns, x, rfl, _⟩ := h
  rfl
 ·obtain ⟨p, M, ns, x, rfl, ta, td, k1, k2⟩ := h
  refine ⟨_, (pssx_cons (psx_expr (pex_call (ok_look_free T) (hr.mono (by decide)) rfl T.p_look_free.g T.p_look_free.F.kp T.p_look_free.b .nil (pa_cons (pv 0) (pa_cons (pv 1) pa_nil))))
   (pssx_cons (psx_of (ps_asg (pe_meth (pv 0) T.cl_Tent T.p_Tent_places.m (ok_Tent_places T) (hr.mono (by decide)) T.p_Tent_places.b .nil passR (pa_cons (pv 1) pa_nil)) (pg_lst rfl (pgs_cons (pg_name (i := 2) sc_square.nd rfl (Or.inl rfl)) (pgs_cons (pg_name (i := 3) sc_square.nd rfl (Or.inl rfl)) pgs_nil)))))
   (pssx_one (psx_of (ps_ret (pe_tup (pa_cons (pe_call (ok_after T) (hr.mono (by decide)) rfl T.p_after.g T.p_after.F.kp T.p_after.b .nil passR (pa_cons (pv 2) pa_nil)) (pa_cons (pe_call (ok_before T) (hr.mono (by decide)) rfl T.p_before.g T.p_before.F.kp T.p_before.b .nil passR (pa_cons (pv 2) pa_nil)) (pa_cons (pe_call (ok_after T) (hr.mono (by decide)) rfl T.p_after.g T.p_after.F.kp T.p_after.b .nil passR (pa_cons (pv 3) pa_nil)) (pa_cons (pe_call (ok_before T) (hr.mono (by decide)) rfl T.p_before.g T.p_before.F.kp T.p_before.b .nil passR (pa_cons (pv 3) pa_nil)) pa_nil)))))))))), ?_⟩
  refine ⟨_, rfl, _, rfl, p, M, ns, x, rfl, ta, td, fun c H' sm => ⟨(k1 c H' sm).1, (k1 c H' sm).2.1, fun e => ?_⟩, k2⟩
  obtain ⟨a, b, hab, ep, em, ne⟩ : ∃ a b, a < b ∧ pl ns ns.length x = [a, b] ∧ M[a]? = some (some b) ∧ a / 3 ≠ b / 3 := by
   rcases sort_cases td c with ⟨e', _⟩ | ⟨e', _⟩ | ⟨e', q⟩
   ·exact absurd (e'.symm.trans e) t_rf
   ·exact absurd (e'.symm.trans e) t_lf
   ·exact q
  have ta' := ta.same sm
  obtain ⟨dx, cl, na, sp, mt, o, f, B⟩ := id ta'
  refine ⟨_, rfl, p, dx, _, rfl, B.ins, fl_none _ _ _ _, _, rfl, p, M, ns, x, rfl, ta', fun _ l hl => ?_, fun z => absurd c z⟩
  rw [ep]
  refine ⟨l, _, rfl, SqL.of upd_same, rfl, _, _, rfl, _, _, rfl, rfl, ?_⟩
  refine ⟨_, rfl, _, rfl, ?_⟩
  refine ⟨_, rfl, _, rfl, ?_⟩
  refine ⟨_, rfl, _, rfl, ?_⟩
  refine ⟨_, rfl, _, rfl, ?_⟩
  refine ⟨(by show 4 ≤ sizeLine; decide), fun q hq => ?_⟩
  obtain ⟨hql, hq'⟩ := upd_none hq
  exact (k1 c _ (Same.add (Same.add sm (sm.free hl)) (sm.free hq'))).2.2 a b q ep hab em ne (sm.free hq') upd_same
end
end KT
set_option maxHeartbeats 4000000
namespace KT
open PySem L2
def sp_list : Sp := fun vs H Q _ => ∃ (a b : Addr) (xs : List Int), vs = [.ref a, .ref b] ∧ H a = some (.lst (xs.map V.int)) ∧ H b = some (.lst (xs.map V.int)) ∧ xs.length ≤ 100000 ∧ Q (.bl true) H
def sp_seam : Sp := fun vs H Q _ => ∃ (r : Addr) (ns : List Int) (i : Nat) (x : Int), vs = [.ref r, .int i] ∧ RowsAt H r ns ∧ ns[i]? = some x ∧ Q (.int x) H
def isFree (M : List (Option Nat)) (i : Nat) : Bool := match M[i]? with
 | some (some j) => decide (i < j) && decide (i / 3 ≠ j / 3)
 | _ => false
def isLow (M : List (Option Nat)) (i : Nat) : Bool := match M[i]? with
 | some (some j) => decide (i < j)
 | _ => false
def lowL (M : List (Option Nat)) (n : Nat) : List Nat := (List.range n).filter (isLow M)
def freeL (M : List (Option Nat)) : List Nat := (List.range M.length).filter (isFree M)
def sp_free : Sp := fun vs H Q _ => ∃ (m : Addr) (M : List (Option Nat)), vs = [.ref m] ∧ H m = some (.lst (M.map mV)) ∧ M.length ≤ 1000 ∧ (∀ (i j : Nat), M[i]? = some (some j) → M[j]? = some (some i) ∧ i ≠ j) ∧
 ∀ (l : Addr) (H' : Hp), Same H H' → H l = none → H' l = some (.lst ((freeL M).map nV)) → Q (.ref l) H'
def sp_around : Sp := fun vs H Q _ => ∃ (m : Addr) (M : List (Option Nat)) (i j : Nat), vs = [.ref m, .int i] ∧ H m = some (.lst (M.map mV)) ∧ M[i]? = some (some j) ∧
 ∀ (l : Addr) (H' : Hp), Same H H' → H l = none → H' l = some (.lst (sqr i j)) → Q (.ref l) H'
theorem row_at {H : Hp} {r : Addr} {ns : List Int} {i : Nat} {x : Int} (h : RowsAt H r ns) (hx : ns[i]? = some x) : ∃ ts : List Addr, ∃ q, H r = some (.lst (ts.map V.ref)) ∧ ts[i / 3]? = some q ∧ H q = some (.tup (row3 ns (i / 3))) ∧ (row3 ns (i / 3))[i % 3]? = some (V.int x) := by
 obtain ⟨ts, h1, h2, h3⟩ := h
 have hi : i < ns.length := (List.getElem?_eq_some_iff.mp hx).1
 have hk : i / 3 < ts.length := by omega
 refine ⟨ts, ts[i / 3], h1, List.getElem?_eq_getElem hk, h3 _ _ (List.getElem?_eq_getElem hk), ?_⟩
 have g : ∀ j, ns[j]? = some x → ns.getD j 0 = x := fun j hj => by rw [List.getD_eq_getElem?_getD, hj]; rfl
 have hm : i % 3 = 0 ∨ i % 3 = 1 ∨ i % 3 = 2 := by omega
 rcases hm with m | m | m
 ·have : 3 * (i / 3) = i := by omega
  rw [m]; show some (V.int (ns.getD (3 * (i / 3)) 0)) = _; rw [this, g i hx]
 ·have : 3 * (i / 3) + 1 = i := by omega
  rw [m]; show some (V.int (ns.getD (3 * (i / 3) + 1) 0)) = _; rw [this, g i hx]
 ·have : 3 * (i / 3) + 2 = i := by omega
  rw [m]; show some (V.int (ns.getD (3 * (i / 3) + 2) 0)) = _; rw [this, g i hx]
theorem div3 (i : Nat) : (i : Int) / 3 = ((i / 3 : Nat) : Int) := by omega
theorem mod3 (i : Nat) : (i : Int) % 3 = ((i % 3 : Nat) : Int) := by omega
theorem after_side (i : Nat) : (i : Int) - (i : Int) % 3 + ((i : Int) + 1) % 3 = after i := by unfold after; split <;> omega
theorem before_side (i : Nat) : (i : Int) - (i : Int) % 3 + ((i : Int) + 2) % 3 = before i := by unfold before; split <;> omega
def sp_law (K : PySem.W.Frag) : Sp := fun vs H Q _ => ∃ (a : Addr) (ns : List Int), vs = [.ref a] ∧ SqL K H a (ns.map V.int) ∧ ns.length ≤ 63 ∧ ∀ H', Q (.bl true) H'
theorem sp_law_start {K : PySem.W.Frag} {H : Hp} {a : Addr} {ns : List Int} (hl : ns.length ≤ 63) (hS : SqL K H a (ns.map V.int)) : sp_law K [.ref a] H (fun v _ => v = .bl true) fun _ _ _ => False := ⟨a, ns, rfl, hS, hl, fun _ => rfl⟩
theorem RowsAt.copy {H : Hp} {r l : Addr} {ns : List Int} {ts : List Addr} (h1 : H r = some (.lst (ts.map V.ref))) (h2 : ns.length = 3 * ts.length) (h3 : ∀ (k : Nat) (t : Addr), ts[k]? = some t → H t = some (.tup (row3 ns k))) (hl : H l = none) : RowsAt (upd H l (.lst (ts.map V.ref))) l ns :=
 ⟨ts, upd_same, h2, fun k q e => by rw [upd_ne (ne_of_none (h3 k q e) hl)]; exact h3 k q e⟩
theorem free_mem {M : List (Option Nat)} {i : Nat} (h : i ∈ freeL M) : ∃ j, M[i]? = some (some j) ∧ i < j ∧ i / 3 ≠ j / 3 := by
 have := (List.mem_filter.mp h).2
 unfold isFree at this
 split at this
 ·rename_i j hj
  simp at this
  exact ⟨j, hj, this.1, this.2⟩
 ·cases this
theorem pl_two {M : List (Option Nat)} {ns : List Int} (td : TD M ns) {i j : Nat} {x : Int} (hm : M[i]? = some (some j)) (hij : i < j) (hx : ns[i]? = some x) : x ∈ keys ns ns.length ∧ pl ns ns.length x = [i, j] := by
 have hi : i < ns.length := (List.getElem?_eq_some_iff.mp hx).1
 have hk : x ∈ keys ns ns.length := keys_mem.mpr ⟨i, hi, hx⟩
 have mi : i ∈ pl ns ns.length x := pl_mem.mpr ⟨hi, hx⟩
 refine ⟨hk, ?_⟩
 rcases pl_cases td hk with ⟨a, e, _, ma⟩ | ⟨a, b, hab, e, _, _, ma, mb⟩
 ·rw [e, List.mem_singleton] at mi
  subst mi
  rw [hm] at ma; cases ma
 ·rw [e] at mi
  rcases List.mem_cons.mp mi with z | z
  ·subst z
   rw [hm] at ma
   cases ma
   exact e
  ·have z : i = b := by simpa using z
   subst z
   rw [hm] at mb
   cases mb
   omega
theorem tent_new {H1 : Hp} {r l x dx C : Addr} {ns : List Int} {ts : List Addr} (g1 : H1 r = some (.lst (ts.map V.ref))) (g2 : ns.length = 3 * ts.length) (g3 : ∀ (k : Nat) (t : Addr), ts[k]? = some t → H1 t = some (.tup (row3 ns k)))
  (hl1 : H1 l = none) (hx : upd H1 l (.lst (ts.map V.ref)) x = none) (hdx : upd H1 l (.lst (ts.map V.ref)) dx = none) :
  RowsAt (upd (upd (upd H1 l (.lst (ts.map V.ref))) dx (.own x)) x (.ins C dx [])) l ns ∧ Same (upd H1 l (.lst (ts.map V.ref))) (upd (upd (upd H1 l (.lst (ts.map V.ref))) dx (.own x)) x (.ins C dx [])) := by
 have s : Same (upd H1 l (.lst (ts.map V.ref))) (upd (upd (upd H1 l (.lst (ts.map V.ref))) dx (.own x)) x (.ins C dx [])) := Same.add (Same.new hdx) hx
 exact ⟨(RowsAt.copy g1 g2 g3 hl1).same s, s⟩
section
variable {P : Program} {w : World} {K : PySem.W.Frag} {mg : Str → Option Value} {base : Heap} {t : Adr}
theorem sc_l_list : FnScope ["_law_found", "_law_due", "_law_k"] ["_law_found", "_law_due"] (defScope s_l_list) := ⟨rfl, rfl, rfl, by decide +kernel, rfl, by decide +kernel, by decide +kernel⟩
theorem ok_l_list (T : Txt w K mg t) : FnOk P w K mg base (CXr P w) 2 t.f_l_list t.d_l_list ["_law_found", "_law_due"] sp_list := by
 refine T.p_l_list.F.okR sc_l_list (fun vs H Q E h => ?_) (fun cdv A outer s H vs Q E hr h => ?_)
 ·obtain ⟨a, b, xs, rfl, _⟩ := h
  rfl
 ·obtain ⟨a, b, xs, rfl, ha, hb, hl, k⟩ := h
  refine ⟨_, (pss_cons (ps_if (PW.pt (pw_or (pt_not (pt_val (pe_callB call_isinst (by rfl) T.n_isinstance PyProof.Rows.boot_isinstance (pa_cons (pv 0) (pa_cons (pe_bltn (v := .ty "list") (by rfl) T.n_list PySem.Pv.boot_list rfl) pa_nil))))) (pw_or1 (pt_cmpR op_ne (pe_callB call_len_seq (by rfl) T.n_len PySem.boot_len (pa_cons (pv 0) pa_nil)) (pe_callB call_len_seq (by rfl) T.n_len PySem.boot_len (pa_cons (pv 1) pa_nil)) (nomark _))))) (pss_one (ps_ret pe_bl)) pss_nil)
   (pss_cons (ps_for PassesOwn.never rfl (pi_range1 rfl T.n_range (pa_cons (pe_callB call_len_seq (by rfl) T.n_len PySem.boot_len (pa_cons (pv 1) pa_nil)) pa_nil)) (pg_name (i := 2) sc_l_list.nd rfl (Or.inl rfl)) (pss_one (ps_if (PW.pt (pw_or (pt_not (pt_val (pe_call (ok_l_whole T) (hr.mono (by decide)) rfl T.p_l_whole.g T.p_l_whole.F.kp T.p_l_whole.b .nil passR (pa_cons (pe_ix ix_list (pv 0) (pv 2) (fun _ _ => rfl)) pa_nil)))) (pw_or1 (pt_cmpR op_ne (pe_ix ix_list (pv 0) (pv 2) (fun _ _ => rfl)) (pe_ix ix_list (pv 1) (pv 2) (fun _ _ => rfl)) (nomark _))))) (pss_one (ps_ret pe_bl)) pss_nil)))
   (pss_one (ps_ret pe_bl)))), ?_⟩
  refine ⟨_, rfl, _, "list", _, true, rfl, TyOf.lst ha, kit_same, _, rfl, iteF ?_⟩
  refine ⟨_, rfl, a, _, rfl, .inl (SqL.of ha), _, rfl, b, _, rfl, .inl (SqL.of hb), rfl, _, rfl, ?_⟩
  rw [show (!decide (V.int ((xs.map V.int).length : Nat) = V.int ((xs.map V.int).length : Nat))) = false by simp]
  refine iteF ?_
  dsimp only [tNext]
  show tSeq (tFor _ _ _) _ _ _ _
  refine seq_post (fun σ H1 => H1 = H) (fun nx hnx => ?_) ?_
  ·refine ⟨_, rfl, b, _, rfl, .inl (SqL.of hb), _, rfl, by omega, by rw [List.length_map]; omega, ?_⟩
   have eL : (((xs.map V.int).length : Nat) : Int).toNat = xs.length := by simp
   rw [eL]
   refine for_range (n := xs.length) (fun i σ H1 => ∃ v, σ = [some (.ref a), some (.ref b), v] ∧ H1 = H) ⟨none, rfl, rfl⟩ ?_ ?_
   ·rintro i σ H1 hlt ⟨v, rfl, rfl⟩
    have ei : atI (xs.map V.int) (0 + (i : Int)) = some (V.int xs[i]) := by rw [Int.zero_add]; exact map_at (List.getElem?_eq_getElem hlt)
    dsimp only [gName]
    refine ⟨_, rfl, _, rfl, a, _, _, _, rfl, rfl, SqL.of ha, ei, _, rfl, _, rfl, iteF ?_⟩
    refine ⟨_, rfl, _, rfl, a, _, _, _, rfl, rfl, SqL.of ha, ei, _, rfl, _, rfl, b, _, _, _, rfl, rfl, SqL.of hb, ei, rfl, _, rfl, ?_⟩
    rw [show (!decide (V.int xs[i] = V.int xs[i])) = false by simp]
    exact iteF ⟨_, rfl, rfl⟩
   ·rintro σ H1 ⟨v, rfl, rfl⟩
    exact hnx _ _ rfl
  ·rintro σ H1 rfl
   exact k
theorem sc_l_seam : FnScope ["_law_rows_here", "_law_place"] ["_law_rows_here", "_law_place"] (defScope s_l_seam) := ⟨rfl, rfl, rfl, by decide +kernel, rfl, by decide +kernel, by decide +kernel⟩
theorem ok_l_seam (T : Txt w K mg t) : FnOk P w K mg base (CXr P w) 1 t.f_l_seam t.d_l_seam ["_law_rows_here", "_law_place"] sp_seam := by
 refine T.p_l_seam.F.okR sc_l_seam (fun vs H Q E h => ?_) (fun cdv A outer s H vs Q E hr h => ?_)
 ·obtain ⟨r, ns, i, x, rfl, _⟩ := h
  rfl
 ·obtain ⟨r, ns, i, x, rfl, hr1, hx, k⟩ := h
  refine ⟨_, (pss_one (ps_ret (pe_ix ix_tup (pe_ix ix_list (pv 0) (pe_op op_fdiv (pv 1) pe_int) (fun _ _ => rfl)) (pe_op op_mod (pv 1) pe_int) (fun _ _ => rfl)))), ?_⟩
  obtain ⟨ts, q, e1, e2, e3, e4⟩ := row_at hr1 hx
  refine ⟨_, rfl, _, rfl, _, _, rfl, rfl, ⟨by decide, by decide⟩, r, _, _, _, rfl, rfl, SqL.of e1, (by rw [div3]; exact map_at e2), _, rfl, _, _, rfl, rfl, (by show (0 : Int) < 3; decide), q, _, _, _, rfl, rfl, SqT.of e3, (by rw [mod3]; exact atI_nat e4), k⟩
theorem sc_l_around : FnScope ["_law_mates", "_law_place", "_law_row", "_law_side"] ["_law_mates", "_law_place"] (defScope s_l_around) := ⟨rfl, rfl, rfl, by decide +kernel, rfl, by decide +kernel, by decide +kernel⟩
theorem ok_l_around (T : Txt w K mg t) : FnOk P w K mg base (CXr P w) 1 t.f_l_around t.d_l_around ["_law_mates", "_law_place"] sp_around := by
 refine T.p_l_around.F.okR sc_l_around (fun vs H Q E h => ?_) (fun cdv A outer s H vs Q E hr h => ?_)
 ·obtain ⟨m, M, i, j, rfl, _⟩ := h
  rfl
 ·obtain ⟨m, M, i, j, rfl, hm, hij, k⟩ := h
  refine ⟨_, (pss_cons (ps_set (i := 2) sc_l_around.nd rfl (Or.inl rfl) (pe_lst pa_nil))
   (pss_cons (ps_for PassesOwn.never rfl (pi_list (pe_lst (pa_cons (pv 1) (pa_cons (pe_ix ix_list (pv 0) (pv 1) (fun _ _ => rfl)) pa_nil)))) (pg_name (i := 3) sc_l_around.nd rfl (Or.inl rfl)) (pss_cons (ps_expr (pe_bm PySem.F.plainAttrs_list PySem.F.slot_list_append PySem.F.type_list_append mt_append (pv 2) (pa_cons (pe_op op_add (pe_op op_sub (pv 3) (pe_op op_mod (pv 3) pe_int)) (pe_op op_mod (pe_op op_add (pv 3) pe_int) pe_int)) pa_nil)))
   (pss_one (ps_expr (pe_bm PySem.F.plainAttrs_list PySem.F.slot_list_append PySem.F.type_list_append mt_append (pv 2) (pa_cons (pe_op op_add (pe_op op_sub (pv 3) (pe_op op_mod (pv 3) pe_int)) (pe_op op_mod (pe_op op_add (pv 3) pe_int) pe_int)) pa_nil))))))
   (pss_one (ps_ret (pv 2))))), ?_⟩
  refine ⟨Nat.zero_le _, fun r hr0 => ?_⟩
  have hmr : m ≠ r := ne_of_none hm hr0
  dsimp only [gName]
  show tSeq (tFor _ _ _) _ _ _ _
  refine seq_post (fun σ H1 => ∃ v, σ = [some (.ref m), some (.int i), some (.ref r), v] ∧ Same H H1 ∧ H1 r = some (.lst (sqr i j))) (fun nx hnx => ?_) ?_
  ·refine ⟨_, rfl, _, rfl, _, rfl, m, _, _, _, rfl, rfl, SqL.of (by rw [upd_ne hmr]; exact hm), map_at hij, (by show 2 ≤ sizeLine; decide), fun q hq => ?_⟩
   obtain ⟨hqr, hq0⟩ := upd_none hq
   refine ⟨q, rfl, ⟨_, SqL.of upd_same⟩, ?_⟩
   refine for_list (xs := [V.int i, V.int j]) (fun n σ H1 => ∃ v, σ = [some (.ref m), some (.int i), some (.ref r), v] ∧ Same H H1 ∧ H1 q = some (.lst [V.int i, V.int j]) ∧ H1 r = some (.lst ((sqr i j).take (2 * n)))) ⟨none, rfl, Same.add (Same.new hr0) hq0, upd_same, by rw [upd_ne (Ne.symm hqr), upd_same]; rfl⟩ ?_ ?_ ?_
   ·rintro n σ H1 _ ⟨v, rfl, sm, h1, h2⟩
    exact SqL.of h1
   ·rintro n x σ H1 hx ⟨v, rfl, sm, h1, h2⟩
    have lt : ∀ z : Nat, z ≤ 4 → ((sqr i j).take z).length < sizeLine := fun z hz => by rw [List.length_take]; exact small1000 (by omega)
    dsimp only [gName]
    obtain ⟨c, rfl⟩ : ∃ c : Nat, x = V.int c := by
     match n, hx with
     | 0, hx => exact ⟨i, (Option.some.inj hx).symm⟩
     | 1, hx => exact ⟨j, (Option.some.inj hx).symm⟩
    refine ⟨_, rfl, .inl ⟨rfl, _, SqL.of h2⟩, _, rfl, _, rfl, _, _, rfl, rfl, (by show (0 : Int) < 3; decide), _, _, rfl, rfl, _, rfl, _, _, rfl, rfl, _, _, rfl, rfl, (by show (0 : Int) < 3; decide), _, _, rfl, rfl, r, _, _, rfl, rfl, h2, lt _ (by have := (List.getElem?_eq_some_iff.mp hx).1; simp at this; omega), ?_⟩
    refine ⟨_, rfl, .inl ⟨rfl, _, SqL.of upd_same⟩, _, rfl, _, rfl, _, _, rfl, rfl, (by show (0 : Int) < 3; decide), _, _, rfl, rfl, _, rfl, _, _, rfl, rfl, _, _, rfl, rfl, (by show (0 : Int) < 3; decide), _, _, rfl, rfl, r, _, _, rfl, rfl, upd_same, ?_, ?_⟩
    ·rw [List.length_append, List.length_take]; exact small1000 (by simp [sqr]; omega)
    ·refine ⟨_, rfl, Same.add (Same.add sm hr0) hr0, ?_, ?_⟩
     ·rw [upd_ne hqr, upd_ne hqr]; exact h1
     ·rw [upd_same]
      dsimp only
      rw [after_side, before_side]
      match n, hx with
      | 0, hx =>
       have e : i = c := by have e := Option.some.inj hx; injection e with e; omega
       subst e; rfl
      | 1, hx =>
       have e : j = c := by have e := Option.some.inj hx; injection e with e; omega
       subst e; rfl
   ·rintro σ H1 ⟨v, rfl, sm, h1, h2⟩
    exact hnx _ _ ⟨v, rfl, sm, h2⟩
  rintro σ H1 ⟨v, rfl, sm, h2⟩
  exact ⟨_, rfl, k r H1 sm hr0 h2⟩
theorem low_step (M : List (Option Nat)) (n : Nat) : lowL M (n + 1) = if isLow M n = true then lowL M n ++ [n] else lowL M n := by
 unfold lowL
 rw [List.range_succ, List.filter_append]
 by_cases c : isLow M n = true
 ·simp [c]
 ·simp [c]
theorem low_le (M : List (Option Nat)) (n : Nat) : (lowL M n).length ≤ n := by
 unfold lowL
 exact Nat.le_trans (List.length_filter_le _ _) (by simp)
theorem free_low (M : List (Option Nat)) : (lowL M M.length).filter (isFree M) = freeL M := by
 unfold lowL freeL
 rw [List.filter_filter]
 congr 1
 funext i
 unfold isFree isLow
 cases M[i]? with
 | none => rfl
 | some o => cases o with
  | none => rfl
  | some j => by_cases c : i < j <;> simp [c]
theorem fil_step {α : Type} {p : α → Bool} {l : List α} {i : Nat} {x : α} (h : l[i]? = some x) : (l.take (i + 1)).filter p = if p x = true then (l.take i).filter p ++ [x] else (l.take i).filter p := by
 rw [List.take_add_one, h, List.filter_append]
 by_cases c : p x = true
 ·simp [c]
 ·simp [c]
theorem sc_l_free : FnScope ["_law_mates", "_law_row"] ["_law_mates"] (defScope s_l_free) := ⟨rfl, rfl, rfl, by decide +kernel, rfl, by decide +kernel, by decide +kernel⟩
theorem ok_l_free (T : Txt w K mg t) : FnOk P w K mg base (CXr P w) 1 t.f_l_free t.d_l_free ["_law_mates"] sp_free := by
  refine T.p_l_free.F.okR sc_l_free (fun vs H Q E h => ?_) (fun cdv A outer s H vs Q E hr h => ?_)
  · obtain ⟨m, M, rfl, _⟩ := h
    rfl
  · obtain ⟨m, M, rfl, hm, hl, inv, k⟩ := h
    refine ⟨_, (pss_cons (ps_setCompG (ts := ["_law_p"]) (fv := [("_law_mates", 0)]) (i := 1) ⟨rfl, by decide +kernel, by decide +kernel, blkFree (by rfl), ⟨⟨rfl, rfl, Or.inl rfl⟩, trivial⟩⟩ rfl sc_l_free.nd rfl rfl (by rfl) (pi_range1 rfl T.n_range (pa_cons (pe_callB call_len_seq (by rfl) T.n_len PySem.boot_len (pa_cons (pv 0) pa_nil)) pa_nil)) (fun _ _ _ _ => (pg_name (i := 0) (show List.Nodup (["_law_p", "_law_mates"] : List Str) from by decide +kernel) rfl (Or.inl rfl) (Or.inr rfl))) (fun _ _ _ _ => (pts_one (PW.pt (pw_and (pt_cmpR op_notN (pe_ix (ix_listK K) (pv 1) (pv 0) (fun _ _ => rfl)) pe_non (nomark _)) (pw_and1 (pt_cmpR op_lt (pv 0) (pe_ix (ix_listK K) (pv 1) (pv 0) (fun _ _ => rfl)) (nomark _))))))) (fun _ _ _ => rfl) (fun _ _ _ _ _ _ => pb_emit (pv 0)))
      (pss_one (ps_ret (pe_compG (ts := ["_law_p"]) (fv := [("_law_mates", 0)]) ⟨rfl, by decide +kernel, by decide +kernel, blkFree (by rfl), ⟨⟨rfl, rfl, Or.inl rfl⟩, trivial⟩⟩ rfl (pi_list (pv 1)) (fun _ _ _ _ => (pg_name (i := 0) (show List.Nodup (["_law_p", "_law_mates"] : List Str) from by decide +kernel) rfl (Or.inl rfl) (Or.inr rfl))) (fun _ _ _ _ => (pts_one (pt_cmpR op_ne (pe_op op_fdiv (pv 0) pe_int) (pe_op op_fdiv (pe_ix (ix_listK K) (pv 1) (pv 0) (fun _ _ => rfl)) pe_int) (nomark _)))) (fun _ _ _ => rfl) (fun _ _ _ _ _ _ => pb_emit (pv 0)))))), ?_⟩
    refine ⟨_, rfl, m, _, rfl, .inl (SqL.of hm), _, rfl, by omega, by rw [List.length_map]; omega, fun D hD => ?_⟩
    have eL : (((M.map mV).length : Nat) : Int).toNat = M.length := by simp
    rw [eL]
    refine loop_range (fun i σ H1 => ∃ v, σ = [v, some (.ref m)] ∧ Same H H1 ∧ H1 D = some (.lst ((lowL M i).map nV))) ⟨none, rfl, Same.new hD, upd_same⟩ ?_ ?_
    · rintro i σ H1 hlt ⟨v, rfl, sm, h1⟩
      have e0 : (0 + (i : Int)) = (i : Int) := Int.zero_add _
      dsimp only [gName]
      rw [e0]
      obtain ⟨y, hy⟩ : ∃ y, M[i]? = some y := ⟨_, List.getElem?_eq_getElem hlt⟩
      have at' := map_at (f := mV) hy
      have lt : ((lowL M i).map nV).length < sizeLine := by rw [List.length_map]; exact small1000 (by have := low_le M i; omega)
      refine ⟨_, rfl, _, rfl, m, _, _, _, rfl, rfl, SqL.of (sm _ _ hm), at', rfl, _, rfl, ?_⟩
      cases y with
      | none =>
        refine iteF (iteF ⟨_, rfl, sm, ?_⟩)
        rw [h1, low_step, if_neg (by unfold isLow; rw [hy]; simp)]
      | some j =>
        refine iteT ⟨_, rfl, _, rfl, _, rfl, m, _, _, _, rfl, rfl, SqL.of (sm _ _ hm), at', _, _, rfl, rfl, _, rfl, ?_⟩
        by_cases c : i < j
        · rw [decide_eq_true (by omega : (i : Int) < (j : Int))]
          refine iteT ⟨_, rfl, _, h1, lt, _, rfl, Same.add sm hD, ?_⟩
          rw [upd_same, low_step, if_pos (by unfold isLow; rw [hy]; simp [c]), List.map_append]
          rfl
        · rw [decide_eq_false (by omega : ¬ (i : Int) < (j : Int))]
          refine iteF ⟨_, rfl, sm, ?_⟩
          rw [h1, low_step, if_neg (by unfold isLow; rw [hy]; simp [c])]
    rintro σ H1 ⟨v, rfl, sm, h1⟩
    refine ⟨_, rfl, D, rfl, ⟨_, SqL.of h1⟩, fun D2 hD2 => ?_⟩
    have hD20 : H D2 = none := sm.free hD2
    refine loop_list (xs := (lowL M M.length).map nV) (fun i σ H2 => ∃ v, σ = [v, some (.ref m)] ∧ Same H1 H2 ∧ H2 D2 = some (.lst ((((lowL M M.length).take i).filter (isFree M)).map nV))) ⟨none, rfl, Same.new hD2, upd_same⟩ ?_ ?_ ?_
    · rintro i σ H2 _ ⟨v, rfl, sm2, h2⟩
      exact SqL.of (sm2 _ _ h1)
    · rintro i x σ H2 hx ⟨v, rfl, sm2, h2⟩
      obtain ⟨p, hp, rfl⟩ := map_some hx
      have hpm : p ∈ lowL M M.length := List.mem_of_getElem? hp
      obtain ⟨j, hj, hpj⟩ : ∃ j, M[p]? = some (some j) ∧ p < j := by
        have := (List.mem_filter.mp hpm).2
        unfold isLow at this
        split at this
        · rename_i j hj; exact ⟨j, hj, of_decide_eq_true this⟩
        · cases this
      have lt : ((((lowL M M.length).take i).filter (isFree M)).map nV).length < sizeLine := by
        rw [List.length_map]
        exact small1000 (by
          have h1 := List.length_filter_le (isFree M) ((lowL M M.length).take i)
          have h2 := List.length_take_le i (lowL M M.length)
          have h3 := List.length_take_le' i (lowL M M.length)
          have h4 := low_le M M.length
          omega)
      dsimp only [gName]
      refine ⟨_, rfl, _, _, rfl, rfl, ⟨by decide, by decide⟩, _, rfl, _, rfl, m, _, _, _, rfl, rfl, SqL.of (sm2 _ _ (sm _ _ hm)), map_at hj, _, _, rfl, rfl, ⟨by decide, by decide⟩, rfl, _, rfl, ?_⟩
      by_cases c : p / 3 = j / 3
      · rw [show (!decide (V.int ((p : Int) / 3) = V.int ((j : Int) / 3))) = false by
          rw [show (p : Int) / 3 = (j : Int) / 3 by omega]; simp]
        refine iteF ⟨_, rfl, sm2, ?_⟩
        rw [h2, fil_step hp, if_neg (by unfold isFree; rw [hj]; simp [c])]
      · rw [show (!decide (V.int ((p : Int) / 3) = V.int ((j : Int) / 3))) = true by
          rw [decide_eq_false (fun z => c (by injection z; omega))]; rfl]
        refine iteT ⟨_, rfl, _, h2, lt, _, rfl, Same.add sm2 hD2, ?_⟩
        rw [upd_same, fil_step hp, if_pos (by unfold isFree; rw [hj]; simp [c, hpj]), List.map_append]
        rfl
    rintro σ H2 ⟨v, rfl, sm2, h2⟩
    rw [List.length_map, List.take_length, free_low] at h2
    exact k D2 H2 (sm.trans sm2) hD20 h2
end
end KT
set_option maxHeartbeats 4000000
namespace KT
open PySem L2
def isL (way : Str) : Bool := decide (way = "left")
def sp_look_way (EW : Addr) : Sp := fun vs H Q E => ∃ way : Str, vs = [.str way] ∧ (way = "left" ∨ way = "right" → Q .non H) ∧ (¬ (way = "left" ∨ way = "right") → E (.ref EW) none H)
structure Wrong (EW ES ER EL : Addr) (M : List (Option Nat)) (ns : List Int) (x : Int) (way : Str) (H : Hp) (E : XK) (G : Nat → Nat → Hp → Prop) : Prop where
 noway : ¬ (way = "left" ∨ way = "right") → E (.ref EW) none H
 seam : way = "left" ∨ way = "right" → x ∉ keys ns ns.length → E (.ref ES) none H
 rim : way = "left" ∨ way = "right" → ∀ H', Same H H' → x ∈ keys ns ns.length → sortOf ns x = "rim" → E (.ref ER) none H'
 lock : way = "left" ∨ way = "right" → ∀ H', Same H H' → x ∈ keys ns ns.length → sortOf ns x = "locked" → E (.ref EL) none H'
 go : way = "left" ∨ way = "right" → ∀ a b H', Same H H' → pl ns ns.length x = [a, b] → a < b → M[a]? = some (some b) → a / 3 ≠ b / 3 → G a b H'
def sp_shifts (C EW ES ER EL : Addr) : Sp := fun vs H Q E => ∃ (p : Addr) (M : List (Option Nat)) (ns : List Int) (x : Int) (way : Str), vs = [.ref p, .int x, .str way] ∧ TentAt C H p M ns ∧ TD M ns ∧
 Wrong EW ES ER EL M ns x way H E fun a b H' => ∀ l, H l = none → H' l = some (.dK (glV (isL way) a b)) → Q (.ref l) H'
theorem ways_val (way : Str) : (valV [((Sum.inr "left" : Key), V.str "right"), (Sum.inr "right", V.str "left")] (Sum.inr way)).isSome = true ↔ way = "left" ∨ way = "right" := by
 unfold valV
 by_cases c1 : way = "left"
 ·subst c1; simp
 ·by_cases c2 : way = "right"
  ·subst c2
   simp [List.find?_cons]
   split <;> simp
  ·have n1 : ¬ (Sum.inr "left" : Key) = Sum.inr way := fun z => c1 (by injection z with z; exact z.symm)
   have n2 : ¬ (Sum.inr "right" : Key) = Sum.inr way := fun z => c2 (by injection z with z; exact z.symm)
   simp [List.find?_cons, n1, n2, c1, c2]
section
variable {P : Program} {w : World} {K : PySem.W.Frag} {mg : Str → Option Value} {base : Heap} {t : Adr}
theorem sc_look_way : FnScope ["way"] ["way"] (defScope s_look_way) := ⟨rfl, rfl, rfl, by decide +kernel, rfl, by decide +kernel, by decide +kernel⟩
theorem ok_look_way (T : Txt w K mg t) : FnOk P w K mg base (CXr P w) 1 t.f_look_way t.d_look_way ["way"] (sp_look_way t.E_NoWay) := by
 refine T.p_look_way.F.okX sc_look_way (fun vs H Q E h => ?_) (fun cdv A outer s H vs Q E hr h => ?_)
 ·obtain ⟨way, rfl, _⟩ := h
  rfl
 ·obtain ⟨way, rfl, k1, k2⟩ := h
  refine ⟨_, (pssx_one (psx_if (pt_cmp (pc_knotin (pv 0) (pe_glob (v := .ref t.g_CONTRARY_WAYS) rfl T.gd_CONTRARY_WAYS rfl)) (by with_unfolding_all rfl)) (pssx_one (psx_raise T.x_NoWay FBV rfl T.gx_NoWay rfl (pa_cons pe_str pa_nil))) pssx_nil)), ?_⟩
  refine ⟨_, rfl, t.g_CONTRARY_WAYS, _, Sum.inr way, rfl, T.kd_CONTRARY_WAYS, rfl, _, rfl, ?_⟩
  by_cases c : way = "left" ∨ way = "right"
  ·rw [(ways_val way).mpr c]
   exact iteF (k1 c)
  ·have : (valV [((Sum.inr "left" : Key), V.str "right"), (Sum.inr "right", V.str "left")] (Sum.inr way)).isSome = false := by
    rw [Bool.eq_false_iff]; exact fun z => c ((ways_val way).mp z)
   rw [this]
   exact iteT ⟨by decide, k2 c⟩
theorem sc_shifts : FnScope ["tent", "seam", "way", "a", "b", "c", "d"] ["tent", "seam", "way"] (defScope s_shifts) := ⟨rfl, rfl, rfl, by decide +kernel, rfl, by decide +kernel, by decide +kernel⟩
theorem ok_shifts (T : Txt w K mg t) : FnOk P w K mg base (CXr P w) 5 t.f_shifts t.d_shifts ["tent", "seam", "way"] (sp_shifts t.C_Tent t.E_NoWay t.E_NoSeam t.E_Rim t.E_Locked) := by
 refine T.p_shifts.F.okX sc_shifts (fun vs H Q E h => ?_) (fun cdv A outer s H vs Q E hr h => ?_)
 ·obtain ⟨p, M, ns, x, way, rfl, _⟩ := h
  rfl
 ·obtain ⟨p, M, ns, x, way, rfl, ta, td, W⟩ := h
  refine ⟨_, (pssx_cons (psx_expr (pex_call (ok_look_way T) (hr.mono (by decide)) rfl T.p_look_way.g T.p_look_way.F.kp T.p_look_way.b .nil (pa_cons (pv 2) pa_nil)))
   (pssx_cons (psx_asg (pex_call (ok_square T) (hr.mono (by decide)) rfl T.p_square.g T.p_square.F.kp T.p_square.b .nil (pa_cons (pv 0) (pa_cons (pv 1) pa_nil))) (pg_tup rfl (pgs_cons (pg_name (i := 3) sc_shifts.nd rfl (Or.inl rfl)) (pgs_cons (pg_name (i := 4) sc_shifts.nd rfl (Or.inl rfl)) (pgs_cons (pg_name (i := 5) sc_shifts.nd rfl (Or.inl rfl)) (pgs_cons (pg_name (i := 6) sc_shifts.nd rfl (Or.inl rfl)) pgs_nil))))))
   (pssx_cons (psx_of (ps_if (pt_cmpR op_eq (pv 2) pe_str (nomark _)) (pss_one (ps_ret (pe_disp (pps_cons (pv 3) (pv 6) (pps_cons (pv 6) (pv 5) (pps_cons (pv 5) (pv 4) (pps_cons (pv 4) (pv 3) pps_nil)))) rfl rfl (List.cons_ne_nil _ _) (by decide)))) pss_nil))
   (pssx_one (psx_of (ps_ret (pe_disp (pps_cons (pv 3) (pv 4) (pps_cons (pv 4) (pv 5) (pps_cons (pv 5) (pv 6) (pps_cons (pv 6) (pv 3) pps_nil)))) rfl rfl (List.cons_ne_nil _ _) (by decide)))))))), ?_⟩
  refine ⟨_, rfl, way, rfl, fun hw => ?_, W.noway⟩
  refine ⟨_, rfl, _, rfl, p, M, ns, x, rfl, ta, td, fun c H' sm => ⟨fun e => W.rim hw H' sm c e, fun e => W.lock hw H' sm c e, fun a b l e1 e2 e3 e4 e5 e6 => ?_⟩, fun c => W.seam hw c⟩
  refine ⟨l, _, rfl, SqT.of e6, rfl, _, _, rfl, _, _, rfl, _, _, rfl, _, _, rfl, rfl, ?_⟩
  refine ⟨_, rfl, rfl, _, rfl, ?_⟩
  by_cases c : way = "left"
  ·have cl : isL way = true := decide_eq_true c
   have := fun H'' s'' => W.go hw a b H'' s'' e1 e2 e3 e4
   rw [cl] at this
   rw [decide_eq_true (show V.str way = V.str "left" by rw [c])]
   refine iteT ?_
   intro d hd
   refine ⟨_, rfl, _, rfl, _, rfl, _, rfl, _, rfl, _, rfl, _, rfl, _, rfl, upd_same, glV true a b, ?_, ?_, ?_⟩
   ·rw [glV_left e4]; rfl
   ·rw [glV_left e4]; show 4 ≤ 15; decide
   ·rw [merge_gl e4]
    exact this _ (Same.add (Same.add sm (sm.free hd)) (sm.free hd)) d (sm.free hd) upd_same
  ·have cl : isL way = false := decide_eq_false c
   have := fun H'' s'' => W.go hw a b H'' s'' e1 e2 e3 e4
   rw [cl] at this
   rw [str_ne c]
   refine iteF ?_
   intro d hd
   refine ⟨_, rfl, _, rfl, _, rfl, _, rfl, _, rfl, _, rfl, _, rfl, _, rfl, upd_same, glV false a b, ?_, ?_, ?_⟩
   ·rw [glV_right e4]; rfl
   ·rw [glV_right e4]; show 4 ≤ 15; decide
   ·rw [merge_gl e4]
    exact this _ (Same.add (Same.add sm (sm.free hd)) (sm.free hd)) d (sm.free hd) upd_same
end
end KT
set_option maxHeartbeats 4000000
namespace KT
open PySem L2
def wayS (left : Bool) : Str := if left then "left" else "right"
theorem way_ok (left : Bool) : wayS left = "left" ∨ wayS left = "right" := by cases left <;> simp [wayS]
theorem way_isL (left : Bool) : isL (wayS left) = left := by cases left <;> decide
def sp_way : Sp := fun vs H Q _ => ∃ left : Bool, vs = [.bl left] ∧ Q (.str (wayS left)) H
def sp_goals : Sp := fun vs H Q _ => ∃ (m : Addr) (M : List (Option Nat)) (n i j : Nat) (left : Bool), vs = [.ref m, .int i, .bl left] ∧ H m = some (.lst (M.map mV)) ∧ M.length = 3 * n ∧ n ≤ 40 ∧ M[i]? = some (some j) ∧ M[j]? = some (some i) ∧ i / 3 ≠ j / 3 ∧
 ∀ (l : Addr) (H' : Hp), Same H H' → H l = none → H' l = some (.lst (((List.range M.length).map fun (z : Nat) => mvI left i j (z : Int)).map V.int)) → Q (.ref l) H'
def sqI (i j : Nat) : List Int := [after i, before i, after j, before j]
def gst (left : Bool) (i j n k : Nat) : List Int := (List.range n).map fun (z : Nat) => if (z : Int) ∈ (sqI i j).take k then mvI left i j (z : Int) else (z : Int)
theorem gst_zero (left : Bool) (i j n : Nat) : gst left i j n 0 = (List.range n).map fun (z : Nat) => (z : Int) := by unfold gst; simp
theorem gst_all (left : Bool) (i j n : Nat) : gst left i j n 4 = (List.range n).map fun (z : Nat) => mvI left i j (z : Int) := by
 unfold gst
 apply List.map_congr_left
 intro z _
 by_cases c : (z : Int) ∈ (sqI i j).take 4
 ·rw [if_pos c]
 ·rw [if_neg c]
  have n1 : ¬ (z : Int) = after i := fun e => c (by unfold sqI; simp [e])
  have n2 : ¬ (z : Int) = before j := fun e => c (by unfold sqI; simp [e])
  have n3 : ¬ (z : Int) = after j := fun e => c (by unfold sqI; simp [e])
  have n4 : ¬ (z : Int) = before i := fun e => c (by unfold sqI; simp [e])
  unfold mvI
  rw [if_neg n1, if_neg n2, if_neg n3, if_neg n4]
theorem gst_step {left : Bool} {i j n k q : Nat} (h : (sqI i j)[k]? = some (q : Int)) (hq : q < n) : (gst left i j n k).set q (mvI left i j (q : Int)) = gst left i j n (k + 1) := by
 apply List.ext_getElem?
 intro z
 unfold gst
 by_cases c : z = q
 ·subst c
  rw [List.getElem?_set_self (by simpa using hq), List.getElem?_map, List.getElem?_range hq]
  have : (z : Int) ∈ (sqI i j).take (k + 1) := by rw [List.take_add_one, h]; simp
  simp only [Option.map_some, this, if_true]
 ·rw [List.getElem?_set_ne (Ne.symm c), List.getElem?_map, List.getElem?_map]
  by_cases d : z < n
  ·rw [List.getElem?_range d]
   have : (z : Int) ∈ (sqI i j).take (k + 1) ↔ (z : Int) ∈ (sqI i j).take k := by
    have c' : ¬ (z : Int) = (q : Int) := by omega
    rw [List.take_add_one, h]
    simp [c']
   simp only [Option.map_some, this]
  ·rw [List.getElem?_eq_none (by simpa using d)]
   rfl
theorem sq_mv {i j : Nat} (h : i / 3 ≠ j / 3) (left : Bool) {k : Nat} (hk : k < 4) : atI (sqr i j) ((if left then ((k : Int) + 3) % 4 else ((k : Int) + 1) % 4)) = some (V.int (mvI left i j ((sqI i j).getD k 0))) := by
 obtain ⟨h1, h2, h3, h4, h5, h6⟩ := four_apart h
 have hk : k = 0 ∨ k = 1 ∨ k = 2 ∨ k = 3 := by omega
 rcases hk with rfl | rfl | rfl | rfl <;> cases left <;> (unfold mvI sqI; simp [h1, h2, h3, h4, h5, h6, Ne.symm h1, Ne.symm h2, Ne.symm h3, Ne.symm h4, Ne.symm h5, Ne.symm h6]; rfl)
theorem sq_in {i j n k : Nat} (hi : i < 3 * n) (hj : j < 3 * n) (hk : k < 4) : ∃ q : Nat, (sqI i j)[k]? = some (q : Int) ∧ q < 3 * n := by
 obtain ⟨a1, _, a3⟩ := after_div i
 obtain ⟨b1, _, b3⟩ := before_div i
 obtain ⟨c1, _, c3⟩ := after_div j
 obtain ⟨d1, _, d3⟩ := before_div j
 have hk : k = 0 ∨ k = 1 ∨ k = 2 ∨ k = 3 := by omega
 rcases hk with rfl | rfl | rfl | rfl
 ·exact ⟨(after i).toNat, by show some (after i) = _; rw [Int.toNat_of_nonneg a3], by omega⟩
 ·exact ⟨(before i).toNat, by show some (before i) = _; rw [Int.toNat_of_nonneg b3], by omega⟩
 ·exact ⟨(after j).toNat, by show some (after j) = _; rw [Int.toNat_of_nonneg c3], by omega⟩
 ·exact ⟨(before j).toNat, by show some (before j) = _; rw [Int.toNat_of_nonneg d3], by omega⟩
theorem Wrong.free {EW ES ER EL : Addr} {M : List (Option Nat)} {ns : List Int} {x : Int} {left : Bool} {H : Hp} {E : XK} {G : Nat → Nat → Hp → Prop} {i j : Nat} (td : TD M ns) (hk : x ∈ keys ns ns.length) (hp : pl ns ns.length x = [i, j]) (ne : i / 3 ≠ j / 3) (g : ∀ H', Same H H' → G i j H') : Wrong EW ES ER EL M ns x (wayS left) H E G := by
 have es : sortOf ns x = "free" := by unfold sortOf; rw [hp]; exact if_neg ne
 refine ⟨fun c => absurd (way_ok left) c, fun _ c => absurd hk c, fun _ H' _ _ e => absurd (es.symm.trans e) t_fr, fun _ H' _ _ e => absurd (es.symm.trans e) t_fl, fun _ a b H' s e1 _ _ _ => ?_⟩
 rw [hp] at e1
 cases e1
 exact g H' s
section
variable {P : Program} {w : World} {K : PySem.W.Frag} {mg : Str → Option Value} {base : Heap} {t : Adr}
theorem sc_l_way : FnScope ["_law_left"] ["_law_left"] (defScope s_l_way) := ⟨rfl, rfl, rfl, by decide +kernel, rfl, by decide +kernel, by decide +kernel⟩
theorem ok_l_way (T : Txt w K mg t) : FnOk P w K mg base (CXr P w) 1 t.f_l_way t.d_l_way ["_law_left"] sp_way := by
 refine T.p_l_way.F.okR sc_l_way (fun vs H Q E h => ?_) (fun cdv A outer s H vs Q E hr h => ?_)
 ·obtain ⟨l, rfl, _⟩ := h
  rfl
 ·obtain ⟨l, rfl, k⟩ := h
  refine ⟨_, (pss_cons (ps_if (pt_val (pv 0)) (pss_one (ps_ret pe_str)) pss_nil)
   (pss_one (ps_ret pe_str))), ?_⟩
  refine ⟨_, rfl, _, rfl, ?_⟩
  cases l with
  | true => exact iteT k
  | false => exact iteF k
theorem sc_l_goals : FnScope ["_law_mates", "_law_place", "_law_left", "_law_around_here", "_law_goals_here", "_law_k"] ["_law_mates", "_law_place", "_law_left"] (defScope s_l_goals) := ⟨rfl, rfl, rfl, by decide +kernel, rfl, by decide +kernel, by decide +kernel⟩
theorem ok_l_goals (T : Txt w K mg t) : FnOk P w K mg base (CXr P w) 2 t.f_l_goals t.d_l_goals ["_law_mates", "_law_place", "_law_left"] sp_goals := by
 refine T.p_l_goals.F.okR sc_l_goals (fun vs H Q E h => ?_) (fun cdv A outer s H vs Q E hr h => ?_)
 ·obtain ⟨m, M, n, i, j, left, rfl, _⟩ := h
  rfl
 ·obtain ⟨m, M, n, i, j, left, rfl, hm, hn, hn40, hij, hji, ne, k⟩ := h
  refine ⟨_, (pss_cons (ps_set (i := 3) sc_l_goals.nd rfl (Or.inl rfl) (pe_call (ok_l_around T) (hr.mono (by decide)) rfl T.p_l_around.g T.p_l_around.F.kp T.p_l_around.b .nil passR (pa_cons (pv 0) (pa_cons (pv 1) pa_nil))))
   (pss_cons (ps_set (i := 4) sc_l_goals.nd rfl (Or.inl rfl) (pe_listRange rfl T.n_list rfl T.n_range rfl (pa_cons (pe_callB call_len_seq (by rfl) T.n_len PySem.boot_len (pa_cons (pv 0) pa_nil)) pa_nil)))
   (pss_cons (ps_for PassesOwn.never rfl (pi_range1 rfl T.n_range (pa_cons pe_int pa_nil)) (pg_name (i := 5) sc_l_goals.nd rfl (Or.inl rfl)) (pss_one (ps_if (pt_val (pv 2)) (pss_one (ps_asg (pe_ix ix_list (pv 3) (pe_op op_mod (pe_op op_add (pv 5) pe_int) pe_int) (fun _ _ => rfl)) (pg_sub (pv 4) (pe_ix ix_list (pv 3) (pv 5) (fun _ _ => rfl)) set_list))) (pss_one (ps_asg (pe_ix ix_list (pv 3) (pe_op op_mod (pe_op op_add (pv 5) pe_int) pe_int) (fun _ _ => rfl)) (pg_sub (pv 4) (pe_ix ix_list (pv 3) (pv 5) (fun _ _ => rfl)) set_list))))))
   (pss_one (ps_ret (pv 4)))))), ?_⟩
  have hi : i < 3 * n := by rw [← hn]; exact (List.getElem?_eq_some_iff.mp hij).1
  have hj : j < 3 * n := by rw [← hn]; exact (List.getElem?_eq_some_iff.mp hji).1
  refine ⟨_, rfl, _, rfl, m, M, i, j, rfl, hm, hij, fun ar H1 s1 har h1 => ?_⟩
  refine ⟨_, rfl, m, _, rfl, .inl (SqL.of (s1 _ _ hm)), M.length, by rw [List.length_map], by omega, fun g hg => ?_⟩
  have hag : ar ≠ g := ne_of_none h1 hg
  have hg0 : H g = none := s1.free hg
  dsimp only [gName]
  show tSeq (tFor _ _ _) _ _ _ _
  refine seq_post (fun σ H2 => ∃ v, σ = [some (.ref m), some (.int i), some (.bl left), some (.ref ar), some (.ref g), v] ∧ Same H H2 ∧ H2 g = some (.lst ((gst left i j (3 * n) 4).map V.int))) (fun nx hnx => ?_) ?_
  ·refine ⟨4, rfl, by decide, by decide, ?_⟩
   refine for_range (n := 4) (fun c σ H2 => ∃ v, σ = [some (.ref m), some (.int i), some (.bl left), some (.ref ar), some (.ref g), v] ∧ Same H H2 ∧ H2 ar = some (.lst (sqr i j)) ∧ H2 g = some (.lst ((gst left i j (3 * n) c).map V.int))) ⟨none, rfl, Same.add s1 hg0, by rw [upd_ne hag]; exact h1, ?_⟩ ?_ ?_
   ·rw [upd_same, gst_zero, List.map_map, hn]
    rfl
   ·rintro c σ H2 hc ⟨v, rfl, s2, h2, h3⟩
    obtain ⟨q, eq, hq⟩ := sq_in hi hj hc
    have e1 : atI (sqr i j) (0 + (c : Int)) = some (V.int q) := by
     rw [Int.zero_add]
     refine atI_nat ?_
     show ((sqI i j).map V.int)[c]? = _
     rw [List.getElem?_map, eq]; rfl
    have ed : (sqI i j).getD c 0 = (q : Int) := by rw [List.getD_eq_getElem?_getD, eq]; rfl
    have hlen : q < ((gst left i j (3 * n) c).map V.int).length := by rw [List.length_map]; unfold gst; simpa using hq
    have fin : ∀ H3 : Hp, Same H H3 → H3 ar = some (.lst (sqr i j)) → H3 g = some (.lst (((gst left i j (3 * n) c).map V.int).set q (V.int (mvI left i j (q : Int))))) → ∃ v, [some (V.ref m), some (.int i), some (.bl left), some (.ref ar), some (.ref g), some (.int (0 + c))] = [some (.ref m), some (.int i), some (.bl left), some (.ref ar), some (.ref g), v] ∧ Same H H3 ∧ H3 ar = some (.lst (sqr i j)) ∧ H3 g = some (.lst ((gst left i j (3 * n) (c + 1)).map V.int)) := fun H3 a1 a2 a3 =>
     ⟨_, rfl, a1, a2, by rw [a3, ← gst_step eq hq, List.map_set]⟩
    have m0 := sq_mv ne left hc
    rw [ed] at m0
    dsimp only [gName]
    refine ⟨_, rfl, _, rfl, ?_⟩
    cases left with
    | true =>
     refine iteT ⟨_, rfl, _, rfl, _, _, rfl, rfl, _, _, rfl, rfl, (by show (0 : Int) < 4; decide), ar, _, _, _, rfl, rfl, SqL.of h2, (by rw [Int.zero_add]; exact m0), ?_⟩
     refine ⟨_, rfl, _, rfl, _, rfl, ar, _, _, _, rfl, rfl, SqL.of h2, e1, g, _, _, q, rfl, rfl, h3, ixN_nat hlen, ?_⟩
     exact fin _ (Same.add s2 hg0) (by rw [upd_ne hag]; exact h2) upd_same
    | false =>
     refine iteF ⟨_, rfl, _, rfl, _, _, rfl, rfl, _, _, rfl, rfl, (by show (0 : Int) < 4; decide), ar, _, _, _, rfl, rfl, SqL.of h2, (by rw [Int.zero_add]; exact m0), ?_⟩
     refine ⟨_, rfl, _, rfl, _, rfl, ar, _, _, _, rfl, rfl, SqL.of h2, e1, g, _, _, q, rfl, rfl, h3, ixN_nat hlen, ?_⟩
     exact fin _ (Same.add s2 hg0) (by rw [upd_ne hag]; exact h2) upd_same
   ·rintro σ H2 ⟨v, rfl, s2, _, h3⟩
    exact hnx _ _ ⟨v, rfl, s2, h3⟩
  rintro σ H2 ⟨v, rfl, s2, h3⟩
  refine ⟨_, rfl, k g H2 s2 hg0 ?_⟩
  rw [h3, gst_all, hn]
end
end KT
set_option maxHeartbeats 4000000
namespace KT
open PySem L2
theorem len_word {ws : List Int} : (((ws.map V.int).length : Nat) : Int) = ws.length := by rw [List.length_map]
theorem cut_tail (x0 : Int) (xr : List Int) : cutV ((x0 :: xr).map V.int) (some 1) none = xr.map V.int := by
 unfold cutV
 have e1 : HT.sIx ((x0 :: xr).map V.int).length 0 (some ((1 : Nat) : Int)) = 1 := by
  rw [HT.sIx_nat, List.length_map, List.length_cons]
  omega
 rw [show (some (1 : Int)) = some ((1 : Nat) : Int) from rfl, e1, HT.sIx_none, List.map_cons, List.drop_succ_cons, List.drop_zero, List.length_cons, Nat.add_sub_cancel, List.take_length]
theorem flt_step {α : Type} {p : α → Bool} {l : List α} {i : Nat} {x : α} (h : l[i]? = some x) : (l.take (i + 1)).filter p = if p x = true then (l.take i).filter p ++ [x] else (l.take i).filter p := by
 rw [List.take_add_one, h, List.filter_append]
 by_cases c : p x = true
 ·simp [c]
 ·simp [c]
def sp_walk : Sp := fun vs H Q _ => ∃ (m a : Addr) (M : List (Option Nat)) (xs : List Int), vs = [.ref m, .ref a] ∧ H m = some (.lst (M.map mV)) ∧ H a = some (.lst (xs.map V.int)) ∧ xs ≠ [] ∧ xs.length ≤ 60 ∧ (∀ x ∈ xs, 0 ≤ x ∧ x < 1009) ∧ M.length ≤ 42 ∧ (∃ n, M.length = 3 * n) ∧ (∀ (i j : Nat), M[i]? = some (some j) → M[j]? = some (some i) ∧ i ≠ j) ∧
 ∀ (l : Addr) (ws : List Nat) (H' : Hp), Same H H' → H l = none → H' l = some (.lst (ws.map nV)) → ws.length ≤ 60 → (ws = [] ∨ Pl M ws) → Q (.ref l) H'
def sp_thread (K : PySem.W.Frag) : Sp := fun vs H Q _ => ∃ (a m : Addr) (sc : List Int) (i : Int) (M : List (Option Nat)), vs = [.ref a, .int i, .ref m] ∧ SqL K H a (sc.map V.int) ∧ sc.length ≤ 63 ∧ 0 ≤ i ∧ i < 1000 ∧ H m = some (.lst (M.map mV)) ∧ M.length ≤ 42 ∧ (∃ n, M.length = 3 * n) ∧ (∀ (i j : Nat), M[i]? = some (some j) → M[j]? = some (some i) ∧ i ≠ j) ∧
 ∀ (l : Addr) (ws : List Nat) (H' : Hp), Same H H' → H l = none → H' l = some (.lst (ws.map nV)) → ws.length ≤ 60 → (ws = [] ∨ Pl M ws) → Q (.ref l) H'
def hasM (M : List (Option Nat)) (i : Nat) : Bool := match M[i]? with
 | some (some _) => true
 | _ => false
theorem hasM_iff {M : List (Option Nat)} {i : Nat} : hasM M i = true ↔ ∃ j, M[i]? = some (some j) := by
 unfold hasM
 split
 ·rename_i j h; exact ⟨fun _ => ⟨j, h⟩, fun _ => rfl⟩
 ·rename_i h; exact ⟨fun z => absurd z (by decide), fun ⟨j, e⟩ => absurd e (h j)⟩
section
variable {P : Program} {w : World} {K : PySem.W.Frag} {mg : Str → Option Value} {base : Heap} {t : Adr}
theorem sc_l_walk : FnScope ["_law_mates", "_law_nums", "_law_spots", "_law_row", "_law_pick", "_law_side", "_law_ways", "_law_start", "_law_stop"] ["_law_mates", "_law_nums"] (defScope s_l_walk) := ⟨rfl, rfl, rfl, by decide +kernel, rfl, by decide +kernel, by decide +kernel⟩
theorem ok_l_walk (T : Txt w K mg t) : FnOk P w K mg base (CXr P w) 1 t.f_l_walk t.d_l_walk ["_law_mates", "_law_nums"] sp_walk := by
  refine T.p_l_walk.F.okR sc_l_walk (fun vs H Q E h => ?_) (fun cdv A outer s H vs Q E hr h => ?_)
  · obtain ⟨m, a, M, xs, rfl, _⟩ := h
    rfl
  · obtain ⟨m, a, M, xs, rfl, hm, ha, hx0, hx60, hx, h42, ⟨n, hn⟩, inv, k⟩ := h
    refine ⟨_, (pss_cons (ps_setCompG (ts := ["_law_p"]) (fv := [("_law_mates", 0)]) (i := 2) ⟨rfl, by decide +kernel, by decide +kernel, blkFree (by rfl), ⟨⟨rfl, rfl, Or.inl rfl⟩, trivial⟩⟩ rfl sc_l_walk.nd rfl rfl (by rfl) (pi_range1 rfl T.n_range (pa_cons (pe_callB call_len_seq (by rfl) T.n_len PySem.boot_len (pa_cons (pv 0) pa_nil)) pa_nil)) (fun _ _ _ _ => (pg_name (i := 0) (show List.Nodup (["_law_p", "_law_mates"] : List Str) from by decide +kernel) rfl (Or.inl rfl) (Or.inr rfl))) (fun _ _ _ _ => (pts_one (pt_cmpR op_notN (pe_ix (ix_listK K) (pv 1) (pv 0) (fun _ _ => rfl)) pe_non (nomark _)))) (fun _ _ _ => rfl) (fun _ _ _ _ _ _ => pb_emit (pv 0)))
      (pss_cons (ps_if (pt_cmpR op_eq (pe_callB call_len_seq (by rfl) T.n_len PySem.boot_len (pa_cons (pv 2) pa_nil)) pe_int (nomark _)) (pss_one (ps_ret (pe_lst pa_nil))) pss_nil)
      (pss_cons (ps_set (i := 3) sc_l_walk.nd rfl (Or.inl rfl) (pe_lst (pa_cons (pe_ix ix_list (pv 2) (pe_op op_mod (pe_ix ix_list (pv 1) pe_int (fun _ _ => rfl)) (pe_callB call_len_seq (by rfl) T.n_len PySem.boot_len (pa_cons (pv 2) pa_nil))) (fun _ _ => rfl)) pa_nil)))
      (pss_cons (ps_for PassesOwn.never rfl (pi_list (pe_slice sl_list (pv 1) (po_some pe_int) po_none)) (pg_name (i := 4) sc_l_walk.nd rfl (Or.inl rfl)) (pss_cons (ps_set (i := 5) sc_l_walk.nd rfl (Or.inr rfl) (pe_ix ix_list (pv 0) (pe_ix ix_list (pv 3) (pe_un un_neg pe_int) (fun _ _ => rfl)) (fun _ _ => rfl)))
      (pss_cons (ps_setCompG (ts := ["_law_k"]) (fv := [("_law_side", 5)]) (i := 6) ⟨rfl, by decide +kernel, by decide +kernel, blkFree (by rfl), ⟨⟨rfl, rfl, Or.inl rfl⟩, trivial⟩⟩ rfl sc_l_walk.nd rfl rfl (by rfl) (pi_range1 rfl T.n_range (pa_cons pe_int pa_nil)) (fun _ _ _ _ => (pg_name (i := 0) (show List.Nodup (["_law_k", "_law_side"] : List Str) from by decide +kernel) rfl (Or.inl rfl) (Or.inr rfl))) (fun _ _ _ _ => pts_nil) (fun _ _ _ => rfl) (fun _ _ _ _ _ _ => pb_emit (pe_op op_add (pe_op op_sub (pv 1) (pe_op op_mod (pv 1) pe_int)) (pe_op op_mod (pe_op op_add (pe_op op_add (pv 1) pe_int) (pv 0)) pe_int))))
      (pss_cons (ps_setCompG (ts := ["_law_p"]) (fv := [("_law_mates", 0)]) (i := 6) ⟨rfl, by decide +kernel, by decide +kernel, blkFree (by rfl), ⟨⟨rfl, rfl, Or.inl rfl⟩, trivial⟩⟩ rfl sc_l_walk.nd rfl rfl (by rfl) (pi_list (pv 6)) (fun _ _ _ _ => (pg_name (i := 0) (show List.Nodup (["_law_p", "_law_mates"] : List Str) from by decide +kernel) rfl (Or.inl rfl) (Or.inr rfl))) (fun _ _ _ _ => (pts_one (pt_cmpR op_notN (pe_ix (ix_listK K) (pv 1) (pv 0) (fun _ _ => rfl)) pe_non (nomark _)))) (fun _ _ _ => rfl) (fun _ _ _ _ _ _ => pb_emit (pv 0)))
      (pss_cons (ps_if (pt_cmpR op_eq (pe_callB call_len_seq (by rfl) T.n_len PySem.boot_len (pa_cons (pv 6) pa_nil)) pe_int (nomark _)) (pss_one ps_break) pss_nil)
      (pss_one (ps_expr (pe_bm PySem.F.plainAttrs_list PySem.F.slot_list_append PySem.F.type_list_append mt_append (pv 3) (pa_cons (pe_ix ix_list (pv 6) (pe_op op_mod (pv 4) (pe_callB call_len_seq (by rfl) T.n_len PySem.boot_len (pa_cons (pv 6) pa_nil))) (fun _ _ => rfl)) pa_nil)))))))))
      (pss_cons (ps_for PassesOwn.never rfl (pi_range1 rfl T.n_range (pa_cons (pe_callB call_len_seq (by rfl) T.n_len PySem.boot_len (pa_cons (pv 3) pa_nil)) pa_nil)) (pg_name (i := 7) sc_l_walk.nd rfl (Or.inl rfl)) (pss_one (ps_for PassesOwn.never rfl (pi_revR rfl T.n_reversed rfl T.n_range (pa_cons (pe_op op_add (pv 7) pe_int) (pa_cons (pe_callB call_len_seq (by rfl) T.n_len PySem.boot_len (pa_cons (pv 3) pa_nil)) pa_nil))) (pg_name (i := 8) sc_l_walk.nd rfl (Or.inl rfl)) (pss_one (ps_if (pt_cmpR op_eq (pe_ix ix_list (pv 3) (pv 7) (fun _ _ => rfl)) (pe_ix ix_list (pv 3) (pv 8) (fun _ _ => rfl)) (nomark _)) (pss_one (ps_ret (pe_slice sl_list (pv 3) (po_some (pv 7)) (po_some (pv 8))))) pss_nil)))))
      (pss_one (ps_ret (pe_lst pa_nil)))))))), ?_⟩
    refine seq_cut fun nxC hnxC => ?_
    refine ⟨_, rfl, m, _, rfl, .inl (SqL.of hm), _, rfl, by omega, by rw [List.length_map]; omega, fun D hD => ?_⟩
    have eL : (((M.map mV).length : Nat) : Int).toNat = M.length := by simp
    rw [eL]
    refine loop_range (fun i σ H1 => ∃ v, σ = [v, some (.ref m)] ∧ Same H H1 ∧ H1 D = some (.lst (((List.range i).filter (hasM M)).map nV))) ⟨none, rfl, Same.new hD, upd_same⟩ ?_ ?_
    · rintro i σ H1 hlt ⟨v, rfl, sm, h1⟩
      dsimp only [gName]
      rw [Int.zero_add]
      obtain ⟨y, hy⟩ : ∃ y, M[i]? = some y := ⟨_, List.getElem?_eq_getElem hlt⟩
      have lt : (((List.range i).filter (hasM M)).map nV).length < sizeLine := by
        rw [List.length_map]
        have := List.length_filter_le (hasM M) (List.range i)
        rw [List.length_range] at this
        exact small1000 (by omega)
      refine ⟨_, rfl, _, rfl, m, _, _, _, rfl, rfl, SqL.of (sm _ _ hm), map_at hy, rfl, _, rfl, ?_⟩
      cases y with
      | none =>
        refine iteF ⟨_, rfl, sm, ?_⟩
        rw [h1, List.range_succ, List.filter_append]
        have : hasM M i = false := by rw [Bool.eq_false_iff]; intro z; obtain ⟨j, e⟩ := hasM_iff.mp z; rw [hy] at e; cases e
        simp [this]
      | some j =>
        refine iteT ⟨_, rfl, _, h1, lt, _, rfl, Same.add sm hD, ?_⟩
        rw [upd_same, List.range_succ, List.filter_append]
        have : hasM M i = true := hasM_iff.mpr ⟨j, hy⟩
        simp [this]
        rfl
    rintro σ H1 ⟨v, rfl, s1, h1⟩
    refine hnxC _ _ ?_
    have hsp : ∀ p ∈ (List.range M.length).filter (hasM M), ∃ j, M[p]? = some (some j) := fun p hp => hasM_iff.mp (List.mem_filter.mp hp).2
    generalize (List.range M.length).filter (hasM M) = sps at h1 hsp
    refine seq_cut fun nxC hnxC => ?_
    refine ⟨_, rfl, D, _, rfl, .inl (SqL.of h1), rfl, _, rfl, ?_⟩
    refine ite2 (fun c => ?_) (fun c => ?_)
    · exact ⟨Nat.zero_le _, fun l hl => k l [] _ (Same.add s1 (s1.free hl)) (s1.free hl) upd_same (Nat.zero_le _) (.inl rfl)⟩
    have hne : 0 < sps.length := by
      cases sps with
      | nil => exact absurd rfl c
      | cons _ _ => simp
    dsimp only [tNext]
    refine hnxC _ _ ?_
    obtain ⟨x0, xr, rfl⟩ : ∃ x0 xr, xs = x0 :: xr := by
      cases xs with
      | nil => exact absurd rfl hx0
      | cons a b => exact ⟨a, b, rfl⟩
    have k0 := Int.emod_nonneg x0 (show (sps.length : Int) ≠ 0 by omega)
    have k1 := Int.emod_lt_of_pos x0 (show (0 : Int) < sps.length by omega)
    obtain ⟨kk, hkk⟩ : ∃ kk : Nat, x0 % (sps.length : Int) = kk := ⟨_, (Int.toNat_of_nonneg k0).symm⟩
    have hkl : kk < sps.length := by omega
    refine seq_cut fun nxC hnxC => ?_
    refine ⟨_, rfl, _, rfl, a, _, _, _, rfl, rfl, SqL.of (s1 _ _ ha), (show atI _ ((0 : Nat) : Int) = _ from atI_nat rfl), _, rfl, D, _, rfl, .inl (SqL.of h1), _, _, rfl, rfl, (by rw [List.length_map]; omega), D, _, _, _, rfl, rfl, SqL.of h1, (by rw [List.length_map, hkk]; exact map_at (List.getElem?_eq_getElem hkl)), (by show 1 ≤ sizeLine; decide), fun r hr1 => ?_⟩
    refine hnxC _ _ ?_
    have hr0 : H r = none := s1.free hr1
    obtain ⟨j0, hj0⟩ := hsp _ (List.getElem_mem hkl)
    have ch0 : Ch M [sps[kk]] := Ch.one hj0
    generalize sps[kk] = p0 at ch0
    have s2 : Same H (upd H1 r (.lst [nV p0])) := Same.add s1 hr0
    have h2 : (upd H1 r (.lst [nV p0])) r = some (.lst ([p0].map nV)) := upd_same
    generalize upd H1 r (.lst [nV p0]) = H2 at s2 h2
    dsimp only [gName]
    show tSeq (tFor _ _ _) _ _ _ _
    refine seq_post (fun σ H3 => ∃ (row : List Nat) (v4 v5 v6 : Option V), σ = [some (.ref m), some (.ref a), some (.ref D), some (.ref r), v4, v5, v6, none, none] ∧ Same H H3 ∧ H3 r = some (.lst (row.map nV)) ∧ Ch M row ∧ row.length ≤ 60) (fun nx hnx => ?_) ?_
    · refine ⟨_, rfl, _, rfl, a, _, rfl, SqL.of (s2 _ _ ha), fun q hq => ?_⟩
      rw [cut_tail]
      have hrq : r ≠ q := ne_of_none h2 hq
      have hq0 : H q = none := s2.free hq
      refine ⟨q, rfl, ⟨_, SqL.of upd_same⟩, ?_⟩
      rw [List.length_cons] at hx60
      refine for_list (xs := xr.map V.int) (fun i σ H3 => ∃ (row : List Nat) (v4 v5 v6 : Option V), σ = [some (.ref m), some (.ref a), some (.ref D), some (.ref r), v4, v5, v6, none, none] ∧ Same H H3 ∧ H3 q = some (.lst (xr.map V.int)) ∧ H3 r = some (.lst (row.map nV)) ∧ Ch M row ∧ row ≠ [] ∧ row.length ≤ i + 1)
        ⟨[p0], none, none, none, rfl, Same.add s2 hq0, upd_same, by rw [upd_ne hrq]; exact h2, ch0, by simp, by simp⟩ ?_ ?_ ?_
      · rintro i σ H3 _ ⟨row, v4, v5, v6, rfl, s3, h3, _⟩
        exact SqL.of h3
      · rintro i x σ H3 hxi ⟨row, v4, v5, v6, rfl, s3, h3, h4, ch, rne, rlen⟩
        have hi : i < xr.length := by have := (List.getElem?_eq_some_iff.mp hxi).1; rw [List.length_map] at this; exact this
        obtain ⟨pick, hpk, rfl⟩ : ∃ pick, xr[i]? = some pick ∧ x = V.int pick := by
          rw [List.getElem?_map, List.getElem?_eq_getElem hi] at hxi
          exact ⟨_, List.getElem?_eq_getElem hi, (Option.some.inj hxi).symm⟩
        obtain ⟨la, hla⟩ : ∃ la, row.getLast? = some la := by
          cases e : row.getLast? with
          | none => exact absurd (List.getLast?_eq_none_iff.mp e) rne
          | some z => exact ⟨z, rfl⟩
        have hlm : la ∈ row := List.mem_of_getLast? hla
        obtain ⟨sd, hsd⟩ := ch.has la hlm
        have hsdM : sd < M.length := (List.getElem?_eq_some_iff.mp (inv la sd hsd).1).1
        have elast : atI (row.map nV) (-1) = some (nV la) := by
          unfold atI ixN
          have hl : 0 < row.length := by cases row with | nil => exact absurd rfl rne | cons _ _ => simp
          rw [if_neg (by decide), if_pos (by rw [List.length_map]; omega)]
          show ((row.map nV)[((-1 : Int) + (row.map nV).length).toNat]?) = _
          rw [List.length_map, show ((-1 : Int) + (row.length : Int)).toNat = row.length - 1 by omega, List.getElem?_map, ← List.getLast?_eq_getElem?, hla]
          rfl
        dsimp only [gName]
        refine seq_cut fun nxC hnxC => ?_
        refine ⟨_, rfl, _, rfl, _, rfl, r, _, _, _, rfl, rfl, SqL.of h4, elast, m, _, _, _, rfl, rfl, SqL.of (s3 _ _ hm), map_at hsd, ?_⟩
        refine hnxC _ _ ?_
        refine seq_cut fun nxC hnxC => ?_
        refine ⟨2, rfl, by decide, by decide, fun W hW => ?_⟩
        have hW0 : H W = none := s3.free hW
        have hWr : r ≠ W := ne_of_none h4 hW
        have hWq : q ≠ W := ne_of_none h3 hW
        refine loop_range (n := 2) (fun c σ H5 => ∃ v, σ = [v, some (nV sd)] ∧ Same H3 H5 ∧ H5 W = some (.lst (([side sd 1, side sd 2].take c).map nV))) ⟨none, rfl, Same.new hW, upd_same⟩ ?_ ?_
        · rintro c σ H5 hc ⟨v, rfl, s5, h5⟩
          dsimp only [gName, tYes]
          rw [if_pos rfl]
          refine ⟨_, rfl, _, rfl, _, _, rfl, rfl, (by show (0 : Int) < 3; decide), _, _, rfl, rfl, _, rfl, _, _, rfl, rfl, _, rfl, _, _, rfl, rfl, _, _, rfl, rfl, (by show (0 : Int) < 3; decide), _, _, rfl, rfl, _, h5, ?_, _, rfl, Same.add s5 hW, ?_⟩
          · rw [List.length_map, List.length_take]; exact small1000 (by omega)
          · rw [upd_same]
            have hc : c = 0 ∨ c = 1 := by omega
            have e : ∀ k : Nat, (sd : Int) - (sd : Int) % 3 + ((sd : Int) + 1 + (0 + (k : Int))) % 3 = ((side sd (k + 1) : Nat) : Int) := fun k => by unfold side; omega
            rcases hc with rfl | rfl
            · show some (HO.lst ([] ++ [V.int ((sd : Int) - (sd : Int) % 3 + ((sd : Int) + 1 + (0 + ((0 : Nat) : Int))) % 3)])) = _
              rw [e 0]; rfl
            · show some (HO.lst ([nV (side sd 1)] ++ [V.int ((sd : Int) - (sd : Int) % 3 + ((sd : Int) + 1 + (0 + ((1 : Nat) : Int))) % 3)])) = _
              rw [e 1]; rfl
        rintro σ H5 ⟨v, rfl, s5, h5⟩
        refine hnxC _ _ ?_
        have h5 : H5 W = some (.lst ([side sd 1, side sd 2].map nV)) := h5
        have sl : ∀ c, side sd c < M.length := fun c => by rw [hn]; exact side_lt (by omega)
        refine seq_cut fun nxC hnxC => ?_
        refine ⟨_, rfl, W, rfl, ⟨_, SqL.of h5⟩, fun W2 hW2 => ?_⟩
        have s35 := s3.trans s5
        refine loop_list (xs := [side sd 1, side sd 2].map nV) (fun c σ H6 => ∃ v, σ = [v, some (.ref m)] ∧ Same H5 H6 ∧ H6 W2 = some (.lst ((([side sd 1, side sd 2].take c).filter (hasM M)).map nV))) ⟨none, rfl, Same.new hW2, upd_same⟩ ?_ ?_ ?_
        · rintro c σ H6 _ ⟨v, rfl, s6, h6⟩
          exact SqL.of (s6 _ _ h5)
        · rintro c x σ H6 hxc ⟨v, rfl, s6, h6⟩
          obtain ⟨p, hp, rfl⟩ := map_some hxc
          have hpM : p < M.length := by
            have := List.mem_of_getElem? hp
            rcases List.mem_cons.mp this with rfl | z
            · exact sl 1
            · rw [List.mem_singleton.mp z]; exact sl 2
          obtain ⟨y, hy⟩ : ∃ y, M[p]? = some y := ⟨_, List.getElem?_eq_getElem hpM⟩
          dsimp only [gName]
          refine ⟨_, rfl, _, rfl, m, _, _, _, rfl, rfl, SqL.of (s6 _ _ (s35 _ _ hm)), map_at hy, rfl, _, rfl, ?_⟩
          cases y with
          | none =>
            refine iteF ⟨_, rfl, s6, ?_⟩
            have : hasM M p = false := by rw [Bool.eq_false_iff]; intro z; obtain ⟨j, e⟩ := hasM_iff.mp z; rw [hy] at e; cases e
            rw [h6, flt_step hp, if_neg (by rw [this]; decide)]
          | some jj =>
            refine iteT ⟨_, rfl, _, h6, ?_, _, rfl, Same.add s6 hW2, ?_⟩
            · rw [List.length_map]
              have h1 := List.length_filter_le (hasM M) ([side sd 1, side sd 2].take c)
              have h2 : ([side sd 1, side sd 2].take c).length ≤ 2 := by rw [List.length_take]; exact Nat.min_le_right _ _
              exact small1000 (by omega)
            · rw [upd_same, flt_step hp, if_pos (hasM_iff.mpr ⟨jj, hy⟩), List.map_append]
              rfl
        rintro σ H6 ⟨v, rfl, s6, h6⟩
        refine hnxC _ _ ?_
        have h6 : H6 W2 = some (.lst (([side sd 1, side sd 2].filter (hasM M)).map nV)) := h6
        have hws : ∀ p ∈ [side sd 1, side sd 2].filter (hasM M), (∃ j, M[p]? = some (some j)) ∧ p / 3 = sd / 3 ∧ p ≠ sd := fun p hp => by
          obtain ⟨z1, z2⟩ := List.mem_filter.mp hp
          refine ⟨hasM_iff.mp z2, ?_, ?_⟩
          · rcases List.mem_cons.mp z1 with rfl | z
            · exact side_div _ _
            · rw [List.mem_singleton.mp z]; exact side_div _ _
          · rcases List.mem_cons.mp z1 with rfl | z
            · unfold side; omega
            · rw [List.mem_singleton.mp z]; unfold side; omega
        generalize [side sd 1, side sd 2].filter (hasM M) = wys at h6 hws
        have s36 := s5.trans s6
        have h4' := s36 _ _ h4
        have h3' := s36 _ _ h3
        have s06 := s3.trans s36
        refine seq_cut fun nxC hnxC => ?_
        refine ⟨_, rfl, W2, _, rfl, .inl (SqL.of h6), rfl, _, rfl, ?_⟩
        refine ite2 (fun c => ?_) (fun c => ?_)
        · exact hnx _ _ ⟨row, _, _, _, rfl, s06, h4', ch, by omega⟩
        have hwp : 0 < wys.length := by
          cases wys with
          | nil => exact absurd rfl c
          | cons _ _ => simp
        dsimp only [tNext]
        refine hnxC _ _ ?_
        have c0 := Int.emod_nonneg pick (show (wys.length : Int) ≠ 0 by omega)
        have c1 := Int.emod_lt_of_pos pick (show (0 : Int) < wys.length by omega)
        obtain ⟨cc, hcc⟩ : ∃ cc : Nat, pick % (wys.length : Int) = cc := ⟨_, (Int.toNat_of_nonneg c0).symm⟩
        have hcl : cc < wys.length := by omega
        obtain ⟨w1, w2, w3⟩ := hws _ (List.getElem_mem hcl)
        have hget := List.getElem?_eq_getElem hcl
        refine ⟨_, rfl, .inl ⟨rfl, _, SqL.of h4'⟩, _, rfl, _, rfl, _, rfl, W2, _, rfl, .inl (SqL.of h6), _, _, rfl, rfl, (by rw [List.length_map]; omega), W2, _, _, _, rfl, rfl, SqL.of h6, (by rw [List.length_map, hcc]; exact map_at hget), r, _, _, rfl, rfl, h4', (by rw [List.length_map]; exact small1000 (by omega)), ?_⟩
        refine ⟨row ++ [wys[cc]], _, _, _, rfl, Same.add s06 hr0, ?_, ?_, ch.snoc hla hsd w2 w3 w1, by simp, by rw [List.length_append, List.length_singleton]; omega⟩
        · rw [upd_ne (Ne.symm hrq)]; exact h3'
        · rw [upd_same, List.map_append]; rfl
      · rintro σ H3 ⟨row, v4, v5, v6, rfl, s3, h3, h4, ch, rne, rlen⟩
        rw [List.length_map] at rlen
        exact hnx _ _ ⟨row, _, _, _, rfl, s3, h4, ch, by omega⟩
    rintro σ H3 ⟨row, v4, v5, v6, rfl, s3, h3, ch, rlen⟩
    show tSeq (tFor _ _ _) _ _ _ _
    refine seq_post (fun σ H4 => H4 = H3) (fun nx hnx => ?_) ?_
    · refine ⟨_, rfl, r, _, rfl, .inl (SqL.of h3), _, rfl, by omega, by rw [List.length_map]; omega, ?_⟩
      have eR : (((row.map nV).length : Nat) : Int).toNat = row.length := by simp
      rw [eR]
      refine for_range (n := row.length) (fun i σ H4 => ∃ v7 v8, σ = [some (.ref m), some (.ref a), some (.ref D), some (.ref r), v4, v5, v6, v7, v8] ∧ H4 = H3) ⟨_, _, rfl, rfl⟩ ?_ ?_
      · rintro i σ H4 hi ⟨v7, v8, rfl, rfl⟩
        dsimp only [gName]
        rw [Int.zero_add]
        refine ⟨_, rfl, _, _, rfl, rfl, _, rfl, r, _, rfl, .inl (SqL.of h3), ((i + 1 : Nat) : Int), row.length - (i + 1), ?_, by omega, by omega, ?_⟩
        · rw [List.length_map]
          show [V.int ((i : Int) + 1), V.int (row.length : Int)] = _
          rw [show ((i : Int) + 1) = ((i + 1 : Nat) : Int) by omega, show (row.length : Int) = ((i + 1 : Nat) : Int) + ((row.length - (i + 1) : Nat) : Int) by omega]
        refine for_range3 (n := row.length - (i + 1)) (fun c σ H5 => ∃ v8, σ = [some (.ref m), some (.ref a), some (.ref D), some (.ref r), v4, v5, v6, some (.int i), v8] ∧ H5 = H4) ⟨_, rfl, rfl⟩ ?_ ?_
        · rintro c σ H4 hc ⟨v8, rfl, rfl⟩
          obtain ⟨e, he, hie, hel⟩ : ∃ e : Nat, ((i + 1 : Nat) : Int) + ((row.length - (i + 1) : Nat) : Int) - 1 + (c : Int) * -1 = (e : Int) ∧ i < e ∧ e < row.length := ⟨row.length - 1 - c, by omega, by omega, by omega⟩
          dsimp only [gName]
          rw [he]
          have gi := List.getElem?_eq_getElem hi
          have ge := List.getElem?_eq_getElem hel
          refine ⟨_, rfl, _, rfl, r, _, _, _, rfl, rfl, SqL.of h3, map_at gi, _, rfl, _, rfl, r, _, _, _, rfl, rfl, SqL.of h3, map_at ge, rfl, _, rfl, ?_⟩
          refine ite2 (fun z => ?_) (fun z => ?_)
          · have z : nV row[i] = nV row[e] := of_decide_eq_true z
            have z : row[i] = row[e] := by unfold nV at z; injection z with z; omega
            refine ⟨_, rfl, _, rfl, _, rfl, _, rfl, _, rfl, r, _, rfl, SqL.of h3, fun l hl => ?_⟩
            have ec : cutV (row.map nV) (some (i : Int)) (some (e : Int)) = ((row.drop i).take (e - i)).map nV := by
              unfold cutV
              rw [HT.sIx_nat, HT.sIx_nat, List.length_map, Nat.min_eq_left (by omega), Nat.min_eq_left (by omega), List.map_take, List.map_drop]
            rw [ec]
            refine k l _ _ (Same.add s3 (s3.free hl)) (s3.free hl) upd_same ?_ (.inr (ch.cut hie gi (by rw [ge, z])))
            rw [List.length_take, List.length_drop]; omega
          · exact ⟨_, rfl, rfl⟩
        · rintro σ H4 ⟨v8, rfl, rfl⟩
          exact ⟨_, _, rfl, rfl⟩
      · rintro σ H4 ⟨v7, v8, rfl, rfl⟩
        exact hnx _ _ rfl
    · rintro σ H4 rfl
      exact ⟨Nat.zero_le _, fun l hl => k l [] _ (Same.add s3 (s3.free hl)) (s3.free hl) upd_same (Nat.zero_le _) (.inl rfl)⟩
end
end KT
set_option maxHeartbeats 4000000
namespace KT
open PySem L2
def turnI (ws : List Int) (by' : Int) : List Int := rot ws (by' % ws.length).toNat
def sp_turned : Sp := fun vs H Q _ => ∃ (a : Addr) (ws : List Int) (b : Int), vs = [.ref a, .int b] ∧ H a = some (.lst (ws.map V.int)) ∧ ws.length ≤ 100000 ∧ ∀ (l : Addr) (H' : Hp), Same H H' → H l = none → H' l = some (.lst ((turnI ws b).map V.int)) → Q (.ref l) H'
def sp_crossable (C : Addr) : Sp := fun vs H Q _ => ∃ (p : Addr) (M : List (Option Nat)) (ns : List Int) (x : Int), vs = [.ref p, .int x] ∧ TentAt C H p M ns ∧ M.length = ns.length ∧ Q (.bl (crossB M x)) H
def sp_follows (C : Addr) : Sp := fun vs H Q _ => ∃ (p : Addr) (M : List (Option Nat)) (ns : List Int) (a x : Int), vs = [.ref p, .int a, .int x] ∧ TentAt C H p M ns ∧ M.length = ns.length ∧ crossB M a = true ∧ Q (.bl (followB M a x)) H
def sp_plain (C : Addr) : Sp := fun vs H Q _ => ∃ (p a : Addr) (M : List (Option Nat)) (ns ws : List Int), vs = [.ref p, .ref a] ∧ TentAt C H p M ns ∧ M.length = ns.length ∧ H a = some (.lst (ws.map V.int)) ∧ ws.length ≤ 100000 ∧ ∀ H', Same H H' → Q (.bl (plainB M ws)) H'
def sp_look_thread (C EN : Addr) : Sp := fun vs H Q E => ∃ (p a : Addr) (M : List (Option Nat)) (ns ws : List Int), vs = [.ref p, .ref a] ∧ TentAt C H p M ns ∧ M.length = ns.length ∧ H a = some (.lst (ws.map V.int)) ∧ ws.length ≤ 100000 ∧ ∀ H', Same H H' → (plainB M ws = true → Q .non H') ∧ (plainB M ws = false → E (.ref EN) none H')
theorem small_word {n : Nat} (h : n ≤ 100000) : n ≤ sizeLine := by rw [sizeLine_eq]; omega
theorem cut_from {ws : List Int} {s : Nat} (h : s ≤ ws.length) : cutV (ws.map V.int) (some (s : Int)) none = (ws.drop s).map V.int := by
 unfold cutV
 rw [HT.sIx_nat, HT.sIx_none, List.length_map, Nat.min_eq_left h, List.map_drop, List.take_of_length_le]
 rw [List.length_drop, List.length_map]
 exact Nat.le_refl _
theorem cut_to {ws : List Int} {s : Nat} (h : s ≤ ws.length) : cutV (ws.map V.int) none (some (s : Int)) = (ws.take s).map V.int := by
 unfold cutV
 rw [HT.sIx_none, HT.sIx_nat, List.length_map, Nat.min_eq_left h, List.drop_zero, Nat.sub_zero, List.map_take]
section
variable {P : Program} {w : World} {K : PySem.W.Frag} {mg : Str → Option Value} {base : Heap} {t : Adr}
theorem sc_l_thread : FnScope ["_law_script", "_law_at", "_law_mates", "_law_cell_here"] ["_law_script", "_law_at", "_law_mates"] (defScope s_l_thread) := ⟨rfl, rfl, rfl, by decide +kernel, rfl, by decide +kernel, by decide +kernel⟩
theorem ok_l_thread (T : Txt w K mg t) : FnOk P w K mg base (CXr P w) 2 t.f_l_thread t.d_l_thread ["_law_script", "_law_at", "_law_mates"] (sp_thread K) := by
 refine T.p_l_thread.F.okR sc_l_thread (fun vs H Q E h => ?_) (fun cdv A outer s H vs Q E hr h => ?_)
 ·obtain ⟨a, m, sc, i, M, rfl, _⟩ := h
  rfl
 ·obtain ⟨a, m, sc, i, M, rfl, hS, hl, i0, i1, hm, h42, hn, inv, k⟩ := h
  refine ⟨_, (pss_cons (ps_set (i := 3) sc_l_thread.nd rfl (Or.inl rfl) (pe_call (ok_l_cell T) (hr.mono (by decide)) rfl T.p_l_cell.g T.p_l_cell.F.kp T.p_l_cell.b .nil passR (pa_cons (pv 0) (pa_cons (pv 1) pa_nil))))
   (pss_one (ps_ret (pe_call (ok_l_walk T) (hr.mono (by decide)) rfl T.p_l_walk.g T.p_l_walk.F.kp T.p_l_walk.b .nil passR (pa_cons (pv 2) (pa_cons (pe_call (ok_l_numbers T) (hr.mono (by decide)) rfl T.p_l_numbers.g T.p_l_numbers.F.kp T.p_l_numbers.b .nil passR (pa_cons (pe_op op_fdiv (pv 3) pe_int) (pa_cons (pe_op op_add pe_int (pe_op op_mod (pv 3) pe_int)) pa_nil))) pa_nil)))))), ?_⟩
  refine ⟨_, rfl, _, rfl, a, sc, i, rfl, hS, hl, i0, by omega, ?_⟩
  dsimp only [gName]
  generalize cell sc i = c
  have m0 : 0 ≤ c % 50 := Int.emod_nonneg _ (by decide)
  have m1 : c % 50 < 50 := Int.emod_lt_of_pos _ (by decide)
  have e : (4 + c % 50 : Int) = ((4 + (c % 50).toNat : Nat) : Int) := by omega
  refine ⟨_, rfl, _, rfl, _, _, rfl, rfl, ⟨by decide, by decide⟩, _, rfl, _, _, rfl, rfl, (by show (0 : Int) < 50; decide), _, _, rfl, rfl, _, 4 + (c % 50).toNat, (by rw [← e]; rfl), by omega, fun p xs H1 s1 hp h1 hxl hx => ?_⟩
  refine ⟨m, p, M, xs, rfl, s1 _ _ hm, h1, fun z => by rw [z] at hxl; simp at hxl; omega, by omega, hx, h42, hn, inv, fun l ws H2 s2 hl2 h2 hw hpl => k l ws H2 (s1.trans s2) (s1.free hl2) h2 hw hpl⟩
theorem sc_turned : FnScope ["word", "by", "start"] ["word", "by"] (defScope s_turned) := ⟨rfl, rfl, rfl, by decide +kernel, rfl, by decide +kernel, by decide +kernel⟩
theorem ok_turned (T : Txt w K mg t) : FnOk P w K mg base (CXr P w) 1 t.f_turned t.d_turned ["word", "by"] sp_turned := by
 refine T.p_turned.F.okR sc_turned (fun vs H Q E h => ?_) (fun cdv A outer s H vs Q E hr h => ?_)
 ·obtain ⟨a, ws, b, rfl, _⟩ := h
  rfl
 ·obtain ⟨a, ws, b, rfl, ha, hl, k⟩ := h
  refine ⟨_, (pss_cons (ps_if (pt_not (pt_truth (pv 0) (fun _ => rfl))) (pss_one (ps_ret (pe_lst pa_nil))) pss_nil)
   (pss_cons (ps_set (i := 2) sc_turned.nd rfl (Or.inl rfl) (pe_op op_mod (pv 1) (pe_callB call_len_seq (by rfl) T.n_len PySem.boot_len (pa_cons (pv 0) pa_nil))))
   (pss_one (ps_ret (pe_op op_cat (pe_slice sl_list (pv 0) (po_some (pv 2)) po_none) (pe_slice sl_list (pv 0) po_none (po_some (pv 2)))))))), ?_⟩
  refine seq_cut fun nxC hnxC => ?_
  refine ⟨_, rfl, _, .inl ⟨_, SqL.of ha, rfl⟩, ?_⟩
  by_cases hne : ws = []
  ·subst hne
   exact iteT ⟨Nat.zero_le _, fun l hl' => k l _ (Same.new hl') hl' (by rw [upd_same]; unfold turnI rot; simp)⟩
  ·have e : (!(ws.map V.int).isEmpty) = true := by cases ws with | nil => exact absurd rfl hne | cons _ _ => rfl
   have hp : 0 < ws.length := by cases ws with | nil => exact absurd rfl hne | cons _ _ => simp
   rw [e]
   refine iteF ?_
   dsimp only [tNext]
   refine hnxC _ _ ?_
   have k0 := Int.emod_nonneg b (show (ws.length : Int) ≠ 0 by omega)
   have k1 := Int.emod_lt_of_pos b (show (0 : Int) < ws.length by omega)
   obtain ⟨st, hst⟩ : ∃ st : Nat, b % (ws.length : Int) = st := ⟨_, (Int.toNat_of_nonneg k0).symm⟩
   have hsl : st ≤ ws.length := by omega
   have et : turnI ws b = ws.drop st ++ ws.take st := by unfold turnI rot; rw [hst, Int.toNat_natCast]
   refine ⟨_, rfl, _, rfl, a, _, rfl, .inl (SqL.of ha), _, _, rfl, rfl, (by rw [List.length_map]; omega), ?_⟩
   dsimp only [gName]
   rw [len_word, hst]
   refine ⟨_, rfl, _, rfl, _, rfl, a, _, rfl, SqL.of ha, fun l1 h1 => ?_⟩
   rw [cut_from hsl]
   have s1 : Same H (upd H l1 (.lst ((ws.drop st).map V.int))) := Same.new h1
   refine ⟨_, rfl, _, rfl, _, rfl, a, _, rfl, SqL.of (s1 _ _ ha), fun l2 h2 => ?_⟩
   rw [cut_to hsl]
   obtain ⟨hne2, h2'⟩ := upd_none h2
   refine ⟨l1, l2, _, _, rfl, rfl, by rw [upd_ne (Ne.symm hne2), upd_same], upd_same, ?_, fun l3 h3 => ?_⟩
   ·rw [List.length_map, List.length_map, List.length_drop, List.length_take]; exact small_word (by omega)
   ·have s3 := Same.add (o := .lst ((ws.take st).map V.int)) s1 h2'
    refine k l3 _ (Same.add s3 (s3.free h3)) (s3.free h3) ?_
    rw [upd_same, et, List.map_append]
theorem sc_crossable : FnScope ["tent", "place"] ["tent", "place"] (defScope s_crossable) := ⟨rfl, rfl, rfl, by decide +kernel, rfl, by decide +kernel, by decide +kernel⟩
theorem ok_crossable (T : Txt w K mg t) : FnOk P w K mg base (CXr P w) 4 t.f_crossable t.d_crossable ["tent", "place"] (sp_crossable t.C_Tent) := by
 refine T.p_crossable.F.okR sc_crossable (fun vs H Q E h => ?_) (fun cdv A outer s H vs Q E hr h => ?_)
 ·obtain ⟨p, M, ns, x, rfl, _⟩ := h
  rfl
 ·obtain ⟨p, M, ns, x, rfl, ta, hMl, k⟩ := h
  obtain ⟨dx, cl, na, sp, mt, o, f, b⟩ := id ta
  refine ⟨_, (pss_one (ps_ret (pe_and (pe_meth (pv 0) T.cl_Tent T.p_Tent_has_place.m (ok_Tent_has_place T) (hr.mono (by decide)) T.p_Tent_has_place.b .nil passR (pa_cons (pv 1) pa_nil)) (pe_one (pe_cmpR op_notN (pe_meth (pv 0) T.cl_Tent T.p_Tent_mate.m (ok_Tent_mate T) (hr.mono (by decide)) T.p_Tent_mate.b .nil passR (pa_cons (pv 1) pa_nil)) pe_non (nomark _)))))), ?_⟩
  refine ⟨_, rfl, p, dx, _, rfl, b.ins, fl_none _ _ _ _, _, rfl, p, M, ns, x, rfl, ta, _, rfl, ?_⟩
  by_cases c : 0 ≤ x ∧ x < (ns.length : Int)
  ·rw [decide_eq_true c]
   refine iteT ⟨_, rfl, p, dx, _, rfl, b.ins, fl_none _ _ _ _, _, rfl, p, M, ns, x, rfl, ta, hMl, fun i y e1 e2 => ?_, fun z => absurd c z⟩
   refine ⟨rfl, ?_⟩
   have : crossB M x = !decide (mV y = .non) := by
    unfold crossB
    rw [e1, Int.toNat_natCast, List.getD_eq_getElem?_getD, e2, decide_eq_true (show (0 : Int) ≤ i ∧ (i : Int) < M.length by omega)]
    cases y <;> rfl
   rw [this] at k
   exact k
  ·rw [decide_eq_false c]
   have : crossB M x = false := by unfold crossB; rw [decide_eq_false (by omega)]; rfl
   rw [this] at k
   exact iteF k
theorem sc_follows : FnScope ["tent", "ahead", "place", "entry"] ["tent", "ahead", "place"] (defScope s_follows) := ⟨rfl, rfl, rfl, by decide +kernel, rfl, by decide +kernel, by decide +kernel⟩
theorem ok_follows (T : Txt w K mg t) : FnOk P w K mg base (CXr P w) 4 t.f_follows t.d_follows ["tent", "ahead", "place"] (sp_follows t.C_Tent) := by
 refine T.p_follows.F.okR sc_follows (fun vs H Q E h => ?_) (fun cdv A outer s H vs Q E hr h => ?_)
 ·obtain ⟨p, M, ns, a, x, rfl, _⟩ := h
  rfl
 ·obtain ⟨p, M, ns, a, x, rfl, ta, hMl, hc, k⟩ := h
  obtain ⟨dx, cl, na, sp, mt, o, f, b⟩ := id ta
  refine ⟨_, (pss_cons (ps_set (i := 3) sc_follows.nd rfl (Or.inl rfl) (pe_meth (pv 0) T.cl_Tent T.p_Tent_mate.m (ok_Tent_mate T) (hr.mono (by decide)) T.p_Tent_mate.b .nil passR (pa_cons (pv 1) pa_nil)))
   (pss_one (ps_ret (pe_and (pe_cmpR op_eq (pe_call (ok_cloth_of T) (hr.mono (by decide)) rfl T.p_cloth_of.g T.p_cloth_of.F.kp T.p_cloth_of.b .nil passR (pa_cons (pv 2) pa_nil)) (pe_call (ok_cloth_of T) (hr.mono (by decide)) rfl T.p_cloth_of.g T.p_cloth_of.F.kp T.p_cloth_of.b .nil passR (pa_cons (pv 3) pa_nil)) (nomark _)) (pe_one (pe_cmpR op_ne (pv 2) (pv 3) (nomark _))))))), ?_⟩
  obtain ⟨hr1, hs1⟩ := Bool.and_eq_true_iff.mp hc
  have hr1 := of_decide_eq_true hr1
  obtain ⟨m, hm⟩ := Option.isSome_iff_exists.mp hs1
  have hal : a.toNat < M.length := by omega
  have ha : M[a.toNat]? = some (some m) := by rw [List.getD_eq_getElem?_getD, List.getElem?_eq_getElem hal] at hm; rw [List.getElem?_eq_getElem hal]; exact congrArg some hm
  have ef : followB M a x = (decide (x / 3 = (m : Int) / 3) && !decide (x = (m : Int))) := by unfold followB; rw [hm]
  rw [ef] at k
  refine ⟨_, rfl, p, dx, _, rfl, b.ins, fl_none _ _ _ _, _, rfl, p, M, ns, a, rfl, ta, hMl, fun i y e1 e2 => ?_, fun z => absurd (show 0 ≤ a ∧ a < (ns.length : Int) by omega) z⟩
  have : i = a.toNat := by omega
  subst this
  rw [ha] at e2
  cases e2
  refine ⟨_, rfl, _, rfl, _, rfl, _, rfl, rfl, _, rfl, ?_⟩
  have dI : ∀ u v : Int, decide (V.int u = V.int v) = decide (u = v) := fun u v => by
   by_cases z : u = v
   ·subst z; simp
   ·rw [decide_eq_false z, decide_eq_false (fun y => z (by injection y))]
  rw [dI]
  by_cases z : x / 3 = (m : Int) / 3
  ·rw [decide_eq_true z] at k ⊢
   refine iteT ⟨_, rfl, _, rfl, rfl, ?_⟩
   show Q (.bl (!decide (V.int x = V.int (m : Int)))) H
   rw [dI]
   exact k
  ·rw [decide_eq_false z] at k ⊢
   exact iteF k
theorem sc_plain : FnScope ["tent", "word"] ["tent", "word"] (defScope s_plain) := ⟨rfl, rfl, rfl, by decide +kernel, rfl, by decide +kernel, by decide +kernel⟩
theorem ok_plain (T : Txt w K mg t) : FnOk P w K mg base (CXr P w) 5 t.f_plain t.d_plain ["tent", "word"] (sp_plain t.C_Tent) := by
  refine T.p_plain.F.okR sc_plain (fun vs H Q E h => ?_) (fun cdv A outer s H vs Q E hr h => ?_)
  · obtain ⟨p, a, M, ns, ws, rfl, _⟩ := h
    rfl
  · obtain ⟨p, a, M, ns, ws, rfl, ta, hMl, ha, hl, k⟩ := h
    refine ⟨_, (pss_cons (ps_if (PW.pt (pw_or (pt_not (pt_truth (pv 1) (fun _ => rfl))) (pw_or1 (pt_not (pt_val (pe_callB (call_all rfl) (by rfl) T.n_all PyProof.Rows.boot_all (pa_cons (pe_compG (ts := ["place"]) (fv := [("tent", 0)]) ⟨rfl, by decide +kernel, by decide +kernel, blkFree (by rfl), ⟨⟨rfl, rfl, Or.inl rfl⟩, trivial⟩⟩ rfl (pi_list (pv 1)) (fun _ _ _ _ => (pg_name (i := 0) (show List.Nodup (["place", "tent"] : List Str) from by decide +kernel) rfl (Or.inl rfl) (Or.inr rfl))) (fun _ _ _ _ => pts_nil) (fun _ _ _ => rfl) (fun _ _ _ _ _ _ => pb_emit (pe_call (ok_crossable T) (hr.mono (by decide)) rfl T.p_crossable.g T.p_crossable.F.kp T.p_crossable.b .nil passR (pa_cons (pv 1) (pa_cons (pv 0) pa_nil))))) pa_nil))))))) (pss_one (ps_ret pe_bl)) pss_nil)
      (pss_one (ps_ret (pe_callB (call_all rfl) (by rfl) T.n_all PyProof.Rows.boot_all (pa_cons (pe_compG (ts := ["ahead", "place"]) (fv := [("tent", 0)]) ⟨rfl, by decide +kernel, by decide +kernel, blkFree (by rfl), ⟨⟨rfl, rfl, Or.inl rfl⟩, trivial⟩⟩ rfl (pi_zip rfl T.n_zip (pa_cons (pv 1) (pa_cons (pe_call (ok_turned T) (hr.mono (by decide)) rfl T.p_turned.g T.p_turned.F.kp T.p_turned.b .nil passR (pa_cons (pv 1) (pa_cons pe_int pa_nil))) pa_nil))) (fun _ _ _ _ => (pg_tupK (n := 2) K rfl (pgs_cons (pg_name (i := 0) (show List.Nodup (["ahead", "place", "tent"] : List Str) from by decide +kernel) rfl (Or.inl rfl) (Or.inr rfl)) (pgs_cons (pg_name (i := 1) (show List.Nodup (["ahead", "place", "tent"] : List Str) from by decide +kernel) rfl (Or.inl rfl) (Or.inr rfl)) pgs_nil)))) (fun _ _ _ _ => pts_nil) (fun _ _ _ => rfl) (fun _ _ _ _ _ _ => pb_emit (pe_call (ok_follows T) (hr.mono (by decide)) rfl T.p_follows.g T.p_follows.F.kp T.p_follows.b .nil passR (pa_cons (pv 2) (pa_cons (pv 0) (pa_cons (pv 1) pa_nil)))))) pa_nil))))), ?_⟩
    refine seq_cut fun nxC hnxC => ?_
    refine ⟨_, rfl, _, .inl ⟨_, SqL.of ha, rfl⟩, ?_⟩
    by_cases hne : ws = []
    · subst hne
      exact iteT (k _ (Same.refl _))
    · have e : (!(ws.map V.int).isEmpty) = true := by cases ws with | nil => exact absurd rfl hne | cons _ _ => rfl
      have e' : (!ws.isEmpty) = true := by cases ws with | nil => exact absurd rfl hne | cons _ _ => rfl
      have hp : 0 < ws.length := by cases ws with | nil => exact absurd rfl hne | cons _ _ => simp
      rw [e]
      refine iteF ?_
      refine ⟨_, rfl, a, rfl, ⟨_, SqL.of ha⟩, fun D hD => ?_⟩
      refine loop_list (xs := ws.map V.int) (fun i σ H1 => ∃ v, σ = [v, some (.ref p)] ∧ Same H H1 ∧ H1 D = some (.lst (((ws.take i).map (crossB M)).map V.bl))) ⟨none, rfl, Same.new hD, upd_same⟩ ?_ ?_ ?_
      · rintro i σ H1 _ ⟨v, rfl, sm, h1⟩
        exact SqL.of (sm _ _ ha)
      · rintro i x σ H1 hx ⟨v, rfl, sm, h1⟩
        obtain ⟨y, hy, rfl⟩ := map_some hx
        dsimp only [gName, tYes]
        rw [if_pos rfl]
        refine ⟨_, rfl, _, rfl, p, M, ns, y, rfl, ta.same sm, hMl, _, h1, ?_, _, rfl, Same.add sm hD, ?_⟩
        · rw [List.length_map, List.length_map, List.length_take, sizeLine_eq]; omega
        · rw [upd_same, List.take_add_one, hy, List.map_append, List.map_append]; rfl
      rintro σ H1 ⟨v, rfl, s1, h1⟩
      rw [List.length_map, List.take_length] at h1
      refine ⟨D, _, rfl, SqL.of h1, _, rfl, ?_⟩
      by_cases hc : (ws.map (crossB M)).all id = true
      · rw [hc]
        refine iteF ?_
        dsimp only [tNext]
        refine hnxC _ _ ?_
        refine ⟨_, rfl, _, rfl, a, ws, 1, rfl, s1 _ _ ha, hl, fun tl H2 s2 htl h2 => ?_⟩
        have s02 := s1.trans s2
        have et : turnI ws 1 = rot ws (1 % ws.length) := by
          unfold turnI
          congr 1
        rw [et] at h2
        have hrl : (rot ws (1 % ws.length)).length = ws.length := rot_len ws (Nat.le_of_lt (Nat.mod_lt _ hp))
        have hcr : ∀ y ∈ ws, crossB M y = true := fun y hy => List.all_eq_true.mp hc _ (List.mem_map.mpr ⟨y, hy, rfl⟩)
        have ep : plainB M ws = (pairB M ws (rot ws (1 % ws.length))).all id := by unfold plainB; rw [e', hc]; rfl
        have k' := fun H' s' => k H' s'
        rw [ep] at k'
        generalize rot ws (1 % ws.length) = vs at h2 hrl k'
        refine ⟨a, tl, _, _, rfl, SqL.of (s02 _ _ ha), SqL.of h2, fun D2 hD2 => ?_⟩
        refine loop_zip (xs := ws.map V.int) (ys := vs.map V.int) (by rw [List.length_map, List.length_map, hrl]) (fun i σ H3 => ∃ v v', σ = [v, v', some (.ref p)] ∧ Same H2 H3 ∧ H3 D2 = some (.lst (((pairB M ws vs).take i).map V.bl))) ⟨none, none, rfl, Same.new hD2, upd_same⟩ ?_ ?_ ?_
        · rintro i σ H3 _ ⟨v, v', rfl, s3, h3⟩
          exact ⟨SqL.of (s3 _ _ (s02 _ _ ha)), SqL.of (s3 _ _ h2)⟩
        · rintro i x y σ H3 q hx hy hq ⟨v, v', rfl, s3, h3⟩
          obtain ⟨x', hx', rfl⟩ := map_some hx
          obtain ⟨y', hy', rfl⟩ := map_some hy
          have s4 : Same H3 (upd H3 q (.tup [V.int x', V.int y'])) := Same.new hq
          refine ⟨q, _, rfl, SqT.of upd_same, rfl, _, _, rfl, _, _, rfl, rfl, ?_⟩
          dsimp only [tYes]
          rw [if_pos rfl]
          refine ⟨_, rfl, _, rfl, _, rfl, p, M, ns, x', y', rfl, ((ta.same s02).same s3).same s4, hMl, hcr x' (List.mem_of_getElem? hx'), _, s4 _ _ h3, ?_, _, _, rfl, Same.add (s3.trans s4) hD2, ?_⟩
          · rw [List.length_map, List.length_take]
            have : (pairB M ws vs).length ≤ ws.length := by unfold pairB; rw [List.length_map, List.length_zip]; omega
            rw [sizeLine_eq]; omega
          · have : (pairB M ws vs)[i]? = some (followB M x' y') := by
              unfold pairB
              rw [List.getElem?_map, List.getElem?_zip_eq_some (z := (x', y')) |>.mpr ⟨hx', hy'⟩]
              rfl
            rw [upd_same, List.take_add_one, this, List.map_append]
            rfl
        rintro σ H3 ⟨v, v', rfl, s3, h3⟩
        have hpl : (pairB M ws vs).length = ws.length := by unfold pairB; rw [List.length_map, List.length_zip]; omega
        rw [List.length_map, List.take_of_length_le (Nat.le_of_eq hpl)] at h3
        exact ⟨D2, _, rfl, SqL.of h3, k' _ (s02.trans s3)⟩
      · have hc : (ws.map (crossB M)).all id = false := by rw [Bool.eq_false_iff]; exact hc
        rw [hc]
        have ep : plainB M ws = false := by unfold plainB; rw [hc]; simp
        have := k _ s1
        rw [ep] at this
        exact iteT this
theorem sc_look_thread : FnScope ["tent", "word"] ["tent", "word"] (defScope s_look_thread) := ⟨rfl, rfl, rfl, by decide +kernel, rfl, by decide +kernel, by decide +kernel⟩
theorem ok_look_thread (T : Txt w K mg t) : FnOk P w K mg base (CXr P w) 6 t.f_look_thread t.d_look_thread ["tent", "word"] (sp_look_thread t.C_Tent t.E_NoThread) := by
 refine T.p_look_thread.F.okX sc_look_thread (fun vs H Q E h => ?_) (fun cdv A outer s H vs Q E hr h => ?_)
 ·obtain ⟨p, a, M, ns, ws, rfl, _⟩ := h
  rfl
 ·obtain ⟨p, a, M, ns, ws, rfl, ta, hMl, ha, hl, k⟩ := h
  refine ⟨_, (pssx_one (psx_if (pt_not (pt_val (pe_call (ok_plain T) (hr.mono (by decide)) rfl T.p_plain.g T.p_plain.F.kp T.p_plain.b .nil passR (pa_cons (pv 0) (pa_cons (pv 1) pa_nil))))) (pssx_one (psx_raise T.x_NoThread FBV rfl T.gx_NoThread rfl (pa_cons pe_str pa_nil))) pssx_nil)), ?_⟩
  refine ⟨_, rfl, _, rfl, p, a, M, ns, ws, rfl, ta, hMl, ha, hl, fun H' s' => ⟨_, rfl, ?_⟩⟩
  obtain ⟨k1, k2⟩ := k H' s'
  cases e : plainB M ws with
  | true => exact iteF (k1 e)
  | false => exact iteT ⟨by decide, k2 e⟩
end
end KT
set_option maxHeartbeats 4000000
namespace KT
open PySem L2
theorem nv_wI (ws : List Nat) : ws.map nV = (wI ws).map V.int := by rw [List.map_map]; rfl
theorem wI_len (ws : List Nat) : (wI ws).length = ws.length := by simp
def backL (M : List (Option Nat)) (ws : List Nat) : List Nat := ws.reverse.map fun p => (M.getD p none).getD 0
theorem backL_len (M : List (Option Nat)) (ws : List Nat) : (backL M ws).length = ws.length := by unfold backL; simp
theorem backL_get {M : List (Option Nat)} {ws : List Nat} {i p m : Nat} (h : ws.reverse[i]? = some p) (hm : M[p]? = some (some m)) : (backL M ws)[i]? = some m := by
 unfold backL
 rw [List.getElem?_map, h]
 show some ((M.getD p none).getD 0) = some m
 rw [List.getD_eq_getElem?_getD, hm]
 rfl
def sp_backward (C : Addr) : Sp := fun vs H Q _ => ∃ (p a : Addr) (M : List (Option Nat)) (ns : List Int) (ws : List Nat), vs = [.ref p, .ref a] ∧ TentAt C H p M ns ∧ M.length = ns.length ∧ H a = some (.lst (ws.map nV)) ∧ ws.length ≤ 10000 ∧ Pl M ws ∧ ∀ (l : Addr) (H' : Hp), Same H H' → H l = none → H' l = some (.lst ((backL M ws).map nV)) → Q (.ref l) H'
section
variable {P : Program} {w : World} {K : PySem.W.Frag} {mg : Str → Option Value} {base : Heap} {t : Adr}
theorem sc_backward : FnScope ["tent", "word"] ["tent", "word"] (defScope s_backward) := ⟨rfl, rfl, rfl, by decide +kernel, rfl, by decide +kernel, by decide +kernel⟩
theorem ok_backward (T : Txt w K mg t) : FnOk P w K mg base (CXr P w) 7 t.f_backward t.d_backward ["tent", "word"] (sp_backward t.C_Tent) := by
 refine T.p_backward.F.okX sc_backward (fun vs H Q E h => ?_) (fun cdv A outer s H vs Q E hr h => ?_)
 ·obtain ⟨p, a, M, ns, ws, rfl, _⟩ := h
  rfl
 ·obtain ⟨p, a, M, ns, ws, rfl, ta, hMl, ha, hl, hP, k⟩ := h
  refine ⟨_, (pssx_cons (psx_expr (pex_call (ok_look_thread T) (hr.mono (by decide)) rfl T.p_look_thread.g T.p_look_thread.F.kp T.p_look_thread.b .nil (pa_cons (pv 0) (pa_cons (pv 1) pa_nil))))
   (pssx_one (psx_of (ps_ret (pe_compG (ts := ["place"]) (fv := [("tent", 0)]) ⟨rfl, by decide +kernel, by decide +kernel, blkFree (by rfl), ⟨⟨rfl, rfl, Or.inl rfl⟩, trivial⟩⟩ rfl (pi_rev rfl T.n_reversed (pa_cons (pv 1) pa_nil)) (fun _ _ _ _ => (pg_name (i := 0) (show List.Nodup (["place", "tent"] : List Str) from by decide +kernel) rfl (Or.inl rfl) (Or.inr rfl))) (fun _ _ _ _ => pts_nil) (fun _ _ _ => rfl) (fun _ _ _ _ _ _ => pb_emit (pe_meth (pv 1) T.cl_Tent T.p_Tent_mate.m (ok_Tent_mate T) (hr.mono (by decide)) T.p_Tent_mate.b .nil passR (pa_cons (pv 0) pa_nil)))))))), ?_⟩
  refine ⟨_, rfl, _, rfl, p, a, M, ns, wI ws, rfl, ta, hMl, by rw [ha, nv_wI], by rw [wI_len]; omega, fun H1 s1 => ⟨fun _ => ?_, fun z => absurd ((plain_iff.mpr hP).symm.trans z) (by decide)⟩⟩
  refine ⟨_, rfl, a, _, rfl, SqL.of (s1 _ _ ha), fun D hD => ?_⟩
  refine loop_rev (xs := ws.map nV) (fun i σ H2 => ∃ v, σ = [v, some (.ref p)] ∧ Same H1 H2 ∧ H2 D = some (.lst (((backL M ws).take i).map nV))) ⟨none, rfl, Same.new hD, upd_same⟩ ?_ ?_ ?_
  ·rintro i σ H2 _ ⟨v, rfl, sm, h2⟩
   exact SqL.of (sm _ _ (s1 _ _ ha))
  ·rintro i x σ H2 hx ⟨v, rfl, sm, h2⟩
   obtain ⟨q, hq, rfl⟩ : ∃ q, ws.reverse[i]? = some q ∧ x = nV q := by
    rw [← List.map_reverse, List.getElem?_map] at hx
    cases e : ws.reverse[i]? with
    | none => rw [e] at hx; cases hx
    | some y => rw [e] at hx; cases hx; exact ⟨y, rfl, rfl⟩
   obtain ⟨mt, hmt⟩ := hP.has q (List.mem_reverse.mp (List.mem_of_getElem? hq))
   have ta2 := (ta.same s1).same sm
   obtain ⟨dx, cl, na, sp, mt', o, f, b⟩ := id ta2
   have hqM : q < M.length := (List.getElem?_eq_some_iff.mp hmt).1
   dsimp only [gName, tYes]
   rw [if_pos rfl]
   refine ⟨_, rfl, p, dx, _, rfl, b.ins, fl_none _ _ _ _, _, rfl, p, M, ns, q, rfl, ta2, hMl, fun i' y e1 e2 => ?_, fun z => absurd (show (0 : Int) ≤ q ∧ (q : Int) < ns.length by omega) z⟩
   have : i' = q := by omega
   subst this
   rw [hmt] at e2
   cases e2
   refine ⟨_, h2, ?_, _, rfl, Same.add sm hD, ?_⟩
   ·rw [List.length_map, List.length_take, backL_len]; exact small_word (by omega)
   ·rw [upd_same, List.take_add_one, backL_get hq hmt, List.map_append]; rfl
  ·rintro σ H2 ⟨v, rfl, sm, h2⟩
   rw [List.length_map, List.take_of_length_le (by rw [backL_len]; exact Nat.le_refl _)] at h2
   exact k D H2 (s1.trans sm) (s1.free hD) h2
end
end KT
set_option maxHeartbeats 4000000
namespace KT
open PySem L2
theorem Pl.wind {M : List (Option Nat)} {ws vs : List Nat} {m s : Nat} (h : Pl M ws) (hl : vs.length = m * ws.length) (hne : vs ≠ []) (hg : ∀ k, k < vs.length → vs[k]? = ws[(k + s) % ws.length]?) : Pl M vs := by
 have dv : ws.length ∣ vs.length := ⟨m, by rw [hl, Nat.mul_comm]⟩
 have hp : 0 < vs.length := by cases vs with | nil => exact absurd rfl hne | cons _ _ => simp
 refine ⟨hne, fun p hm => ?_, fun k a p ha hp' m' hm' => ?_⟩
 ·obtain ⟨k, hk, e⟩ := List.mem_iff_getElem.mp hm
  have := hg k hk
  rw [List.getElem?_eq_getElem hk, e] at this
  exact h.has p (List.mem_of_getElem? this.symm)
 ·have hk : k < vs.length := (List.getElem?_eq_some_iff.mp ha).1
  rw [hg k hk] at ha
  rw [hg _ (Nat.mod_lt _ hp)] at hp'
  refine h.nxt ((k + s) % ws.length) a p ha ?_ m' hm'
  rw [← hp']
  congr 1
  rw [Nat.mod_add_mod, ← Nat.mod_add_mod ((k + 1) % vs.length), Nat.mod_mod_of_dvd _ dv, Nat.mod_add_mod]
  congr 1
  omega
theorem Pl.turn {M : List (Option Nat)} {ws : List Nat} {m b : Nat} (h : Pl M ws) (hb : b < m * ws.length) : Pl M (rot (List.replicate m ws).flatten b) := by
 have hl := repl_len ws m
 have hrl : (rot (List.replicate m ws).flatten b).length = m * ws.length := by rw [rot_len _ (by omega), hl]
 refine h.wind (m := m) (s := b) hrl (fun z => ?_) fun k hk => ?_
 ·rw [z] at hrl
  simp only [List.length_nil] at hrl
  omega
 ·rw [hrl] at hk
  rw [rot_get (by omega) (by omega), hl, repl_get ws m _ (Nat.mod_lt _ (by omega)), Nat.mod_mod_of_dvd _ ⟨m, Nat.mul_comm _ _⟩]
theorem wI_rot (ws : List Nat) (b : Nat) : rot (wI ws) b = wI (rot ws b) := by
 unfold rot wI; rw [List.map_append, List.map_drop, List.map_take]
theorem rot_rot {α : Type} {ws : List α} {s b : Nat} (hs : s < ws.length) (hb : b < ws.length) : rot (rot ws s) b = rot ws ((s + b) % ws.length) := by
 have hn : 0 < ws.length := by omega
 have hl := rot_len ws (Nat.le_of_lt hs)
 apply List.ext_getElem?
 intro k
 by_cases hk : k < ws.length
 ·rw [rot_get (by rw [hl]; exact hb) (by rw [hl]; exact hk), hl, rot_get hs (Nat.mod_lt _ hn), rot_get (Nat.mod_lt _ hn) hk]
  congr 1
  rw [Nat.mod_add_mod, Nat.add_mod_mod]
  congr 1
  omega
 ·rw [List.getElem?_eq_none (by rw [rot_len _ (by rw [hl]; omega), hl]; omega), List.getElem?_eq_none (by rw [rot_len _ (Nat.le_of_lt (Nat.mod_lt _ hn))]; omega)]
theorem rot_end {α : Type} (ws : List α) : rot ws ws.length = ws := by unfold rot; simp
theorem backL_app (M : List (Option Nat)) (xs ys : List Nat) : backL M (xs ++ ys) = backL M ys ++ backL M xs := by unfold backL; rw [List.reverse_append, List.map_append]
theorem backL_rot {M : List (Option Nat)} {ws : List Nat} {s : Nat} (hs : s ≤ ws.length) : backL M (rot ws s) = rot (backL M ws) (ws.length - s) := by
 have e : backL M ws = backL M (ws.drop s) ++ backL M (ws.take s) := by rw [← backL_app, List.take_append_drop]
 have l : (backL M (ws.drop s)).length = ws.length - s := by rw [backL_len, List.length_drop]
 unfold rot
 rw [backL_app, e, List.drop_left' l, List.take_left' l]
def TurnsOf (M : List (Option Nat)) (ws : List Nat) (x : List Int) : Prop := ∃ b, b < ws.length ∧ (x = wI (rot ws b) ∨ x = wI (rot (backL M ws) b))
theorem has_turn {ws : List Nat} {s : Nat} (hs : s ≤ ws.length) (hn : 0 < ws.length) : (∀ b, b < ws.length → ∃ c, c < ws.length ∧ rot (rot ws s) b = rot ws c) ∧ ∀ c, c < ws.length → ∃ b, b < ws.length ∧ rot ws c = rot (rot ws s) b := by
 by_cases z : s = ws.length
 ·subst z
  rw [rot_end]
  exact ⟨fun b h => ⟨b, h, rfl⟩, fun b h => ⟨b, h, rfl⟩⟩
 have hs : s < ws.length := by omega
 refine ⟨fun b h => ⟨_, Nat.mod_lt _ hn, rot_rot hs h⟩, fun c h => ?_⟩
 refine ⟨(c + (ws.length - s)) % ws.length, Nat.mod_lt _ hn, ?_⟩
 rw [rot_rot hs (Nat.mod_lt _ hn), Nat.add_mod_mod, show s + (c + (ws.length - s)) = c + ws.length by omega, Nat.add_mod_right, Nat.mod_eq_of_lt h]
theorem turns_rot {M : List (Option Nat)} {ws : List Nat} {s : Nat} (hs : s ≤ ws.length) (hn : 0 < ws.length) (x : List Int) : TurnsOf M (rot ws s) x ↔ TurnsOf M ws x := by
 unfold TurnsOf
 rw [rot_len ws hs, backL_rot hs]
 obtain ⟨f1, f2⟩ := has_turn hs hn
 obtain ⟨g1, g2⟩ := has_turn (ws := backL M ws) (s := ws.length - s) (by rw [backL_len]; omega) (by rw [backL_len]; omega)
 rw [backL_len] at g1 g2
 constructor
 ·rintro ⟨b, h, rfl | rfl⟩
  ·obtain ⟨c, hc, e⟩ := f1 b h
   exact ⟨c, hc, .inl (by rw [e])⟩
  ·obtain ⟨c, hc, e⟩ := g1 b h
   exact ⟨c, hc, .inr (by rw [e])⟩
 ·rintro ⟨b, h, rfl | rfl⟩
  ·obtain ⟨c, hc, e⟩ := f2 b h
   exact ⟨c, hc, .inl (by rw [e])⟩
  ·obtain ⟨c, hc, e⟩ := g2 b h
   exact ⟨c, hc, .inr (by rw [e])⟩
theorem turn_rot (ws : List Nat) {b : Nat} (h : b < ws.length) : turnI (wI ws) (b : Int) = wI (rot ws b) := by
 unfold turnI
 rw [wI_len, show ((b : Int) % (ws.length : Int)).toNat = b by rw [← Int.natCast_emod, Nat.mod_eq_of_lt h, Int.toNat_natCast], wI_rot]
theorem least_step {S : List Int → Prop} {a b : List Int} {p q : Addr} (h : HT.IsLeast S a) : HT.IsLeast (fun x => S x ∨ x = b) (if HT.lexLt b a = true then b else a) := by
 by_cases z : HT.lexLt b a = true
 ·rw [if_pos z]
  refine ⟨.inr rfl, fun c hc => ?_⟩
  rcases hc with hc | rfl
  ·cases e : HT.lexLt c b with
   | false => rfl
   | true => rw [← HT.lex_trans c b a e z]; exact (h.2 c hc)
  ·exact HT.lex_irr _
 ·rw [if_neg z]
  refine ⟨.inl h.1, fun c hc => ?_⟩
  rcases hc with hc | rfl
  ·exact h.2 c hc
  ·simpa using z
end KT
set_option maxHeartbeats 4000000
namespace KT
open PySem L2
def sp_least_turn : Sp := fun vs H Q _ => ∃ (a : Addr) (ws : List Nat), vs = [.ref a] ∧ H a = some (.lst (ws.map nV)) ∧ 0 < ws.length ∧ ws.length ≤ 10000 ∧ ∀ (l : Addr) (L : List Int) (H' : Hp), Same H H' → H l = none → H' l = some (.lst (L.map V.int)) → HT.IsLeast (fun x => ∃ b, b < ws.length ∧ x = wI (rot ws b)) L → Q (.ref l) H'
def sp_least (C : Addr) : Sp := fun vs H Q _ => ∃ (p a : Addr) (M : List (Option Nat)) (ns : List Int) (ws : List Nat), vs = [.ref p, .ref a] ∧ TentAt C H p M ns ∧ M.length = ns.length ∧ H a = some (.lst (ws.map nV)) ∧ ws.length ≤ 10000 ∧ Pl M ws ∧ ∀ (l : Addr) (L : List Int) (H' : Hp), Same H H' → H l = none → H' l = some (.lst (L.map V.int)) → HT.IsLeast (TurnsOf M ws) L → Q (.ref l) H'
theorem least_or {S T : List Int → Prop} {a b : List Int} (h : HT.IsLeast S a) (g : HT.IsLeast T b) : HT.IsLeast (fun x => S x ∨ T x) (if HT.lexLt b a = true then b else a) := by
 by_cases z : HT.lexLt b a = true
 ·rw [if_pos z]
  refine ⟨.inr g.1, fun c hc => ?_⟩
  rcases hc with hc | hc
  ·cases e : HT.lexLt c b with
   | false => rfl
   | true => rw [← HT.lex_trans c b a e z]; exact (h.2 c hc)
  ·exact g.2 c hc
 ·have z : HT.lexLt b a = false := by simpa using z
  rw [if_neg (by rw [z]; decide)]
  refine ⟨.inl h.1, fun c hc => ?_⟩
  rcases hc with hc | hc
  ·exact h.2 c hc
  ·exact HT.lex_le z (g.2 c hc)
theorem IsLeast.iff {S T : List Int → Prop} {a : List Int} (h : HT.IsLeast S a) (e : ∀ x, S x ↔ T x) : HT.IsLeast T a := ⟨(e a).mp h.1, fun b hb => h.2 b ((e b).mpr hb)⟩
theorem pick_ref {H : Hp} {p q : Addr} {a b : List Int} {c : Bool} (h1 : H p = some (.lst (a.map V.int))) (h2 : H q = some (.lst (b.map V.int))) : H (if c = true then q else p) = some (.lst ((if c = true then b else a).map V.int)) := by
 cases c <;> assumption
theorem pick_none {H : Hp} {p q : Addr} {c : Bool} (h1 : H p = none) (h2 : H q = none) : H (if c = true then q else p) = none := by
 cases c <;> assumption
theorem turns_or (M : List (Option Nat)) (ws : List Nat) (x : List Int) : ((∃ b, b < ws.length ∧ x = wI (rot ws b)) ∨ ∃ b, b < (backL M ws).length ∧ x = wI (rot (backL M ws) b)) ↔ TurnsOf M ws x := by
 rw [backL_len]
 constructor
 ·rintro (⟨b, h, e⟩ | ⟨b, h, e⟩)
  ·exact ⟨b, h, .inl e⟩
  ·exact ⟨b, h, .inr e⟩
 ·rintro ⟨b, h, e | e⟩
  ·exact .inl ⟨b, h, e⟩
  ·exact .inr ⟨b, h, e⟩
theorem nvmap {ws : List Nat} : ws.map nV = (wI ws).map V.int := nv_wI ws
section
variable {P : Program} {w : World} {K : PySem.W.Frag} {mg : Str → Option Value} {base : Heap} {t : Adr}
theorem sc_least_turn : FnScope ["word", "best", "by"] ["word"] (defScope s_least_turn) := ⟨rfl, rfl, rfl, by decide +kernel, rfl, by decide +kernel, by decide +kernel⟩
theorem ok_least_turn (T : Txt w K mg t) : FnOk P w K mg base (CXr P w) 2 t.f_least_turn t.d_least_turn ["word"] sp_least_turn := by
 refine T.p_least_turn.F.okR sc_least_turn (fun vs H Q E h => ?_) (fun cdv A outer s H vs Q E hr h => ?_)
 ·obtain ⟨a, ws, rfl, _⟩ := h
  rfl
 ·obtain ⟨a, ws, rfl, ha, h0, hl, k⟩ := h
  refine ⟨_, (pss_cons (ps_set (i := 1) sc_least_turn.nd rfl (Or.inl rfl) (pe_callTy call_list_of (by rfl) T.n_list PySem.Pv.boot_list (pa_cons (pv 0) pa_nil)))
   (pss_cons (ps_for PassesOwn.never rfl (pi_range2 rfl T.n_range (pa_cons pe_int (pa_cons (pe_callB call_len_seq (by rfl) T.n_len PySem.boot_len (pa_cons (pv 0) pa_nil)) pa_nil))) (pg_name (i := 2) sc_least_turn.nd rfl (Or.inl rfl)) (pss_one (ps_set (i := 1) sc_least_turn.nd rfl (Or.inl rfl) (pe_callB (call_min2L rfl hr.units) (by rfl) T.n_min PyProof.Rows.boot_min (pa_cons (pv 1) (pa_cons (pe_call (ok_turned T) (hr.mono (by decide)) rfl T.p_turned.g T.p_turned.F.kp T.p_turned.b .nil passR (pa_cons (pv 0) (pa_cons (pv 2) pa_nil))) pa_nil))))))
   (pss_one (ps_ret (pv 1))))), ?_⟩
  refine seq_cut fun nxC hnxC => ?_
  refine ⟨_, rfl, a, _, rfl, .inl (SqL.of ha), fun l hl1 => ?_⟩
  refine hnxC _ _ ?_
  dsimp only [gName]
  have s1 : Same H (upd H l (.lst (ws.map nV))) := Same.new hl1
  have h1 : (upd H l (.lst (ws.map nV))) l = some (.lst ((wI ws).map V.int)) := by rw [upd_same, nvmap]
  generalize upd H l (.lst (ws.map nV)) = H1 at s1 h1 ⊢
  show tSeq (tFor _ _ _) _ _ _ _
  refine seq_post (fun σ H2 => ∃ (p : Addr) (L : List Int) (v : Option V), σ = [some (.ref a), some (.ref p), v] ∧ Same H H2 ∧ H p = none ∧ H2 p = some (.lst (L.map V.int)) ∧ HT.IsLeast (fun x => ∃ b, b < ws.length ∧ x = wI (rot ws b)) L) (fun nx hnx => ?_) ?_
  ·refine ⟨_, rfl, a, _, rfl, .inl (SqL.of (s1 _ _ ha)), _, _, rfl, ⟨by decide, by decide, by rw [List.length_map]; omega, by rw [List.length_map]; omega⟩, ?_⟩
   rw [List.length_map]
   refine for_range (n := ((ws.length : Int) - 1).toNat) (fun i σ H2 => ∃ (p : Addr) (L : List Int) (v : Option V), σ = [some (.ref a), some (.ref p), v] ∧ Same H H2 ∧ H p = none ∧ H2 p = some (.lst (L.map V.int)) ∧ HT.IsLeast (fun x => ∃ b, b < 1 + i ∧ x = wI (rot ws b)) L)
    ⟨l, wI ws, none, rfl, s1, hl1, h1, ⟨0, by omega, by rw [rot_zero]⟩, fun c ⟨b, hb, e⟩ => ?_⟩ ?_ ?_
   ·have : b = 0 := by omega
    subst this
    rw [e, rot_zero]
    exact HT.lex_irr _
   ·rintro i σ H2 hi ⟨p, L, v, rfl, s2, hp, h2, m2⟩
    dsimp only [gName]
    rw [show ((1 : Int) + (i : Int)) = ((1 + i : Nat) : Int) by omega]
    have hb : 1 + i < ws.length := by omega
    refine ⟨_, rfl, _, rfl, _, rfl, a, wI ws, _, rfl, by rw [s2 _ _ ha, nvmap], by rw [wI_len]; omega, fun q H3 s3 hq h3 => ?_⟩
    rw [turn_rot ws hb] at h3
    refine ⟨p, q, L, _, rfl, SqL.of (s3 _ _ h2), SqL.of h3, ?_⟩
    refine ⟨_, _, _, rfl, s2.trans s3, pick_none hp (s2.free hq), pick_ref (s3 _ _ h2) h3, ?_⟩
    refine IsLeast.iff (least_step (p := p) (q := q) m2) fun x => ?_
    constructor
    ·rintro (⟨b, g, e⟩ | rfl)
     ·exact ⟨b, by omega, e⟩
     ·exact ⟨1 + i, by omega, rfl⟩
    ·rintro ⟨b, g, e⟩
     by_cases z : b = 1 + i
     ·subst z; exact .inr e
     ·exact .inl ⟨b, by omega, e⟩
   ·rintro σ H2 ⟨p, L, v, rfl, s2, hp, h2, m2⟩
    refine hnx _ _ ⟨p, L, v, rfl, s2, hp, h2, IsLeast.iff m2 fun x => ?_⟩
    exact ⟨fun ⟨b, g, e⟩ => ⟨b, by omega, e⟩, fun ⟨b, g, e⟩ => ⟨b, by omega, e⟩⟩
  ·rintro σ H2 ⟨p, L, v, rfl, s2, hp, h2, m2⟩
   exact ⟨_, rfl, k p L H2 s2 hp h2 m2⟩
theorem sc_least : FnScope ["tent", "word", "back"] ["tent", "word"] (defScope s_least) := ⟨rfl, rfl, rfl, by decide +kernel, rfl, by decide +kernel, by decide +kernel⟩
theorem ok_least (T : Txt w K mg t) : FnOk P w K mg base (CXr P w) 8 t.f_least t.d_least ["tent", "word"] (sp_least t.C_Tent) := by
 refine T.p_least.F.okX sc_least (fun vs H Q E h => ?_) (fun cdv A outer s H vs Q E hr h => ?_)
 ·obtain ⟨p, a, M, ns, ws, rfl, _⟩ := h
  rfl
 ·obtain ⟨p, a, M, ns, ws, rfl, ta, hMl, ha, hl, hP, k⟩ := h
  have hw0 : 0 < ws.length := by have := hP.ne; cases ws with | nil => exact absurd rfl this | cons _ _ => simp
  refine ⟨_, (pssx_cons (psx_set (i := 2) sc_least.nd rfl (Or.inl rfl) (pex_call (ok_backward T) (hr.mono (by decide)) rfl T.p_backward.g T.p_backward.F.kp T.p_backward.b .nil (pa_cons (pv 0) (pa_cons (pv 1) pa_nil))))
   (pssx_one (psx_of (ps_ret (pe_callB (call_min2L rfl hr.units) (by rfl) T.n_min PyProof.Rows.boot_min (pa_cons (pe_call (ok_least_turn T) (hr.mono (by decide)) rfl T.p_least_turn.g T.p_least_turn.F.kp T.p_least_turn.b .nil passR (pa_cons (pv 1) pa_nil)) (pa_cons (pe_call (ok_least_turn T) (hr.mono (by decide)) rfl T.p_least_turn.g T.p_least_turn.F.kp T.p_least_turn.b .nil passR (pa_cons (pv 2) pa_nil)) pa_nil))))))), ?_⟩
  refine ⟨_, rfl, _, rfl, p, a, M, ns, ws, rfl, ta, hMl, ha, hl, hP, fun b H1 s1 hb h1 => ?_⟩
  refine ⟨_, rfl, a, ws, rfl, s1 _ _ ha, hw0, hl, fun l2 L2 H2 s2 hl2 h2 m2 => ?_⟩
  refine ⟨_, rfl, b, backL M ws, rfl, s2 _ _ h1, by rw [backL_len]; exact hw0, by rw [backL_len]; exact hl, fun l3 L3 H3 s3 hl3 h3 m3 => ?_⟩
  refine ⟨l2, l3, L2, L3, rfl, SqL.of (s3 _ _ h2), SqL.of h3, ?_⟩
  have s13 := s1.trans (s2.trans s3)
  exact k _ _ H3 s13 (pick_none (s1.free hl2) (s1.free (s2.free hl3))) (pick_ref (s3 _ _ h2) h3) (IsLeast.iff (least_or m2 m3) (turns_or M ws))
end
end KT
set_option maxHeartbeats 4000000
namespace KT
open PySem L2
theorem turn_nat (ws : List Int) (d : Nat) : turnI ws (d : Int) = rot ws (d % ws.length) := by
 unfold turnI
 congr 1
theorem plain_ne {M : List (Option Nat)} {ws : List Int} (h : plainB M ws = true) : 0 < ws.length := by
 cases ws with
 | nil => exact absurd h (by unfold plainB; simp)
 | cons _ _ => simp
theorem rot_full (ws : List Int) : rot ws (ws.length % ws.length) = ws := by
 rw [Nat.mod_self]; unfold rot; simp
def sp_times (C : Addr) : Sp := fun vs H Q _ => ∃ (p a : Addr) (M : List (Option Nat)) (ns ws : List Int), vs = [.ref p, .ref a] ∧ TentAt C H p M ns ∧ M.length = ns.length ∧ H a = some (.lst (ws.map V.int)) ∧ ws.length ≤ 100000 ∧ plainB M ws = true ∧ ∀ (H' : Hp) (d : Nat), Same H H' → 1 ≤ d → d ≤ ws.length → rot ws (d % ws.length) = ws → (∀ e, 1 ≤ e → e < d → rot ws (e % ws.length) ≠ ws) → Q (.int ((ws.length / d : Nat) : Int)) H'
section
variable {P : Program} {w : World} {K : PySem.W.Frag} {mg : Str → Option Value} {base : Heap} {t : Adr}
theorem sc_times : FnScope ["tent", "word", "size"] ["tent", "word"] (defScope s_times) := ⟨rfl, rfl, rfl, by decide +kernel, rfl, by decide +kernel, by decide +kernel⟩
theorem ok_times (T : Txt w K mg t) : FnOk P w K mg base (CXr P w) 7 t.f_times t.d_times ["tent", "word"] (sp_times t.C_Tent) := by
 refine T.p_times.F.okX sc_times (fun vs H Q E h => ?_) (fun cdv A outer s H vs Q E hr h => ?_)
 ·obtain ⟨p, a, M, ns, ws, rfl, _⟩ := h
  rfl
 ·obtain ⟨p, a, M, ns, ws, rfl, ta, hMl, ha, hl, hpl, k⟩ := h
  refine ⟨_, (pssx_cons (psx_expr (pex_call (ok_look_thread T) (hr.mono (by decide)) rfl T.p_look_thread.g T.p_look_thread.F.kp T.p_look_thread.b .nil (pa_cons (pv 0) (pa_cons (pv 1) pa_nil))))
   (pssx_cons (psx_of (ps_set (i := 2) sc_times.nd rfl (Or.inl rfl) pe_int))
   (pssx_cons (psx_of (ps_while PassesOwn.never (pt_cmpR (op_neL hr.units) (pe_call (ok_turned T) (hr.mono (by decide)) rfl T.p_turned.g T.p_turned.F.kp T.p_turned.b .nil passR (pa_cons (pv 1) (pa_cons (pv 2) pa_nil))) (pv 1) (nomark _)) (pss_one (ps_aug (i := 2) sc_times.nd rfl (Or.inl rfl) pe_int ip_add))))
   (pssx_one (psx_of (ps_ret (pe_op op_fdiv (pe_callB call_len_seq (by rfl) T.n_len PySem.boot_len (pa_cons (pv 1) pa_nil)) (pv 2)))))))), ?_⟩
  have hp := plain_ne hpl
  refine ⟨_, rfl, _, rfl, p, a, M, ns, ws, rfl, ta, hMl, ha, hl, fun H1 s1 => ⟨fun _ => ?_, fun z => absurd (hpl.symm.trans z) (by decide)⟩⟩
  show tSeq (tWhile _ _) _ _ _ _
  refine seq_post (fun σ H2 => ∃ d : Nat, σ = [some (.ref p), some (.ref a), some (.int d)] ∧ Same H H2 ∧ 1 ≤ d ∧ d ≤ ws.length ∧ rot ws (d % ws.length) = ws ∧ (∀ e, 1 ≤ e → e < d → rot ws (e % ws.length) ≠ ws)) (fun nx hnx => ?_) ?_
  ·refine ⟨fun m σ H2 => ∃ d : Nat, m = ws.length - d ∧ σ = [some (.ref p), some (.ref a), some (.int d)] ∧ Same H H2 ∧ 1 ≤ d ∧ d ≤ ws.length ∧ (∀ e, 1 ≤ e → e < d → rot ws (e % ws.length) ≠ ws), ⟨_, 1, rfl, rfl, s1, Nat.le_refl _, hp, fun e e1 e2 => by omega⟩, ?_⟩
   rintro m σ H2 ⟨d, rfl, rfl, s2, d1, d2, hmin⟩
   refine ⟨_, rfl, _, rfl, a, ws, d, rfl, s2 _ _ ha, hl, fun tl H3 s3 htl h3 => ?_⟩
   rw [turn_nat] at h3
   refine ⟨_, rfl, tl, a, _, ws, rfl, rfl, SqL.of h3, SqL.of ((s2.trans s3) _ _ ha), _, rfl, ?_⟩
   by_cases c : rot ws (d % ws.length) = ws
   ·rw [decide_eq_true c]
    exact iteF (hnx _ _ ⟨d, rfl, s2.trans s3, d1, d2, c, hmin⟩)
   ·rw [decide_eq_false c]
    have : d ≠ ws.length := fun z => c (by rw [z]; exact rot_full ws)
    refine iteT ⟨_, fun σ' H' h => h, ?_⟩
    refine ⟨_, rfl, _, _, rfl, rfl, ws.length - (d + 1), by omega, d + 1, rfl, rfl, s2.trans s3, by omega, by omega, fun e e1 e2 => ?_⟩
    by_cases z : e = d
    ·rw [z]; exact c
    ·exact hmin e e1 (by omega)
  ·rintro σ H2 ⟨d, rfl, s2, d1, d2, hd, hmin⟩
   refine ⟨_, rfl, a, _, rfl, .inl (SqL.of (s2 _ _ ha)), _, rfl, _, _, rfl, rfl, ⟨by omega, by omega⟩, ?_⟩
   have := k H2 d s2 d1 d2 hd hmin
   rw [len_word]
   exact this
end
end KT
set_option maxHeartbeats 4000000
namespace KT
open PySem L2
def sp_truth : Sp := fun vs H Q _ => ∃ b : Bool, vs = [.bl b, .bl b] ∧ Q (.bl true) H
section
variable {P : Program} {w : World} {K : PySem.W.Frag} {mg : Str → Option Value} {base : Heap} {t : Adr}
theorem sc_l_truth : FnScope ["_law_found", "_law_due"] ["_law_found", "_law_due"] (defScope s_l_truth) := ⟨rfl, rfl, rfl, by decide +kernel, rfl, by decide +kernel, by decide +kernel⟩
theorem ok_l_truth (T : Txt w K mg t) : FnOk P w K mg base (CXr P w) 1 t.f_l_truth t.d_l_truth ["_law_found", "_law_due"] sp_truth := by
 refine T.p_l_truth.F.okR sc_l_truth (fun vs H Q E h => ?_) (fun cdv A outer s H vs Q E hr h => ?_)
 ·obtain ⟨b, rfl, _⟩ := h
  rfl
 ·obtain ⟨b, rfl, k⟩ := h
  refine ⟨_, (pss_one (ps_ret (pe_and (pe_callB call_isinst (by rfl) T.n_isinstance PyProof.Rows.boot_isinstance (pa_cons (pv 0) (pa_cons (pe_bltn (v := .ty "bool") (by rfl) T.n_bool PySem.Pv.boot_bool rfl) pa_nil))) (pe_one (pe_cmpR op_eq (pv 0) (pv 1) (nomark _)))))), ?_⟩
  refine ⟨_, rfl, _, "bool", _, true, rfl, TyOf.bl b, kit_same, _, rfl, iteT ?_⟩
  refine ⟨_, rfl, _, rfl, ?_⟩
  cases b <;> exact ⟨rfl, k⟩
end
end KT
set_option maxHeartbeats 4000000
namespace KT
open PySem L2
theorem dN {a b : Nat} : decide (V.int (a : Int) = V.int (b : Int)) = decide (a = b) := by
 by_cases z : a = b
 ·subst z; simp
 ·rw [decide_eq_false z, decide_eq_false (fun y => z (by injection y with y; omega))]
def sp_letter (C : Addr) : Sp := fun vs H Q _ => ∃ (p : Addr) (M : List (Option Nat)) (ns : List Int) (a x m : Nat), vs = [.ref p, .int a, .int x] ∧ TentAt C H p M ns ∧ M.length = ns.length ∧ M[a]? = some (some m) ∧ Q (.str (letS M a x)) H
def sp_letters (C : Addr) : Sp := fun vs H Q _ => ∃ (p a : Addr) (M : List (Option Nat)) (ns : List Int) (ws : List Nat), vs = [.ref p, .ref a] ∧ TentAt C H p M ns ∧ M.length = ns.length ∧ H a = some (.lst (ws.map nV)) ∧ ws.length ≤ 10000 ∧ Pl M ws ∧ ∀ H', Same H H' → Q (.str (Txt.join (Str.ofString "") (letL M ws))) H'
theorem letS_len (M : List (Option Nat)) (a p : Nat) : (letS M a p).length = 1 := by unfold letS; split <;> decide
theorem letL_sum (M : List (Option Nat)) : ∀ l : List (Nat × Nat), ((l.map fun q => letS M q.1 q.2).map (·.length)).sum = l.length
 | [] => rfl
 | q :: r => by rw [List.map_cons, List.map_cons, List.sum_cons, letL_sum M r, letS_len, List.length_cons]; omega
section
variable {P : Program} {w : World} {K : PySem.W.Frag} {mg : Str → Option Value} {base : Heap} {t : Adr}
theorem sc_letter : FnScope ["tent", "ahead", "place"] ["tent", "ahead", "place"] (defScope s_letter) := ⟨rfl, rfl, rfl, by decide +kernel, rfl, by decide +kernel, by decide +kernel⟩
theorem ok_letter (T : Txt w K mg t) : FnOk P w K mg base (CXr P w) 4 t.f_letter t.d_letter ["tent", "ahead", "place"] (sp_letter t.C_Tent) := by
 refine T.p_letter.F.okR sc_letter (fun vs H Q E h => ?_) (fun cdv A outer s H vs Q E hr h => ?_)
 ·obtain ⟨p, M, ns, a, x, m, rfl, _⟩ := h
  rfl
 ·obtain ⟨p, M, ns, a, x, m, rfl, ta, hMl, ha, k⟩ := h
  obtain ⟨dx, cl, na, sp, mt', o, f, b⟩ := id ta
  have haM : a < M.length := (List.getElem?_eq_some_iff.mp ha).1
  refine ⟨_, (pss_one (ps_ret (pe_ifExp (pt_cmpR op_eq (pv 2) (pe_call (ok_after T) (hr.mono (by decide)) rfl T.p_after.g T.p_after.F.kp T.p_after.b .nil passR (pa_cons (pe_meth (pv 0) T.cl_Tent T.p_Tent_mate.m (ok_Tent_mate T) (hr.mono (by decide)) T.p_Tent_mate.b .nil passR (pa_cons (pv 1) pa_nil)) pa_nil)) (nomark _)) pe_str pe_str))), ?_⟩
  refine ⟨_, rfl, _, rfl, p, dx, _, rfl, b.ins, fl_none _ _ _ _, _, rfl, p, M, ns, a, rfl, ta, hMl, fun i y e1 e2 => ?_, fun z => absurd (show (0 : Int) ≤ a ∧ (a : Int) < ns.length by omega) z⟩
  have : i = a := by omega
  subst this
  rw [ha] at e2
  cases e2
  refine ⟨(m : Int), rfl, rfl, _, rfl, ?_⟩
  have e : letS M i x = if x = aftN m then Str.ofString "R" else Str.ofString "L" := by unfold letS; rw [List.getD_eq_getElem?_getD, ha]; rfl
  rw [e] at k
  rw [aftN_eq, dN]
  by_cases z : x = aftN m
  ·rw [if_pos z] at k
   rw [decide_eq_true z]
   exact iteT k
  ·rw [if_neg z] at k
   rw [decide_eq_false z]
   exact iteF k
theorem sc_letters : FnScope ["tent", "word"] ["tent", "word"] (defScope s_letters) := ⟨rfl, rfl, rfl, by decide +kernel, rfl, by decide +kernel, by decide +kernel⟩
theorem ok_letters (T : Txt w K mg t) : FnOk P w K mg base (CXr P w) 7 t.f_letters t.d_letters ["tent", "word"] (sp_letters t.C_Tent) := by
 refine T.p_letters.F.okX sc_letters (fun vs H Q E h => ?_) (fun cdv A outer s H vs Q E hr h => ?_)
 ·obtain ⟨p, a, M, ns, ws, rfl, _⟩ := h
  rfl
 ·obtain ⟨p, a, M, ns, ws, rfl, ta, hMl, ha, hl, hP, k⟩ := h
  refine ⟨_, (pssx_cons (psx_expr (pex_call (ok_look_thread T) (hr.mono (by decide)) rfl T.p_look_thread.g T.p_look_thread.F.kp T.p_look_thread.b .nil (pa_cons (pv 0) (pa_cons (pv 1) pa_nil))))
   (pssx_one (psx_of (ps_ret (pe_bm PySem.F.plainAttrs_str PySem.F.slot_str_join PySem.F.type_str_join mt_join pe_str (pa_cons (pe_compG (ts := ["ahead", "place"]) (fv := [("tent", 0)]) ⟨rfl, by decide +kernel, by decide +kernel, blkFree (by rfl), ⟨⟨rfl, rfl, Or.inl rfl⟩, trivial⟩⟩ rfl (pi_zip rfl T.n_zip (pa_cons (pv 1) (pa_cons (pe_call (ok_turned T) (hr.mono (by decide)) rfl T.p_turned.g T.p_turned.F.kp T.p_turned.b .nil passR (pa_cons (pv 1) (pa_cons pe_int pa_nil))) pa_nil))) (fun _ _ _ _ => (pg_tupK (n := 2) K rfl (pgs_cons (pg_name (i := 0) (show List.Nodup (["ahead", "place", "tent"] : List Str) from by decide +kernel) rfl (Or.inl rfl) (Or.inr rfl)) (pgs_cons (pg_name (i := 1) (show List.Nodup (["ahead", "place", "tent"] : List Str) from by decide +kernel) rfl (Or.inl rfl) (Or.inr rfl)) pgs_nil)))) (fun _ _ _ _ => pts_nil) (fun _ _ _ => rfl) (fun _ _ _ _ _ _ => pb_emit (pe_call (ok_letter T) (hr.mono (by decide)) rfl T.p_letter.g T.p_letter.F.kp T.p_letter.b .nil passR (pa_cons (pv 2) (pa_cons (pv 0) (pa_cons (pv 1) pa_nil)))))) pa_nil)))))), ?_⟩
  have hp : 0 < ws.length := by have := hP.ne; cases ws with | nil => exact absurd rfl this | cons _ _ => simp
  refine ⟨_, rfl, _, rfl, p, a, M, ns, wI ws, rfl, ta, hMl, by rw [ha, nv_wI], by rw [wI_len]; omega, fun H1 s1 => ⟨fun _ => ?_, fun z => absurd ((plain_iff.mpr hP).symm.trans z) (by decide)⟩⟩
  refine ⟨rfl, _, rfl, _, rfl, a, wI ws, 1, rfl, by rw [s1 _ _ ha, nv_wI], by rw [wI_len]; omega, fun tl H2 s2 htl h2 => ?_⟩
  have s02 := s1.trans s2
  have et : (turnI (wI ws) 1).map V.int = (rot ws (1 % ws.length)).map nV := by
   rw [nv_wI]
   congr 1
   unfold turnI
   rw [wI_len, show (1 % (ws.length : Int)).toNat = 1 % ws.length by
    rw [show (1 : Int) = ((1 : Nat) : Int) from rfl, ← Int.natCast_emod, Int.toNat_natCast]]
   unfold rot wI
   rw [List.map_append, List.map_drop, List.map_take]
  rw [et] at h2
  have hrl : (rot ws (1 % ws.length)).length = ws.length := rot_len ws (Nat.le_of_lt (Nat.mod_lt _ hp))
  unfold letL at k
  generalize rot ws (1 % ws.length) = vs at h2 hrl k
  refine ⟨a, tl, _, _, rfl, SqL.of (s02 _ _ ha), SqL.of h2, fun D2 hD2 => ?_⟩
  refine loop_zip (xs := ws.map nV) (ys := vs.map nV) (by rw [List.length_map, List.length_map, hrl]) (fun i σ H3 => ∃ v v', σ = [v, v', some (.ref p)] ∧ Same H2 H3 ∧ H3 D2 = some (.lst ((((ws.zip vs).map fun q => letS M q.1 q.2).take i).map V.str))) ⟨none, none, rfl, Same.new hD2, upd_same⟩ ?_ ?_ ?_
  ·rintro i σ H3 _ ⟨v, v', rfl, s3, h3⟩
   exact ⟨SqL.of (s3 _ _ (s02 _ _ ha)), SqL.of (s3 _ _ h2)⟩
  ·rintro i x y σ H3 q hx hy hq ⟨v, v', rfl, s3, h3⟩
   obtain ⟨x', hx', rfl⟩ := map_some hx
   obtain ⟨y', hy', rfl⟩ := map_some hy
   have s4 : Same H3 (upd H3 q (.tup [nV x', nV y'])) := Same.new hq
   obtain ⟨mt, hmt⟩ := hP.has x' (List.mem_of_getElem? hx')
   refine ⟨q, _, rfl, SqT.of upd_same, rfl, _, _, rfl, _, _, rfl, rfl, ?_⟩
   dsimp only [tYes]
   rw [if_pos rfl]
   refine ⟨_, rfl, _, rfl, _, rfl, p, M, ns, x', y', mt, rfl, ((ta.same s02).same s3).same s4, hMl, hmt, _, s4 _ _ h3, ?_, _, _, rfl, Same.add (s3.trans s4) hD2, ?_⟩
   ·rw [List.length_map, List.length_take, List.length_map, List.length_zip, sizeLine_eq]
    omega
   ·have : ((ws.zip vs).map fun q => letS M q.1 q.2)[i]? = some (letS M x' y') := by
     rw [List.getElem?_map, List.getElem?_zip_eq_some (z := (x', y')) |>.mpr ⟨hx', hy'⟩]
     rfl
    rw [upd_same, List.take_add_one, this, List.map_append]
    rfl
  rintro σ H3 ⟨v, v', rfl, s3, h3⟩
  have hpl : ((ws.zip vs).map fun q => letS M q.1 q.2).length = ws.length := by rw [List.length_map, List.length_zip]; omega
  rw [List.length_map, List.take_of_length_le (Nat.le_of_eq hpl)] at h3
  exact ⟨_, D2, _, rfl, rfl, SqL.of h3, by decide, by rw [letL_sum, List.length_map, List.length_zip]; omega, k _ (s02.trans s3)⟩
end
end KT
set_option maxHeartbeats 4000000
namespace KT
open PySem L2
def dI (ks : List Int) (f : Int → Int) : List (Key × V) := ks.map fun x => ((Sum.inl x : Key), V.int (f x))
theorem dI_val {ks : List Int} {f : Int → Int} {y : Int} (h : y ∈ ks) : valV (dI ks f) (Sum.inl y) = some (V.int (f y)) := by unfold dI; rw [val_map, if_pos h]
theorem dI_old {ks : List Int} {f : Int → Int} {y v : Int} (h : y ∈ ks) : putK (dI ks f) (Sum.inl y) (V.int v) = dI ks fun x => if x = y then v else f x := by
 unfold dI
 rw [put_old h]
 apply List.map_congr_left
 intro x _
 by_cases c : x = y
 ·simp [c]
 ·simp [c]
theorem dI_new {ks : List Int} {f : Int → Int} {y v : Int} (h : y ∉ ks) : putK (dI ks f) (Sum.inl y) (V.int v) = dI (ks ++ [y]) fun x => if x = y then v else f x := by
 unfold dI
 rw [put_new h, List.map_append]
 congr 1
 ·apply List.map_congr_left
  intro x hx
  have : x ≠ y := fun z => h (z ▸ hx)
  simp [this]
 ·simp
theorem dI_len {ks : List Int} {f : Int → Int} : (dI ks f).length = ks.length := by unfold dI; simp
theorem dI_congr {ks : List Int} {f g : Int → Int} (h : ∀ x ∈ ks, f x = g x) : dI ks f = dI ks g := by
 unfold dI
 exact List.map_congr_left fun x hx => by rw [h x hx]
def crS (ns : List Int) (ws : List Nat) (x : Int) : Int := ((ws.countP fun q => decide (ns[q]? = some x) : Nat) : Int)
def crP (M : List (Option Nat)) (ws : List Nat) (p : Nat) : Int := ((ws.countP fun q => decide (q = p ∨ M[q]? = some (some p)) : Nat) : Int)
theorem cross_eq {M : List (Option Nat)} {ns : List Int} (td : TD M ns) {p : Nat} {x : Int} (hp : ns[p]? = some x) (ws : List Nat) : crS ns ws x = crP M ws p := by
 unfold crS crP
 congr 1
 apply List.countP_congr
 intro q _
 rw [decide_eq_true_eq, decide_eq_true_eq]
 constructor
 ·intro h
  rcases td.eqv q p x h hp with e | e
  ·exact .inl e
  ·exact .inr e
 ·rintro (rfl | e)
  ·exact hp
  ·rw [← td.eqm q p e]; exact hp
theorem cnt_step {α : Type} {f : α → Bool} {l : List α} {i : Nat} {x : α} (h : l[i]? = some x) : (l.take (i + 1)).countP f = (l.take i).countP f + if f x = true then 1 else 0 := by
 rw [List.take_add_one, h, List.countP_append]
 simp [List.countP_cons]
theorem crS_step {ns : List Int} {ws : List Nat} {i q : Nat} {y : Int} (h : ws[i]? = some q) (hy : ns[q]? = some y) (x : Int) : crS ns (ws.take (i + 1)) x = if x = y then crS ns (ws.take i) y + 1 else crS ns (ws.take i) x := by
 unfold crS
 rw [cnt_step h]
 by_cases c : x = y
 ·subst c
  rw [if_pos rfl, if_pos (decide_eq_true hy)]
  omega
 ·rw [if_neg c, if_neg (fun z => c (by have := of_decide_eq_true z; rw [hy] at this; cases this; rfl))]
  omega
theorem crP_step {M : List (Option Nat)} {ws : List Nat} {i q m : Nat} (h : ws[i]? = some q) (hm : M[q]? = some (some m)) (ne : q ≠ m) (p : Nat) : crP M (ws.take (i + 1)) p = if p = m then crP M (ws.take i) m + 1 else if p = q then crP M (ws.take i) q + 1 else crP M (ws.take i) p := by
 unfold crP
 rw [cnt_step h]
 by_cases c : p = m
 ·subst c
  rw [if_pos rfl, if_pos (decide_eq_true (.inr hm))]
  omega
 ·rw [if_neg c]
  by_cases d : p = q
  ·subst d
   rw [if_pos rfl, if_pos (decide_eq_true (.inl rfl))]
   omega
  ·rw [if_neg d, if_neg]
   ·omega
   ·intro z
    rcases of_decide_eq_true z with e | e
    ·exact d e.symm
    ·rw [hm] at e; cases e; exact c rfl
def rowI (n : Nat) (f : Nat → Int) : List V := (List.range n).map fun p => V.int (f p)
theorem rowI_len (n : Nat) (f : Nat → Int) : (rowI n f).length = n := by unfold rowI; simp
theorem rowI_at {n p : Nat} {f : Nat → Int} (h : p < n) : (rowI n f)[p]? = some (V.int (f p)) := by unfold rowI; rw [List.getElem?_map, List.getElem?_range h]; rfl
theorem rowI_set {n p : Nat} {f : Nat → Int} {v : Int} : (rowI n f).set p (V.int v) = rowI n fun q => if q = p then v else f q := by
 apply List.ext_getElem?
 intro i
 by_cases hi : i < n
 ·rw [rowI_at hi, List.getElem?_set, rowI_len]
  by_cases c : p = i
  ·subst c; simp [hi]
  ·rw [if_neg c, rowI_at hi, if_neg (fun z => c z.symm)]
 ·rw [List.getElem?_eq_none (by rw [List.length_set, rowI_len]; omega), List.getElem?_eq_none (by rw [rowI_len]; omega)]
theorem rowI_congr {n : Nat} {f g : Nat → Int} (h : ∀ p, f p = g p) : rowI n f = rowI n g := by unfold rowI; exact List.map_congr_left fun p _ => by rw [h p]
def sp_tally (C : Addr) : Sp := fun vs H Q _ => ∃ (p a : Addr) (M : List (Option Nat)) (ns : List Int) (ws : List Nat), vs = [.ref p, .ref a] ∧ TentAt C H p M ns ∧ TD M ns ∧ ns.length < 64 ∧ H a = some (.lst (ws.map nV)) ∧ ws.length ≤ 10000 ∧ Pl M ws ∧
 ∀ (l : Addr) (ks : List Int) (H' : Hp), Same H H' → H l = none → ks.Perm (keys ns ns.length) → H' l = some (.dK (dI ks (crS ns ws))) → Q (.ref l) H'
def sp_l_tally : Sp := fun vs H Q _ => ∃ (m a : Addr) (M : List (Option Nat)) (ws : List Nat), vs = [.ref m, .ref a] ∧ H m = some (.lst (M.map mV)) ∧ M.length ≤ 1000 ∧ (∀ (i j : Nat), M[i]? = some (some j) → M[j]? = some (some i) ∧ i ≠ j) ∧ H a = some (.lst (ws.map nV)) ∧ Pl M ws ∧
 ∀ (l : Addr) (H' : Hp), Same H H' → H l = none → H' l = some (.lst (rowI M.length (crP M ws))) → Q (.ref l) H'
def sp_named : Sp := fun vs H Q _ => ∃ (r c : Addr) (ns : List Int) (f : Nat → Int), vs = [.ref r, .ref c] ∧ RowsAt H r ns ∧ ns.length ≤ 1000 ∧ H c = some (.lst (rowI ns.length f)) ∧
 ∀ (l : Addr) (g : Int → Int) (H' : Hp), Same H H' → H l = none → H' l = some (.dK (dI (keys ns ns.length) g)) → (∀ x ∈ keys ns ns.length, ∃ p, ns[p]? = some x ∧ g x = f p) → Q (.ref l) H'
def sp_l_dict : Sp := fun vs H Q _ => ∃ (p q : Addr) (ks ks' : List Int) (f g : Int → Int), vs = [.ref p, .ref q] ∧ H p = some (.dK (dI ks f)) ∧ H q = some (.dK (dI ks' g)) ∧ p ≠ q ∧ ks.Perm ks' ∧ (∀ x ∈ ks, f x = g x) ∧ Q (.bl true) H
theorem upd_upd {H : Hp} {a : Addr} {o u : HO} (h : H a = some o) : upd (upd H a u) a o = H := by
 funext b
 by_cases c : b = a
 ·subst c; rw [upd_same, h]
 ·rw [upd_ne c, upd_ne c]
section
variable {P : Program} {w : World} {K : PySem.W.Frag} {mg : Str → Option Value} {base : Heap} {t : Adr}
theorem sc_l_dict : FnScope ["_law_found", "_law_due", "_law_seam_here"] ["_law_found", "_law_due"] (defScope s_l_dict) := ⟨rfl, rfl, rfl, by decide +kernel, rfl, by decide +kernel, by decide +kernel⟩
theorem ok_l_dict (T : Txt w K mg t) : FnOk P w K mg base (CXr P w) 2 t.f_l_dict t.d_l_dict ["_law_found", "_law_due"] sp_l_dict := by
 refine T.p_l_dict.F.okR sc_l_dict (fun vs H Q E h => ?_) (fun cdv A outer s H vs Q E hr h => ?_)
 ·obtain ⟨p, q, ks, ks', f, g, rfl, _⟩ := h
  rfl
 ·obtain ⟨p, q, ks, ks', f, g, rfl, hp, hq, hpq, hk, hf, k⟩ := h
  have hu := hu_of hr
  refine ⟨_, (pss_cons (ps_if (PW.pt (pw_or (pt_not (pt_val (pe_callB call_isinst (by rfl) T.n_isinstance PyProof.Rows.boot_isinstance (pa_cons (pv 0) (pa_cons (pe_bltn (v := .ty "dict") (by rfl) T.n_dict PySem.Pv.boot_dict rfl) pa_nil))))) (pw_or1 (pt_cmpR op_ne (pe_callB call_lenD (by rfl) T.n_len PySem.boot_len (pa_cons (pv 0) pa_nil)) (pe_callB call_lenD (by rfl) T.n_len PySem.boot_len (pa_cons (pv 1) pa_nil)) (nomark _))))) (pss_one (ps_ret pe_bl)) pss_nil)
   (pss_cons (ps_thaw (ps_for PassesOwn.never rfl (pi_dict (pv 0)) (pg_name (i := 2) sc_l_dict.nd rfl (Or.inl rfl)) (pss_cons (ps_if (PW.pt (pw_or (pt_not (pt_val (pe_call (ok_l_whole T) (hr.mono (by decide)) rfl T.p_l_whole.g T.p_l_whole.F.kp T.p_l_whole.b .nil passR (pa_cons (pv 2) pa_nil)))) (pw_or1 (pt_cmp (pc_dnotin hu (pv 2) (pv 1)) (by with_unfolding_all rfl))))) (pss_one (ps_ret pe_bl)) pss_nil)
   (pss_one (ps_if (PW.pt (pw_or (pt_not (pt_val (pe_call (ok_l_whole T) (hr.mono (by decide)) rfl T.p_l_whole.g T.p_l_whole.F.kp T.p_l_whole.b .nil passR (pa_cons (pe_dget hu (pv 0) (pv 2) (fun _ _ => rfl)) pa_nil)))) (pw_or1 (pt_cmpR op_ne (pe_dget hu (pv 0) (pv 2) (fun _ _ => rfl)) (pe_dget hu (pv 1) (pv 2) (fun _ _ => rfl)) (nomark _))))) (pss_one (ps_ret pe_bl)) pss_nil)))))
   (pss_one (ps_ret pe_bl)))), ?_⟩
  refine seq_cut fun nxC hnxC => ?_
  refine ⟨_, rfl, _, "dict", _, true, rfl, TyOf.dK hp, kit_same, _, rfl, iteF ?_⟩
  refine ⟨_, rfl, p, _, rfl, hp, _, rfl, q, _, rfl, hq, rfl, _, rfl, ?_⟩
  rw [dI_len, dI_len, hk.length_eq, decide_eq_true rfl]
  refine iteF ?_
  refine hnxC _ _ ?_
  refine seq_post (fun σ H' => H' = H) (fun nx hnx => ?_) ?_
  ·refine ⟨_, rfl, p, _, rfl, .inl ⟨hp, fun o => ?_⟩⟩
   have hq' : (upd H p (.frz o (.dK (dI ks f)))) q = some (.dK (dI ks' g)) := by rw [upd_ne (Ne.symm hpq)]; exact hq
   refine for_keys (fun i σ H9 => ∃ v, σ = [some (.ref p), some (.ref q), v] ∧ H9 = upd H p (.frz o (.dK (dI ks f)))) ⟨_, rfl, rfl⟩ ?_ ?_ ?_
   ·rintro i σ H9 _ ⟨v, rfl, rfl⟩
    exact upd_same
   ·rintro i k0 x0 σ H9 hk0 ⟨v, rfl, rfl⟩
    obtain ⟨y, hy, rfl⟩ : ∃ y, y ∈ ks ∧ k0 = Sum.inl y := by
     unfold dI at hk0
     rw [List.getElem?_map] at hk0
     cases e : ks[i]? with
     | none => rw [e] at hk0; cases hk0
     | some z => rw [e] at hk0; cases hk0; exact ⟨z, List.mem_of_getElem? e, rfl⟩
    have d1 : DGet (upd H p (.frz o (.dK (dI ks f)))) p (.int y) (some (V.int (f y))) := .inl ⟨_, Sum.inl y, .inr ⟨o, upd_same⟩, rfl, (dI_val hy).symm⟩
    have d2 : DGet (upd H p (.frz o (.dK (dI ks f)))) q (.int y) (some (V.int (g y))) := .inl ⟨_, Sum.inl y, .inl hq', rfl, (dI_val (hk.mem_iff.mp hy)).symm⟩
    dsimp only [gName, kV]
    refine seq_cut fun nxC hnxC => ?_
    refine ⟨_, rfl, y, rfl, _, rfl, iteF ?_⟩
    refine ⟨_, rfl, _, rfl, q, _, rfl, d2, _, rfl, iteF ?_⟩
    refine hnxC _ _ ?_
    refine ⟨_, rfl, _, rfl, p, _, rfl, d1, _, rfl, _, rfl, iteF ?_⟩
    refine ⟨_, rfl, _, rfl, p, _, rfl, d1, _, rfl, _, rfl, q, _, rfl, d2, rfl, _, rfl, ?_⟩
    rw [hf y hy, decide_eq_true rfl]
    exact iteF ⟨_, rfl, rfl⟩
   ·rintro σ H9 ⟨v, rfl, rfl⟩
    refine ⟨p, o, _, upd_same, fun o' u z => ?_, ?_⟩
    ·have z : H p = some (.frz o' u) := z
     rw [hp] at z; cases z
    ·rw [upd_upd hp]; exact hnx _ _ rfl
  ·rintro σ H' rfl
   exact k
theorem sc_l_tally : FnScope ["_law_mates", "_law_word", "_law_counts", "_law_p"] ["_law_mates", "_law_word"] (defScope s_l_tally) := ⟨rfl, rfl, rfl, by decide +kernel, rfl, by decide +kernel, by decide +kernel⟩
theorem ok_l_tally (T : Txt w K mg t) : FnOk P w K mg base (CXr P w) 1 t.f_l_tally t.d_l_tally ["_law_mates", "_law_word"] sp_l_tally := by
 refine T.p_l_tally.F.okR sc_l_tally (fun vs H Q E h => ?_) (fun cdv A outer s H vs Q E hr h => ?_)
 ·obtain ⟨m, a, M, ws, rfl, _⟩ := h
  rfl
 ·obtain ⟨m, a, M, ws, rfl, hm, hl, inv, ha, hP, k⟩ := h
  refine ⟨_, (pss_cons (ps_set (i := 2) sc_l_tally.nd rfl (Or.inl rfl) (pe_op op_rep (pe_lst (pa_cons pe_int pa_nil)) (pe_callB call_len_seq (by rfl) T.n_len PySem.boot_len (pa_cons (pv 0) pa_nil))))
   (pss_cons (ps_for PassesOwn.never rfl (pi_list (pv 1)) (pg_name (i := 3) sc_l_tally.nd rfl (Or.inl rfl)) (pss_cons (ps_augS (pv 2) (pv 3) get_list pe_int ip_add set_list)
   (pss_one (ps_augS (pv 2) (pe_ix ix_list (pv 0) (pv 3) (fun _ _ => rfl)) get_list pe_int ip_add set_list))))
   (pss_one (ps_ret (pv 2))))), ?_⟩
  refine seq_cut fun nxC hnxC => ?_
  refine ⟨(by show 1 ≤ sizeLine; decide), fun z hz => ?_⟩
  have sz : Same H (upd H z (.lst [.int 0])) := Same.new hz
  refine ⟨_, rfl, m, _, rfl, .inl (SqL.of (sz _ _ hm)), z, _, _, rfl, rfl, upd_same, by omega, by rw [List.length_map]; omega, ?_, fun c hc => ?_⟩
  ·show 1 * _ ≤ _
   rw [List.length_map, Int.toNat_natCast, Nat.one_mul]
   exact small_word (by omega)
  refine hnxC _ _ ?_
  dsimp only [gName]
  have e0 : (List.replicate ((((M.map mV).length : Nat) : Int)).toNat [V.int 0]).flatten = rowI M.length (crP M (ws.take 0)) := by
   rw [List.length_map, Int.toNat_natCast, List.flatten_replicate_singleton]
   unfold rowI crP
   apply List.ext_getElem?
   intro i
   rw [List.getElem?_map, List.getElem?_replicate]
   by_cases hi : i < M.length
   ·rw [if_pos hi, List.getElem?_range hi]; rfl
   ·rw [if_neg hi, List.getElem?_eq_none (by rw [List.length_range]; omega)]; rfl
  rw [e0]
  have sc1 := Same.add (o := .lst (rowI M.length (crP M (ws.take 0)))) sz (sz.free hc)
  have hc0 := sz.free hc
  have h1 : (upd (upd H z (.lst [.int 0])) c (.lst (rowI M.length (crP M (ws.take 0))))) c = some (.lst (rowI M.length (crP M (ws.take 0)))) := upd_same
  generalize upd (upd H z (.lst [.int 0])) c (.lst (rowI M.length (crP M (ws.take 0)))) = H1 at sc1 h1 ⊢
  refine seq_post (fun σ H' => σ.getD 2 none = some (.ref c) ∧ Same H H' ∧ H' c = some (.lst (rowI M.length (crP M ws)))) (fun nx hnx => ?_) ?_
  ·refine ⟨_, rfl, a, rfl, ⟨_, SqL.of (sc1 _ _ ha)⟩, ?_⟩
   refine for_list (xs := ws.map nV) (fun i σ H2 => ∃ v, σ = [some (.ref m), some (.ref a), some (.ref c), v] ∧ Same H H2 ∧ H2 c = some (.lst (rowI M.length (crP M (ws.take i))))) ⟨_, rfl, sc1, h1⟩ ?_ ?_ ?_
   ·rintro i σ H2 _ ⟨v, rfl, s2, h2⟩
    exact SqL.of (s2 _ _ ha)
   ·rintro i x σ H2 hx ⟨v, rfl, s2, h2⟩
    obtain ⟨q, hq, rfl⟩ := map_some hx
    obtain ⟨mt, hmt⟩ := hP.has q (List.mem_of_getElem? hq)
    obtain ⟨hmb, hne⟩ := inv q mt hmt
    have hqM : q < M.length := (List.getElem?_eq_some_iff.mp hmt).1
    have htM : mt < M.length := (List.getElem?_eq_some_iff.mp hmb).1
    dsimp only [gName]
    refine seq_cut fun nxC hnxC => ?_
    refine ⟨_, rfl, _, rfl, c, _, q, _, rfl, rfl, SqL.of h2, rowI_at hqM, _, _, rfl, rfl, c, _, _, q, rfl, rfl, h2, (by rw [rowI_len]; exact ixN_nat hqM), ?_⟩
    refine hnxC _ _ ?_
    rw [rowI_set]
    have s3 := Same.add (o := .lst (rowI M.length fun p => if p = q then crP M (ws.take i) q + 1 else crP M (ws.take i) p)) s2 hc0
    have h3 : (upd H2 c (.lst (rowI M.length fun p => if p = q then crP M (ws.take i) q + 1 else crP M (ws.take i) p))) c = some (.lst (rowI M.length fun p => if p = q then crP M (ws.take i) q + 1 else crP M (ws.take i) p)) := upd_same
    generalize upd H2 c (.lst (rowI M.length fun p => if p = q then crP M (ws.take i) q + 1 else crP M (ws.take i) p)) = H3 at s3 h3 ⊢
    refine ⟨_, rfl, _, rfl, _, rfl, m, _, _, _, rfl, rfl, SqL.of (s3 _ _ hm), map_at hmt, c, _, mt, _, rfl, rfl, SqL.of h3, rowI_at htM, _, _, rfl, rfl, c, _, _, mt, rfl, rfl, h3, (by rw [rowI_len]; exact ixN_nat htM), ?_⟩
    refine ⟨_, rfl, Same.add s3 hc0, ?_⟩
    rw [upd_same, rowI_set]
    congr 2
    refine rowI_congr fun p => ?_
    rw [crP_step hq hmt hne p, if_neg (Ne.symm hne)]
   ·rintro σ H2 ⟨v, rfl, s2, h2⟩
    rw [List.length_map, List.take_length] at h2
    exact hnx _ _ ⟨rfl, s2, h2⟩
  ·rintro σ H2 ⟨e, s2, h2⟩
   have e2 : ∃ u, σ[2]? = some (some u) ∧ u = V.ref c := by
    cases z : σ[2]? with
    | none => rw [List.getD_eq_getElem?_getD, z] at e; cases e
    | some y => rw [List.getD_eq_getElem?_getD, z] at e; cases e; exact ⟨_, rfl, rfl⟩
   obtain ⟨u, e3, rfl⟩ := e2
   exact ⟨_, e3, k c H2 s2 hc0 h2⟩
end
end KT
set_option maxHeartbeats 4000000
namespace KT
open PySem L2
def flP (M : List (Option Nat)) (ws : List Nat) (p : Nat) : Int := ((ws.countP fun q => decide (q = p) : Nat) : Int) - ((ws.countP fun q => decide (M[q]? = some (some p)) : Nat) : Int)
theorem flP_step {M : List (Option Nat)} {ws : List Nat} {i q m : Nat} (h : ws[i]? = some q) (hm : M[q]? = some (some m)) (ne : q ≠ m) (p : Nat) : flP M (ws.take (i + 1)) p = if p = m then flP M (ws.take i) m - 1 else if p = q then flP M (ws.take i) q + 1 else flP M (ws.take i) p := by
 unfold flP
 rw [cnt_step h, cnt_step h]
 by_cases c : p = m
 ·subst c
  rw [if_pos rfl, if_pos (decide_eq_true hm), if_neg (by rw [decide_eq_false ne]; decide)]
  omega
 ·rw [if_neg c]
  have hn : ¬ M[q]? = some (some p) := fun z => by rw [hm] at z; cases z; exact c rfl
  by_cases d : p = q
  ·subst d
   rw [if_pos rfl, if_pos (decide_eq_true rfl), if_neg (by rw [decide_eq_false hn]; decide)]
   omega
  ·rw [if_neg d, if_neg (by rw [decide_eq_false (fun z => d z.symm)]; decide), if_neg (by rw [decide_eq_false hn]; decide)]
   omega
def sp_all_places (C : Addr) : Sp := fun vs H Q _ => ∃ (p : Addr) (M : List (Option Nat)) (ns : List Int), vs = [.ref p] ∧ TentAt C H p M ns ∧ ns.length ≤ 1000 ∧ ∀ l, H l = none → Q (.ref l) (upd H l (.lst ((List.range ns.length).map nV)))
def sp_flow (C : Addr) : Sp := fun vs H Q _ => ∃ (p a : Addr) (M : List (Option Nat)) (ns : List Int) (ws : List Nat), vs = [.ref p, .ref a] ∧ TentAt C H p M ns ∧ M.length = ns.length ∧ M.length ≤ 1000 ∧ InvM M ∧ H a = some (.lst (ws.map nV)) ∧ ws.length ≤ 10000 ∧ Pl M ws ∧ ∀ (l : Addr) (H' : Hp), Same H H' → H l = none → H' l = some (.lst (rowI M.length (flP M ws))) → Q (.ref l) H'
section
variable {P : Program} {w : World} {K : PySem.W.Frag} {mg : Str → Option Value} {base : Heap} {t : Adr}
theorem sc_Tent_all_places : FnScope ["self"] ["self"] (defScope s_Tent_all_places) := ⟨rfl, rfl, rfl, by decide +kernel, rfl, by decide +kernel, by decide +kernel⟩
theorem ok_Tent_all_places (T : Txt w K mg t) : FnOk P w K mg base (CXr P w) 1 t.f_Tent_all_places t.d_Tent_all_places ["self"] (sp_all_places t.C_Tent) := by
 refine T.p_Tent_all_places.F.okR sc_Tent_all_places (fun vs H Q E h => ?_) (fun cdv A outer s H vs Q E hr h => ?_)
 ·obtain ⟨p, M, ns, rfl, _⟩ := h
  rfl
 ·obtain ⟨p, M, ns, rfl, ⟨dx, cl, na, sp, mt, o, f, b⟩, hl, k⟩ := h
  refine ⟨_, (pss_one (ps_ret (pe_listRange rfl T.n_list rfl T.n_range rfl (pa_cons (pe_callB call_len_seq (by rfl) T.n_len PySem.boot_len (pa_cons (pe_fld (pv 0) rfl) pa_nil)) pa_nil)))), ?_⟩
  exact ⟨_, rfl, p, _, dx, _, _, rfl, b.ins, T.cl_Tent, T.a_Tent_names_at, fl_names .., na, _, rfl, .inl (SqL.of b.names), ns.length, by rw [List.length_map], hl, fun l hl' => k l hl'⟩
theorem sc_flow : FnScope ["tent", "word", "surplus", "place"] ["tent", "word"] (defScope s_flow) := ⟨rfl, rfl, rfl, by decide +kernel, rfl, by decide +kernel, by decide +kernel⟩
theorem ok_flow (T : Txt w K mg t) : FnOk P w K mg base (CXr P w) 7 t.f_flow t.d_flow ["tent", "word"] (sp_flow t.C_Tent) := by
  refine T.p_flow.F.okX sc_flow (fun vs H Q E h => ?_) (fun cdv A outer s H vs Q E hr h => ?_)
  · obtain ⟨p, a, M, ns, ws, rfl, _⟩ := h
    rfl
  · obtain ⟨p, a, M, ns, ws, rfl, ta, hMl, h1000, inv, ha, hl, hP, k⟩ := h
    refine ⟨_, (pssx_cons (psx_expr (pex_call (ok_look_thread T) (hr.mono (by decide)) rfl T.p_look_thread.g T.p_look_thread.F.kp T.p_look_thread.b .nil (pa_cons (pv 0) (pa_cons (pv 1) pa_nil))))
      (pssx_cons (psx_of (ps_setCompG (ts := ["place"]) (fv := []) (i := 2) ⟨rfl, by decide +kernel, by decide +kernel, blkFree (by rfl), trivial⟩ rfl sc_flow.nd rfl rfl (by rfl) (pi_list (pe_meth0 (pv 0) T.cl_Tent T.p_Tent_all_places.m (ok_Tent_all_places T) (hr.mono (by decide)) T.p_Tent_all_places.b .nil passR)) (fun _ _ _ _ => (pg_name (i := 0) (show List.Nodup (["place"] : List Str) from by decide +kernel) rfl (Or.inl rfl) (Or.inr rfl))) (fun _ _ _ _ => pts_nil) (fun _ _ _ => rfl) (fun _ _ _ _ _ _ => pb_emit pe_int)))
      (pssx_cons (psx_of (ps_for PassesOwn.never rfl (pi_list (pv 1)) (pg_name (i := 3) sc_flow.nd rfl (Or.inl rfl)) (pss_cons (ps_augS (pv 2) (pv 3) get_list pe_int ip_add set_list)
      (pss_one (ps_augS (pv 2) (pe_meth (pv 0) T.cl_Tent T.p_Tent_mate.m (ok_Tent_mate T) (hr.mono (by decide)) T.p_Tent_mate.b .nil passR (pa_cons (pv 3) pa_nil)) get_list pe_int ip_sub set_list)))))
      (pssx_one (psx_of (ps_ret (pv 2))))))), ?_⟩
    refine ⟨_, rfl, _, rfl, p, a, M, ns, wI ws, rfl, ta, hMl, by rw [ha, nv_wI], by rw [wI_len]; omega, fun H1 s1 => ⟨fun _ => ?_, fun z => absurd ((plain_iff.mpr hP).symm.trans z) (by decide)⟩⟩
    have ta1 := ta.same s1
    obtain ⟨dx, cl, na, sp, mt', oo, ff, bb⟩ := id ta1
    refine ⟨_, rfl, p, dx, _, rfl, bb.ins, fl_none _ _ _ _, p, M, ns, rfl, ta1, by omega, fun l hl0 => ?_⟩
    have s2 : Same H (upd H1 l (.lst ((List.range ns.length).map nV))) := Same.add s1 (s1.free hl0)
    have h2 : (upd H1 l (.lst ((List.range ns.length).map nV))) l = some (.lst ((List.range ns.length).map nV)) := upd_same
    generalize upd H1 l (.lst ((List.range ns.length).map nV)) = H2 at s2 h2
    clear bb
    refine ⟨l, rfl, ⟨_, SqL.of h2⟩, fun c hc => ?_⟩
    have hc0 := s2.free hc
    refine loop_list (xs := (List.range ns.length).map nV) (fun i σ H3 => ∃ v, σ = [v] ∧ Same H2 H3 ∧ H3 c = some (.lst (List.replicate i (V.int 0)))) ⟨none, rfl, Same.new hc, upd_same⟩ ?_ ?_ ?_
    · rintro i σ H3 _ ⟨v, rfl, sm, h3⟩
      exact SqL.of (sm _ _ h2)
    · rintro i y σ H3 hy ⟨v, rfl, sm, h3⟩
      have hi : i < ns.length := by have := (List.getElem?_eq_some_iff.mp hy).1; rw [List.length_map, List.length_range] at this; exact this
      dsimp only [gName, tYes]
      rw [if_pos rfl]
      refine ⟨_, h3, by rw [List.length_replicate]; exact small1000 (by omega), _, rfl, Same.add sm hc, ?_⟩
      rw [upd_same, List.replicate_succ']
    rintro σ H3 ⟨v, rfl, s3, h3⟩
    have e0 : List.replicate ((List.range ns.length).map nV).length (V.int 0) = rowI M.length (flP M (ws.take 0)) := by
      rw [List.length_map, List.length_range, ← hMl]
      unfold rowI flP
      apply List.ext_getElem?
      intro i
      rw [List.getElem?_map, List.getElem?_replicate]
      by_cases hi : i < M.length
      · rw [if_pos hi, List.getElem?_range hi]; rfl
      · rw [if_neg hi, List.getElem?_eq_none (by rw [List.length_range]; omega)]; rfl
    rw [e0] at h3
    have s03 := s2.trans s3
    dsimp only [gName]
    refine ⟨_, rfl, a, rfl, ⟨_, SqL.of (s03 _ _ ha)⟩, ?_⟩
    refine for_list (xs := ws.map nV) (fun i σ H4 => ∃ v, σ = [some (.ref p), some (.ref a), some (.ref c), v] ∧ Same H H4 ∧ H4 c = some (.lst (rowI M.length (flP M (ws.take i))))) ⟨_, rfl, s03, h3⟩ ?_ ?_ ?_
    · rintro i σ H4 _ ⟨v, rfl, s4, h4⟩
      exact SqL.of (s4 _ _ ha)
    · rintro i y σ H4 hy ⟨v, rfl, s4, h4⟩
      obtain ⟨q, hq, rfl⟩ := map_some hy
      obtain ⟨mt, hmt⟩ := hP.has q (List.mem_of_getElem? hq)
      obtain ⟨hmb, hne⟩ := inv q mt hmt
      have hqM : q < M.length := (List.getElem?_eq_some_iff.mp hmt).1
      have htM : mt < M.length := (List.getElem?_eq_some_iff.mp hmb).1
      dsimp only [gName]
      refine ⟨_, rfl, _, rfl, c, _, q, _, rfl, rfl, SqL.of h4, rowI_at hqM, _, _, rfl, rfl, c, _, _, q, rfl, rfl, h4, (by rw [rowI_len]; exact ixN_nat hqM), ?_⟩
      rw [rowI_set]
      have s5 := Same.add (o := .lst (rowI M.length fun p => if p = q then flP M (ws.take i) q + 1 else flP M (ws.take i) p)) s4 hc0
      have h5 : (upd H4 c (.lst (rowI M.length fun p => if p = q then flP M (ws.take i) q + 1 else flP M (ws.take i) p))) c = some (.lst (rowI M.length fun p => if p = q then flP M (ws.take i) q + 1 else flP M (ws.take i) p)) := upd_same
      generalize upd H4 c (.lst (rowI M.length fun p => if p = q then flP M (ws.take i) q + 1 else flP M (ws.take i) p)) = H5 at s5 h5 ⊢
      have ta5 := ta.same s5
      obtain ⟨dx, cl, na, sp, mt', oo, ff, bb⟩ := id ta5
      refine ⟨_, rfl, _, rfl, p, dx, _, rfl, bb.ins, fl_none _ _ _ _, _, rfl, p, M, ns, q, rfl, ta5, hMl, fun i' y e1 e2 => ?_, fun z => absurd (show (0 : Int) ≤ q ∧ (q : Int) < ns.length by omega) z⟩
      have : i' = q := by omega
      subst this
      rw [hmt] at e2
      cases e2
      refine ⟨c, _, mt, _, rfl, rfl, SqL.of h5, rowI_at htM, _, _, rfl, rfl, c, _, _, mt, rfl, rfl, h5, (by rw [rowI_len]; exact ixN_nat htM), ?_⟩
      refine ⟨_, rfl, Same.add s5 hc0, ?_⟩
      rw [upd_same, rowI_set]
      congr 2
      refine rowI_congr fun p => ?_
      rw [flP_step hq hmt hne p, if_neg (Ne.symm hne)]
    · rintro σ H4 ⟨v, rfl, s4, h4⟩
      rw [List.length_map, List.take_length] at h4
      exact ⟨_, rfl, k c H4 s4 hc0 h4⟩
end
end KT
set_option maxHeartbeats 4000000
namespace KT
open PySem L2
theorem small9 {n : Nat} (h : n ≤ 100000) : n < sizeLine := by rw [sizeLine_eq]; omega
theorem flat_nat (l : List Nat) : (l.map nV).all flatV = true := by rw [List.all_eq_true]; intro v hv; obtain ⟨x, _, rfl⟩ := List.mem_map.mp hv; rfl
theorem eqV_nat {x y : Nat} : eqV (nV y) (nV x) = decide (y = x) := by
 show decide ((y : Int) = (x : Int)) = _
 by_cases z : y = x
 ·subst z; simp
 ·rw [decide_eq_false z, decide_eq_false (by omega)]
theorem inV_nat {x : Nat} {l : List Nat} : inV (nV x) (l.map nV) = decide (x ∈ l) := by
 unfold inV
 rw [List.any_map, Bool.eq_iff_iff, List.any_eq_true, decide_eq_true_eq]
 constructor
 ·rintro ⟨y, hy, e⟩
  have e : eqV (nV y) (nV x) = true := e
  rw [eqV_nat, decide_eq_true_eq] at e
  rw [← e]; exact hy
 ·intro h
  refine ⟨x, h, ?_⟩
  show eqV (nV x) (nV x) = true
  rw [eqV_nat, decide_eq_true rfl]
theorem dN3 {a b : Nat} : decide (V.int ((a : Int) / 3) = V.int ((b : Int) / 3)) = decide (a / 3 = b / 3) := by
 rw [div3, div3]; exact dN
theorem rot1_len (ks : List Nat) : (rot ks (1 % ks.length)).length = ks.length := by
 by_cases z : ks.length = 0
 ·have : ks = [] := List.length_eq_zero_iff.mp z
  subst this; rfl
 ·exact rot_len _ (Nat.le_of_lt (Nat.mod_lt _ (by omega)))
theorem turn1 (ks : List Nat) : (turnI (wI ks) 1).map V.int = (rot ks (1 % ks.length)).map nV := by
 rw [nv_wI]
 congr 1
 unfold turnI
 rw [wI_len, show (1 % (ks.length : Int)).toNat = 1 % ks.length by
  rw [show (1 : Int) = ((1 : Nat) : Int) from rfl, ← Int.natCast_emod, Int.toNat_natCast]]
 unfold rot wI
 rw [List.map_append, List.map_drop, List.map_take]
theorem val_glN {left : Bool} {a b z : Nat} : (valV (glV left a b) (Sum.inl (z : Int))).getD (nV z) = nV (mvN left a b z) := by
 rw [show nV z = V.int (z : Int) from rfl, val_gl, ← mvN_eq]; rfl
theorem val_glM {left : Bool} {a b z : Nat} : (valV (glV left a b) (Sum.inl (z : Int))).getD (mV (some z)) = nV (mvN left a b z) := val_glN
theorem keepB_in {a b q : Nat} : (!decide (q ∈ [a, b])) = keepB a b q := by
 unfold keepB
 by_cases h1 : q = a
 ·subst h1; simp
 ·by_cases h2 : q = b
  ·subst h2; simp
  ·simp [h1, h2]
def sp_cross : Sp := fun vs H Q _ => ∃ (o : Addr) (a b e f : Nat), vs = [.ref o, .int e, .int f] ∧ H o = some (.lst ([a, b].map nV)) ∧ ∀ (l : Addr) (H' : Hp), Same H H' → H' l = some (.lst ((crossL a b e f).map nV)) → Q (.ref l) H'
def sp_pulled (C : Addr) : Sp := fun vs H Q _ => ∃ (p wd : Addr) (M : List (Option Nat)) (ns : List Int) (x : Int) (left : Bool) (a b : Nat) (ws : List Nat), vs = [.ref p, .int x, .str (wayS left), .ref wd] ∧ TentAt C H p M ns ∧ TD M ns ∧ x ∈ keys ns ns.length ∧ pl ns ns.length x = [a, b] ∧ a / 3 ≠ b / 3 ∧ H wd = some (.lst (ws.map nV)) ∧ ws.length ≤ 5000 ∧ Pl M ws ∧
 ∀ (l : Addr) (H' : Hp), Same H H' → H l = none → H' l = some (.lst ((pullL M left a b (pairsL (keptL a b ws))).map nV)) → Q (.ref l) H'
def sp_l_pull : Sp := fun vs H Q _ => ∃ (m gl wd : Addr) (M : List (Option Nat)) (left : Bool) (a b : Nat) (ws : List Nat), vs = [.ref m, .int a, .ref gl, .ref wd] ∧ H m = some (.lst (M.map mV)) ∧ M[a]? = some (some b) ∧ a / 3 ≠ b / 3 ∧ InvM M ∧
 H gl = some (.lst (((List.range M.length).map fun (z : Nat) => mvI left a b (z : Int)).map V.int)) ∧ H wd = some (.lst (ws.map nV)) ∧ ws.length ≤ 5000 ∧ Pl M ws ∧
 ∀ (l : Addr) (H' : Hp), Same H H' → H l = none → H' l = some (.lst ((pullL M left a b (pairsL (keptL a b ws))).map nV)) → Q (.ref l) H'
section
variable {P : Program} {w : World} {K : PySem.W.Frag} {mg : Str → Option Value} {base : Heap} {t : Adr}
theorem sc_crossing_between : FnScope ["own", "entry", "leaving"] ["own", "entry", "leaving"] (defScope s_crossing_between) := ⟨rfl, rfl, rfl, by decide +kernel, rfl, by decide +kernel, by decide +kernel⟩
theorem ok_crossing_between (T : Txt w K mg t) : FnOk P w K mg base (CXr P w) 2 t.f_crossing_between t.d_crossing_between ["own", "entry", "leaving"] sp_cross := by
 refine T.p_crossing_between.F.okR sc_crossing_between (fun vs H Q E h => ?_) (fun cdv A outer s H vs Q E hr h => ?_)
 ·obtain ⟨o, a, b, e, f, rfl, _⟩ := h
  rfl
 ·obtain ⟨o, a, b, e, f, rfl, ho, k⟩ := h
  refine ⟨_, (pss_cons (ps_if (pt_cmpR op_eq (pe_call (ok_cloth_of T) (hr.mono (by decide)) rfl T.p_cloth_of.g T.p_cloth_of.F.kp T.p_cloth_of.b .nil passR (pa_cons (pv 1) pa_nil)) (pe_call (ok_cloth_of T) (hr.mono (by decide)) rfl T.p_cloth_of.g T.p_cloth_of.F.kp T.p_cloth_of.b .nil passR (pa_cons (pv 2) pa_nil)) (nomark _)) (pss_one (ps_ret (pe_lst pa_nil))) pss_nil)
   (pss_one (ps_ret (pe_compG (ts := ["place"]) (fv := [("entry", 1)]) ⟨rfl, by decide +kernel, by decide +kernel, blkFree (by rfl), ⟨⟨rfl, rfl, Or.inl rfl⟩, trivial⟩⟩ rfl (pi_list (pv 0)) (fun _ _ _ _ => (pg_name (i := 0) (show List.Nodup (["place", "entry"] : List Str) from by decide +kernel) rfl (Or.inl rfl) (Or.inr rfl))) (fun _ _ _ _ => (pts_one (pt_cmpR op_eq (pe_call (ok_cloth_of T) (hr.mono (by decide)) rfl T.p_cloth_of.g T.p_cloth_of.F.kp T.p_cloth_of.b .nil passR (pa_cons (pv 0) pa_nil)) (pe_call (ok_cloth_of T) (hr.mono (by decide)) rfl T.p_cloth_of.g T.p_cloth_of.F.kp T.p_cloth_of.b .nil passR (pa_cons (pv 1) pa_nil)) (nomark _)))) (fun _ _ _ => rfl) (fun _ _ _ _ _ _ => pb_emit (pv 0)))))), ?_⟩
  refine ⟨_, rfl, _, rfl, _, rfl, _, rfl, rfl, _, rfl, ?_⟩
  rw [dN3]
  unfold crossL at k
  by_cases z : e / 3 = f / 3
  ·rw [if_pos z] at k
   rw [decide_eq_true z]
   exact iteT ⟨Nat.zero_le _, fun l hl => k l _ (Same.new hl) upd_same⟩
  ·rw [if_neg z] at k
   rw [decide_eq_false z]
   refine iteF ?_
   dsimp only [tNext]
   refine ⟨_, rfl, o, rfl, ⟨_, SqL.of ho⟩, fun D hD => ?_⟩
   refine loop_list (xs := [a, b].map nV) (fun i σ H1 => ∃ v, σ = [v, some (.int e)] ∧ Same H H1 ∧ H1 D = some (.lst ((([a, b].take i).filter fun q => decide (q / 3 = e / 3)).map nV))) ⟨none, rfl, Same.new hD, upd_same⟩ ?_ ?_ ?_
   ·rintro i σ H1 _ ⟨v, rfl, sm, h1⟩
    exact SqL.of (sm _ _ ho)
   ·rintro i y σ H1 hy ⟨v, rfl, sm, h1⟩
    obtain ⟨q, hq, rfl⟩ := map_some hy
    have hi : i < 2 := (List.getElem?_eq_some_iff.mp hq).1
    have lt : ((([a, b].take i).filter fun q => decide (q / 3 = e / 3)).map nV).length < sizeLine := by
     rw [List.length_map]
     have h1 := List.length_filter_le (fun q => decide (q / 3 = e / 3)) ([a, b].take i)
     rw [List.length_take] at h1
     exact small9 (by omega)
    dsimp only [gName]
    refine ⟨_, rfl, _, rfl, _, rfl, _, rfl, rfl, _, rfl, ?_⟩
    show if decide (V.int ((q : Int) / 3) = V.int ((e : Int) / 3)) = true then _ else _
    rw [dN3]
    by_cases c : q / 3 = e / 3
    ·rw [decide_eq_true c]
     refine iteT ⟨_, rfl, _, h1, lt, _, rfl, Same.add sm hD, ?_⟩
     rw [upd_same, flt_step hq, if_pos (decide_eq_true c), List.map_append]; rfl
    ·rw [decide_eq_false c]
     refine iteF ⟨_, rfl, sm, ?_⟩
     rw [h1, flt_step hq, if_neg (by rw [decide_eq_false c]; decide)]
   rintro σ H1 ⟨v, rfl, sm, h1⟩
   exact k D H1 sm h1
theorem sc_pulled : FnScope ["tent", "seam", "way", "word", "goals", "own", "kept", "told", "ahead", "following", "entry"] ["tent", "seam", "way", "word"] (defScope s_pulled) := ⟨rfl, rfl, rfl, by decide +kernel, rfl, by decide +kernel, by decide +kernel⟩
theorem ok_pulled (T : Txt w K mg t) : FnOk P w K mg base (CXr P w) 7 t.f_pulled t.d_pulled ["tent", "seam", "way", "word"] (sp_pulled t.C_Tent) := by
  refine T.p_pulled.F.okX sc_pulled (fun vs H Q E h => ?_) (fun cdv A outer s H vs Q E hr h => ?_)
  · obtain ⟨p, wd, M, ns, x, left, a, b, ws, rfl, _⟩ := h
    rfl
  · obtain ⟨p, wd, M, ns, x, left, a, b, ws, rfl, ta, td, hk, hpl, hab, hw, hwl, hP, k⟩ := h
    have hu := hu_of hr
    have hMl : M.length = ns.length := td.len.symm
    refine ⟨_, (pssx_cons (psx_set (i := 4) sc_pulled.nd rfl (Or.inl rfl) (pex_call (ok_shifts T) (hr.mono (by decide)) rfl T.p_shifts.g T.p_shifts.F.kp T.p_shifts.b .nil (pa_cons (pv 0) (pa_cons (pv 1) (pa_cons (pv 2) pa_nil)))))
      (pssx_cons (psx_expr (pex_call (ok_look_thread T) (hr.mono (by decide)) rfl T.p_look_thread.g T.p_look_thread.F.kp T.p_look_thread.b .nil (pa_cons (pv 0) (pa_cons (pv 3) pa_nil))))
      (pssx_cons (psx_of (ps_set (i := 5) sc_pulled.nd rfl (Or.inr rfl) (pe_meth (pv 0) T.cl_Tent T.p_Tent_places.m (ok_Tent_places T) (hr.mono (by decide)) T.p_Tent_places.b .nil passR (pa_cons (pv 1) pa_nil))))
      (pssx_cons (psx_of (ps_setCompG (ts := ["place"]) (fv := [("own", 5)]) (i := 6) ⟨rfl, by decide +kernel, by decide +kernel, blkFree (by rfl), ⟨⟨rfl, rfl, Or.inl rfl⟩, trivial⟩⟩ rfl sc_pulled.nd rfl rfl (by rfl) (pi_list (pv 3)) (fun _ _ _ _ => (pg_name (i := 0) (show List.Nodup (["place", "own"] : List Str) from by decide +kernel) rfl (Or.inl rfl) (Or.inr rfl))) (fun _ _ _ _ => (pts_one (pt_cmpR (op_notIn_seqK K) (pv 0) (pv 1) (by with_unfolding_all rfl)))) (fun _ _ _ => rfl) (fun _ _ _ _ _ _ => pb_emit (pv 0))))
      (pssx_cons (psx_of (ps_set (i := 7) sc_pulled.nd rfl (Or.inl rfl) (pe_lst pa_nil)))
      (pssx_cons (psx_of (ps_for PassesOwn.never rfl (pi_zip rfl T.n_zip (pa_cons (pv 6) (pa_cons (pe_call (ok_turned T) (hr.mono (by decide)) rfl T.p_turned.g T.p_turned.F.kp T.p_turned.b .nil passR (pa_cons (pv 6) (pa_cons pe_int pa_nil))) pa_nil))) (pg_tup rfl (pgs_cons (pg_name (i := 8) sc_pulled.nd rfl (Or.inl rfl)) (pgs_cons (pg_name (i := 9) sc_pulled.nd rfl (Or.inl rfl)) pgs_nil))) (pss_cons (ps_set (i := 10) sc_pulled.nd rfl (Or.inl rfl) (pe_meth (pv 0) T.cl_Tent T.p_Tent_mate.m (ok_Tent_mate T) (hr.mono (by decide)) T.p_Tent_mate.b .nil passR (pa_cons (pv 8) pa_nil)))
      (pss_cons (ps_expr (pe_bm PySem.F.plainAttrs_list PySem.F.slot_list_append PySem.F.type_list_append mt_append (pv 7) (pa_cons (pe_dget2 hu (pv 4) (pv 8) (pv 8) ⟨rfl, rfl, rfl, rfl⟩) pa_nil)))
      (pss_one (ps_expr (pe_bm PySem.F.plainAttrs_list PySem.F.slot_list_extend PySem.F.type_list_extend mt_extend (pv 7) (pa_cons (pe_call (ok_crossing_between T) (hr.mono (by decide)) rfl T.p_crossing_between.g T.p_crossing_between.F.kp T.p_crossing_between.b .nil passR (pa_cons (pv 5) (pa_cons (pe_dget2 hu (pv 4) (pv 10) (pv 10) ⟨rfl, rfl, rfl, rfl⟩) (pa_cons (pe_dget2 hu (pv 4) (pv 9) (pv 9) ⟨rfl, rfl, rfl, rfl⟩) pa_nil)))) pa_nil))))))))
      (pssx_one (psx_of (ps_ret (pv 7)))))))))), ?_⟩
    refine ⟨_, rfl, _, rfl, _, rfl, p, M, ns, x, wayS left, rfl, ta, td, Wrong.free td hk hpl hab fun H1 s1 d hd0 hd => ?_⟩
    rw [way_isL] at hd
    refine ⟨_, rfl, _, rfl, p, wd, M, ns, wI ws, rfl, ta.same s1, hMl, by rw [s1 _ _ hw, nv_wI], by rw [wI_len]; omega, fun H2 s2 => ⟨fun _ => ?_, fun z => absurd ((plain_iff.mpr hP).symm.trans z) (by decide)⟩⟩
    have s02 := s1.trans s2
    have hd2 := s2 _ _ hd
    have ta2 := ta.same s02
    obtain ⟨dx, cl, na, sp, mt', oo, ff, bb⟩ := id ta2
    refine ⟨_, rfl, p, dx, _, rfl, bb.ins, fl_none _ _ _ _, _, rfl, p, M, ns, x, rfl, ta2, fun _ o ho => ?_, fun z => absurd hk z⟩
    rw [hpl]
    have s03 : Same H (upd H2 o (.lst ([a, b].map nV))) := Same.add s02 (s02.free ho)
    have hd3 : (upd H2 o (.lst ([a, b].map nV))) d = some (.dK (glV left a b)) := by rw [upd_ne (ne_of_none hd2 ho)]; exact hd2
    have ho3 : (upd H2 o (.lst ([a, b].map nV))) o = some (.lst ([a, b].map nV)) := upd_same
    generalize upd H2 o (.lst ([a, b].map nV)) = H3 at s03 hd3 ho3
    clear bb ta2 s02 hd2 s2 hd s1
    dsimp only [gName]
    refine ⟨_, rfl, wd, rfl, ⟨_, SqL.of (s03 _ _ hw)⟩, fun D hD => ?_⟩
    refine loop_list (xs := ws.map nV) (fun i σ H4 => ∃ v, σ = [v, some (.ref o)] ∧ Same H3 H4 ∧ H4 D = some (.lst (((ws.take i).filter (keepB a b)).map nV))) ⟨none, rfl, Same.new hD, upd_same⟩ ?_ ?_ ?_
    · rintro i σ H4 _ ⟨v, rfl, sm, h4⟩
      exact SqL.of (sm _ _ (s03 _ _ hw))
    · rintro i y σ H4 hy ⟨v, rfl, sm, h4⟩
      obtain ⟨q, hq, rfl⟩ := map_some hy
      have hi : i < ws.length := (List.getElem?_eq_some_iff.mp hq).1
      have lt : (((ws.take i).filter (keepB a b)).map nV).length < sizeLine := by
        rw [List.length_map]
        have h1 := List.length_filter_le (keepB a b) (ws.take i)
        rw [List.length_take] at h1
        exact small9 (by omega)
      dsimp only [gName]
      refine ⟨_, rfl, _, rfl, o, _, rfl, .inl (SqL.of (sm _ _ ho3)), rfl, flat_nat _, _, rfl, ?_⟩
      show if (if true = true then !inV (nV q) ([a, b].map nV) else inV (nV q) ([a, b].map nV)) = true then _ else _
      rw [if_pos rfl, inV_nat, keepB_in]
      cases hb : keepB a b q with
      | true =>
        refine iteT ⟨_, rfl, _, h4, lt, _, rfl, Same.add sm hD, ?_⟩
        rw [upd_same, flt_step hq, if_pos hb, List.map_append]; rfl
      | false =>
        refine iteF ⟨_, rfl, sm, ?_⟩
        rw [h4, flt_step hq, if_neg (by rw [hb]; decide)]
    rintro σ H4 ⟨v, rfl, s34, h4⟩
    rw [List.length_map, List.take_length] at h4
    have hkl : (keptL a b ws).length ≤ 5000 := Nat.le_trans (List.length_filter_le _ _) hwl
    have hkm : ∀ q ∈ keptL a b ws, q ∈ ws := fun q hq => (List.mem_filter.mp hq).1
    have h4 : H4 D = some (.lst ((keptL a b ws).map nV)) := h4
    generalize keptL a b ws = ks at h4 hkl hkm k
    have s04 := s03.trans s34
    have hd4 := s34 _ _ hd3
    have ho4 := s34 _ _ ho3
    dsimp only [gName]
    refine ⟨Nat.zero_le _, fun tl htl => ?_⟩
    have htl0 := s04.free htl
    have hot : o ≠ tl := ne_of_none ho4 htl
    have hDt : D ≠ tl := ne_of_none h4 htl
    have s05 : Same H (upd H4 tl (.lst [])) := Same.add s04 htl0
    have hs45 : Same H4 (upd H4 tl (.lst [])) := Same.new htl
    have h5t : (upd H4 tl (.lst [])) tl = some (.lst ((pullL M left a b ((pairsL ks).take 0)).map nV)) := upd_same
    generalize upd H4 tl (.lst []) = H5 at s05 hs45 h5t
    have hd5 := hs45 _ _ hd4
    have ho5 := hs45 _ _ ho4
    have hk5 := hs45 _ _ h4
    clear hs45 hd4 ho4 h4 s34 hd3 ho3 s03 s04 hD
    dsimp only [gName]
    refine ⟨_, rfl, _, rfl, D, wI ks, 1, rfl, by rw [hk5, nv_wI], by rw [wI_len]; omega, fun tr H6 s6 htr h6 => ?_⟩
    rw [turn1] at h6
    have hrt : tr ≠ tl := fun z => by rw [z, h5t] at htr; cases htr
    have hrl := rot1_len ks
    have hpair : ∀ (i h f : Nat), ks[i]? = some h → (rot ks (1 % ks.length))[i]? = some f → (pairsL ks)[i]? = some (h, f) := fun i h f e1 e2 => by unfold pairsL; rw [List.getElem?_zip_eq_some]; exact ⟨e1, e2⟩
    have hpl2 := pairs_len ks
    generalize rot ks (1 % ks.length) = vs at h6 hrl hpair
    have hd6 := s6 _ _ hd5
    have ho6 := s6 _ _ ho5
    have hk6 := s6 _ _ hk5
    refine ⟨D, tr, _, _, rfl, SqL.of hk6, SqL.of h6, ?_⟩
    refine for_zip (xs := ks.map nV) (ys := vs.map nV) (by rw [List.length_map, List.length_map, hrl]) (fun i σ H7 => ∃ (v8 v9 v10 : Option V), σ = [some (.ref p), some (.int x), some (.str (wayS left)), some (.ref wd), some (.ref d), some (.ref o), some (.ref D), some (.ref tl), v8, v9, v10] ∧ Same H H7 ∧ H7 d = some (.dK (glV left a b)) ∧ H7 o = some (.lst ([a, b].map nV)) ∧ H7 D = some (.lst (ks.map nV)) ∧ H7 tr = some (.lst (vs.map nV)) ∧ H7 tl = some (.lst ((pullL M left a b ((pairsL ks).take i)).map nV))) ⟨none, none, none, rfl, s05.trans s6, hd6, ho6, hk6, h6, s6 _ _ h5t⟩ ?_ ?_ ?_
    · rintro i σ H7 _ ⟨v8, v9, v10, rfl, s7, hd7, ho7, hk7, hr7, ht7⟩
      exact ⟨SqL.of hk7, SqL.of hr7⟩
    · rintro i y z σ H7 q hy hz hq ⟨v8, v9, v10, rfl, s7, hd7, ho7, hk7, hr7, ht7⟩
      obtain ⟨hh, hhe, rfl⟩ := map_some hy
      obtain ⟨f, hfe, rfl⟩ := map_some hz
      have hi : i < ks.length := (List.getElem?_eq_some_iff.mp hhe).1
      obtain ⟨m, hm⟩ := hP.has hh (hkm hh (List.mem_of_getElem? hhe))
      have hhM : hh < M.length := (List.getElem?_eq_some_iff.mp hm).1
      have emt : mtN M hh = m := by unfold mtN; rw [List.getD_eq_getElem?_getD, hm]; rfl
      have hlen := pullL_len M left a b ((pairsL ks).take i)
      rw [List.length_take] at hlen
      have hcl := crossL_len a b (mvN left a b m) (mvN left a b f)
      have sq : Same H7 (upd H7 q (.tup [nV hh, nV f])) := Same.new hq
      have s8 := s7.trans sq
      have hq8 : (upd H7 q (.tup [nV hh, nV f])) q = some (.tup [nV hh, nV f]) := upd_same
      have hd8 := sq _ _ hd7
      have ho8 := sq _ _ ho7
      have hk8 := sq _ _ hk7
      have hr8 := sq _ _ hr7
      have ht8 := sq _ _ ht7
      generalize upd H7 q (.tup [nV hh, nV f]) = H8 at s8 hq8 hd8 ho8 hk8 hr8 ht8
      clear sq hd7 ho7 hk7 hr7 ht7 s7 hq
      refine ⟨q, _, rfl, SqT.of hq8, rfl, _, _, rfl, _, _, rfl, rfl, ?_⟩
      have ta8 := ta.same s8
      obtain ⟨dx, cl, na, sp, mt', oo, ff, bb⟩ := id ta8
      refine ⟨_, rfl, p, dx, _, rfl, bb.ins, fl_none _ _ _ _, _, rfl, p, M, ns, hh, rfl, ta8, hMl, fun i' y e1 e2 => ?_, fun z => absurd (show (0 : Int) ≤ hh ∧ (hh : Int) < ns.length by omega) z⟩
      have : i' = hh := by omega
      subst this
      rw [hm] at e2
      cases e2
      refine ⟨_, rfl, .inl ⟨rfl, _, SqL.of ht8⟩, _, rfl, d, rfl, .inl ⟨_, .inl hd8⟩, _, rfl, _, rfl, _, DGet.k (k := Sum.inl (i' : Int)) hd8, tl, _, _, rfl, rfl, ht8, (by rw [List.length_map, sizeLine_eq]; omega), ?_⟩
      rw [val_glN]
      have s9 : Same H (upd H8 tl (.lst ((pullL M left a b ((pairsL ks).take i)).map nV ++ [nV (mvN left a b i')]))) := Same.add s8 htl0
      have ht9 : (upd H8 tl (.lst ((pullL M left a b ((pairsL ks).take i)).map nV ++ [nV (mvN left a b i')]))) tl = some (.lst ((pullL M left a b ((pairsL ks).take i) ++ [mvN left a b i']).map nV)) := by rw [upd_same, List.map_append]; rfl
      have hdt : d ≠ tl := fun z => by rw [z, ht8] at hd8; cases hd8
      have hd9 : (upd H8 tl (.lst ((pullL M left a b ((pairsL ks).take i)).map nV ++ [nV (mvN left a b i')]))) d = some (.dK (glV left a b)) := by rw [upd_ne hdt]; exact hd8
      have ho9 : (upd H8 tl (.lst ((pullL M left a b ((pairsL ks).take i)).map nV ++ [nV (mvN left a b i')]))) o = some (.lst ([a, b].map nV)) := by rw [upd_ne hot]; exact ho8
      have hk9 : (upd H8 tl (.lst ((pullL M left a b ((pairsL ks).take i)).map nV ++ [nV (mvN left a b i')]))) D = some (.lst (ks.map nV)) := by rw [upd_ne hDt]; exact hk8
      have hr9 : (upd H8 tl (.lst ((pullL M left a b ((pairsL ks).take i)).map nV ++ [nV (mvN left a b i')]))) tr = some (.lst (vs.map nV)) := by rw [upd_ne hrt]; exact hr8
      show _
      generalize upd H8 tl (.lst ((pullL M left a b ((pairsL ks).take i)).map nV ++ [nV (mvN left a b i')])) = H9 at s9 ht9 hd9 ho9 hk9 hr9
      refine ⟨_, rfl, .inl ⟨rfl, _, SqL.of ht9⟩, _, rfl, _, rfl, d, rfl, .inl ⟨_, .inl hd9⟩, _, rfl, _, rfl, _, DGet.k (k := Sum.inl (m : Int)) hd9, _, rfl, d, rfl, .inl ⟨_, .inl hd9⟩, _, rfl, _, rfl, _, DGet.k (k := Sum.inl (f : Int)) hd9, ?_⟩
      rw [val_glM, val_glN]
      refine ⟨o, a, b, mvN left a b m, mvN left a b f, rfl, ho9, fun l HA sA hA => ?_⟩
      refine ⟨tl, l, _, _, rfl, rfl, sA _ _ ht9, hA, ?_, ?_⟩
      · rw [List.length_map, List.length_map, List.length_append, List.length_singleton, sizeLine_eq]; omega
      · refine ⟨_, _, _, rfl, Same.add (s9.trans sA) htl0, by rw [upd_ne hdt]; exact sA _ _ hd9, by rw [upd_ne hot]; exact sA _ _ ho9, by rw [upd_ne hDt]; exact sA _ _ hk9, by rw [upd_ne hrt]; exact sA _ _ hr9, ?_⟩
        rw [upd_same, pullL_step (hpair i _ f hhe hfe), ← List.map_append]
        unfold pullAt
        rw [emt, List.append_assoc]
        rfl
    · rintro σ H7 ⟨v8, v9, v10, rfl, s7, hd7, ho7, hk7, hr7, ht7⟩
      rw [List.length_map, List.take_of_length_le (by omega)] at ht7
      exact ⟨_, rfl, k tl H7 s7 htl0 ht7⟩
end
end KT
set_option maxHeartbeats 4000000
namespace KT
open PySem L2
theorem goal_at {left : Bool} {a b n h : Nat} (hh : h < n) : atI (((List.range n).map fun (z : Nat) => mvI left a b (z : Int)).map V.int) (h : Int) = some (nV (mvN left a b h)) := by
 refine (map_at (i := h) (x := mvI left a b h) ?_).trans ?_
 ·rw [List.getElem?_map, List.getElem?_range hh]; rfl
 ·rw [← mvN_eq]; rfl
section
variable {P : Program} {w : World} {K : PySem.W.Frag} {mg : Str → Option Value} {base : Heap} {t : Adr}
theorem sc_l_pull : FnScope ["_law_mates", "_law_place", "_law_goals_here", "_law_word", "_law_kept", "_law_row", "_law_k", "_law_side", "_law_goal"] ["_law_mates", "_law_place", "_law_goals_here", "_law_word"] (defScope s_l_pull) := ⟨rfl, rfl, rfl, by decide +kernel, rfl, by decide +kernel, by decide +kernel⟩
theorem ok_l_pull (T : Txt w K mg t) : FnOk P w K mg base (CXr P w) 1 t.f_l_pull t.d_l_pull ["_law_mates", "_law_place", "_law_goals_here", "_law_word"] sp_l_pull := by
  refine T.p_l_pull.F.okR sc_l_pull (fun vs H Q E h => ?_) (fun cdv A outer s H vs Q E hr h => ?_)
  · obtain ⟨m, gl, wd, M, left, a, b, ws, rfl, _⟩ := h
    rfl
  · obtain ⟨m, gl, wd, M, left, a, b, ws, rfl, hm, ha, hab, inv, hg, hw, hwl, hP, k⟩ := h
    refine ⟨_, (pss_cons (ps_setCompG (ts := ["_law_p"]) (fv := [("_law_place", 1), ("_law_mates", 0)]) (i := 4) ⟨rfl, by decide +kernel, by decide +kernel, blkFree (by rfl), ⟨⟨rfl, rfl, Or.inl rfl⟩, ⟨rfl, rfl, Or.inl rfl⟩, trivial⟩⟩ rfl sc_l_pull.nd rfl rfl (by rfl) (pi_list (pv 3)) (fun _ _ _ _ => (pg_name (i := 0) (show List.Nodup (["_law_p", "_law_place", "_law_mates"] : List Str) from by decide +kernel) rfl (Or.inl rfl) (Or.inr rfl))) (fun _ _ _ _ => (pts_one (PW.pt (pw_and (pt_cmpR op_ne (pv 0) (pv 1) (nomark _)) (pw_and1 (pt_cmpR op_ne (pv 0) (pe_ix (ix_listK K) (pv 2) (pv 1) (fun _ _ => rfl)) (nomark _))))))) (fun _ _ _ => rfl) (fun _ _ _ _ _ _ => pb_emit (pv 0)))
      (pss_cons (ps_set (i := 5) sc_l_pull.nd rfl (Or.inl rfl) (pe_lst pa_nil))
      (pss_cons (ps_for PassesOwn.never rfl (pi_range1 rfl T.n_range (pa_cons (pe_callB call_len_seq (by rfl) T.n_len PySem.boot_len (pa_cons (pv 4) pa_nil)) pa_nil)) (pg_name (i := 6) sc_l_pull.nd rfl (Or.inl rfl)) (pss_cons (ps_expr (pe_bm PySem.F.plainAttrs_list PySem.F.slot_list_append PySem.F.type_list_append mt_append (pv 5) (pa_cons (pe_ix ix_list (pv 2) (pe_ix ix_list (pv 4) (pv 6) (fun _ _ => rfl)) (fun _ _ => rfl)) pa_nil)))
      (pss_cons (ps_set (i := 7) sc_l_pull.nd rfl (Or.inl rfl) (pe_ix ix_list (pv 2) (pe_ix ix_list (pv 0) (pe_ix ix_list (pv 4) (pv 6) (fun _ _ => rfl)) (fun _ _ => rfl)) (fun _ _ => rfl)))
      (pss_cons (ps_set (i := 8) sc_l_pull.nd rfl (Or.inl rfl) (pe_ix ix_list (pv 2) (pe_ix ix_list (pv 4) (pe_op op_mod (pe_op op_add (pv 6) pe_int) (pe_callB call_len_seq (by rfl) T.n_len PySem.boot_len (pa_cons (pv 4) pa_nil))) (fun _ _ => rfl)) (fun _ _ => rfl)))
      (pss_one (ps_if (pt_cmpR op_ne (pe_op op_fdiv (pv 7) pe_int) (pe_op op_fdiv (pv 8) pe_int) (nomark _)) (pss_one (ps_expr (pe_bm PySem.F.plainAttrs_list PySem.F.slot_list_append PySem.F.type_list_append mt_append (pv 5) (pa_cons (pe_ifExp (pt_cmpR op_eq (pe_op op_fdiv (pv 1) pe_int) (pe_op op_fdiv (pv 7) pe_int) (nomark _)) (pv 1) (pe_ix ix_list (pv 0) (pv 1) (fun _ _ => rfl))) pa_nil)))) pss_nil))))))
      (pss_one (ps_ret (pv 5)))))), ?_⟩
    refine ⟨_, rfl, wd, rfl, ⟨_, SqL.of hw⟩, fun D hD => ?_⟩
    refine loop_list (xs := ws.map nV) (fun i σ H4 => ∃ v, σ = [v, some (.int a), some (.ref m)] ∧ Same H H4 ∧ H4 D = some (.lst (((ws.take i).filter (keepB a b)).map nV))) ⟨none, rfl, Same.new hD, upd_same⟩ ?_ ?_ ?_
    · rintro i σ H4 _ ⟨v, rfl, sm, h4⟩
      exact SqL.of (sm _ _ hw)
    · rintro i y σ H4 hy ⟨v, rfl, sm, h4⟩
      obtain ⟨q, hq, rfl⟩ := map_some hy
      have hi : i < ws.length := (List.getElem?_eq_some_iff.mp hq).1
      have lt : (((ws.take i).filter (keepB a b)).map nV).length < sizeLine := by
        rw [List.length_map]
        have h1 := List.length_filter_le (keepB a b) (ws.take i)
        rw [List.length_take] at h1
        exact small9 (by omega)
      dsimp only [gName]
      refine ⟨_, rfl, _, rfl, rfl, _, rfl, ?_⟩
      show if (!decide (V.int (q : Int) = V.int (a : Int))) = true then _ else _
      rw [dN]
      by_cases h1 : q = a
      · rw [decide_eq_true h1]
        refine iteF (iteF ⟨_, rfl, sm, ?_⟩)
        rw [h4, flt_step hq, if_neg (by unfold keepB; simp [h1])]
      · rw [decide_eq_false h1]
        refine iteT ⟨_, rfl, _, rfl, _, rfl, m, _, _, _, rfl, rfl, SqL.of (sm _ _ hm), map_at ha, rfl, _, rfl, ?_⟩
        show if (!decide (V.int (q : Int) = V.int (b : Int))) = true then _ else _
        rw [dN]
        by_cases h2 : q = b
        · rw [decide_eq_true h2]
          refine iteF ⟨_, rfl, sm, ?_⟩
          rw [h4, flt_step hq, if_neg (by unfold keepB; simp [h2])]
        · rw [decide_eq_false h2]
          refine iteT ⟨_, rfl, _, h4, lt, _, rfl, Same.add sm hD, ?_⟩
          rw [upd_same, flt_step hq, if_pos (by unfold keepB; simp [h1, h2]), List.map_append]; rfl
    rintro σ H4 ⟨v, rfl, s4, h4⟩
    rw [List.length_map, List.take_length] at h4
    have h4 : H4 D = some (.lst ((keptL a b ws).map nV)) := h4
    have hkl : (keptL a b ws).length ≤ 5000 := Nat.le_trans (List.length_filter_le _ _) hwl
    have hkm : ∀ q ∈ keptL a b ws, q ∈ ws := fun q hq => (List.mem_filter.mp hq).1
    have hso := fun i h f mm e1 e2 e3 => @side_ok M left a b i h f mm ws hP e1 e2 e3
    generalize keptL a b ws = ks at h4 hkl hkm hso k
    have hpl2 := pairs_len ks
    clear hD
    dsimp only [gName]
    refine ⟨Nat.zero_le _, fun rw' hrw => ?_⟩
    have hrw0 := s4.free hrw
    have hDr : D ≠ rw' := ne_of_none h4 hrw
    have s5 : Same H (upd H4 rw' (.lst [])) := Same.add s4 hrw0
    have h5D : (upd H4 rw' (.lst [])) D = some (.lst (ks.map nV)) := by rw [upd_ne hDr]; exact h4
    have h5r : (upd H4 rw' (.lst [])) rw' = some (.lst ((pullL M left a b ((pairsL ks).take 0)).map nV)) := upd_same
    generalize upd H4 rw' (.lst []) = H5 at s5 h5D h5r
    clear h4 hrw s4
    dsimp only [gName]
    refine ⟨_, rfl, D, _, rfl, .inl (SqL.of h5D), _, rfl, by omega, by rw [List.length_map]; omega, ?_⟩
    have eL : (((ks.map nV).length : Nat) : Int).toNat = ks.length := by simp
    rw [eL]
    refine for_range (n := ks.length) (fun i σ H6 => ∃ (v6 v7 v8 : Option V), σ = [some (.ref m), some (.int a), some (.ref gl), some (.ref wd), some (.ref D), some (.ref rw'), v6, v7, v8] ∧ Same H H6 ∧ H6 D = some (.lst (ks.map nV)) ∧ H6 rw' = some (.lst ((pullL M left a b ((pairsL ks).take i)).map nV))) ⟨none, none, none, rfl, s5, h5D, h5r⟩ ?_ ?_
    · rintro i σ H6 hi ⟨v6, v7, v8, rfl, s6, h6D, h6r⟩
      have ek := List.getElem?_eq_getElem hi
      have hpos : 0 < ks.length := by omega
      have ef := List.getElem?_eq_getElem (Nat.mod_lt (i + 1) hpos)
      have hpr := pairs_get ek ef
      have hsi := fun mm => hso i _ _ mm ek ef
      have hkw := hkm _ (List.mem_of_getElem? ek)
      have hfw := hkm _ (List.mem_of_getElem? ef)
      generalize ks[i] = h at ek hpr hsi hkw
      generalize ks[(i + 1) % ks.length]'(Nat.mod_lt (i + 1) hpos) = f at ef hpr hsi hfw
      obtain ⟨mm, hmm⟩ := hP.has h hkw
      obtain ⟨mf, hmf⟩ := hP.has f hfw
      have hhM : h < M.length := (List.getElem?_eq_some_iff.mp hmm).1
      have hfM : f < M.length := (List.getElem?_eq_some_iff.mp hmf).1
      have hmM : mm < M.length := (List.getElem?_eq_some_iff.mp (inv _ _ hmm).1).1
      have emt : mtN M h = mm := by unfold mtN; rw [List.getD_eq_getElem?_getD, hmm]; rfl
      have hsi := hsi mm hmm
      have e1 : atI (ks.map nV) (0 + (i : Int)) = some (nV h) := by rw [Int.zero_add]; exact map_at ek
      have e2 : atI (ks.map nV) ((0 + (i : Int) + 1) % (((ks.map nV).length : Nat) : Int)) = some (nV f) := by
        rw [List.length_map, Int.zero_add, show ((i : Int) + 1) % (ks.length : Int) = (((i + 1) % ks.length : Nat) : Int) by rw [Int.natCast_emod, Int.natCast_add]; rfl]
        exact map_at ef
      have hlen := pullL_len M left a b ((pairsL ks).take i)
      rw [List.length_take] at hlen
      have hg6 := s6 _ _ hg
      have hm6 := s6 _ _ hm
      have hst := @pullL_step M left a b i h f (pairsL ks) hpr
      unfold pullAt at hst
      rw [emt] at hst
      dsimp only [gName]
      refine ⟨_, rfl, .inl ⟨rfl, _, SqL.of h6r⟩, _, rfl, _, rfl, _, rfl, D, _, _, _, rfl, rfl, SqL.of h6D, e1, gl, _, _, _, rfl, rfl, SqL.of hg6, goal_at hhM, rw', _, _, rfl, rfl, h6r, (by rw [List.length_map]; exact small9 (by omega)), ?_⟩
      have s7 : Same H (upd H6 rw' (.lst ((pullL M left a b ((pairsL ks).take i)).map nV ++ [nV (mvN left a b h)]))) := Same.add s6 hrw0
      have h7r : (upd H6 rw' (.lst ((pullL M left a b ((pairsL ks).take i)).map nV ++ [nV (mvN left a b h)]))) rw' = some (.lst ((pullL M left a b ((pairsL ks).take i) ++ [mvN left a b h]).map nV)) := by rw [upd_same, List.map_append]; rfl
      have h7D : (upd H6 rw' (.lst ((pullL M left a b ((pairsL ks).take i)).map nV ++ [nV (mvN left a b h)]))) D = some (.lst (ks.map nV)) := by rw [upd_ne hDr]; exact h6D
      show _
      generalize upd H6 rw' (.lst ((pullL M left a b ((pairsL ks).take i)).map nV ++ [nV (mvN left a b h)])) = H7 at s7 h7r h7D
      have hg7 := s7 _ _ hg
      have hm7 := s7 _ _ hm
      refine ⟨_, rfl, _, rfl, _, rfl, _, rfl, D, _, _, _, rfl, rfl, SqL.of h7D, e1, m, _, _, _, rfl, rfl, SqL.of hm7, map_at hmm, gl, _, _, _, rfl, rfl, SqL.of hg7, goal_at hmM, ?_⟩
      refine ⟨_, rfl, _, rfl, _, rfl, _, _, rfl, rfl, _, rfl, D, _, rfl, .inl (SqL.of h7D), _, _, rfl, rfl, (by rw [List.length_map]; omega), D, _, _, _, rfl, rfl, SqL.of h7D, e2, gl, _, _, _, rfl, rfl, SqL.of hg7, goal_at hfM, ?_⟩
      refine ⟨_, rfl, _, _, rfl, rfl, ⟨by decide, by decide⟩, _, rfl, _, _, rfl, rfl, ⟨by decide, by decide⟩, rfl, _, rfl, ?_⟩
      show if (!decide (V.int ((mvN left a b mm : Int) / 3) = V.int ((mvN left a b f : Int) / 3))) = true then _ else _
      rw [dN3]
      by_cases z : mvN left a b mm / 3 = mvN left a b f / 3
      · rw [decide_eq_true z]
        refine iteF ⟨_, _, _, rfl, s7, h7D, ?_⟩
        rw [h7r, hst]
        unfold crossL
        rw [if_pos z]
      · rw [decide_eq_false z]
        have hc1 := cross_one hab z (hsi z)
        rw [hc1] at hst
        have lt7 : ((pullL M left a b ((pairsL ks).take i) ++ [mvN left a b h]).map nV).length < sizeLine := by rw [List.length_map, List.length_append, List.length_singleton]; exact small9 (by omega)
        refine iteT ⟨_, rfl, .inl ⟨rfl, _, SqL.of h7r⟩, ?_⟩
        refine ⟨_, rfl, _, _, rfl, rfl, ⟨by decide, by decide⟩, _, rfl, _, _, rfl, rfl, ⟨by decide, by decide⟩, rfl, _, rfl, ?_⟩
        show if decide (V.int ((a : Int) / 3) = V.int ((mvN left a b mm : Int) / 3)) = true then _ else _
        rw [dN3]
        by_cases y : a / 3 = mvN left a b mm / 3
        · rw [decide_eq_true y]
          rw [if_pos y] at hst
          refine iteT ⟨_, rfl, rw', _, _, rfl, rfl, h7r, lt7, _, _, _, rfl, Same.add s7 hrw0, by rw [upd_ne hDr]; exact h7D, ?_⟩
          rw [upd_same, hst, List.map_append, List.map_append, List.append_assoc]; rfl
        · rw [decide_eq_false y]
          rw [if_neg y] at hst
          refine iteF ⟨_, rfl, _, rfl, m, _, _, _, rfl, rfl, SqL.of hm7, map_at ha, rw', _, _, rfl, rfl, h7r, lt7, _, _, _, rfl, Same.add s7 hrw0, by rw [upd_ne hDr]; exact h7D, ?_⟩
          rw [upd_same, hst, List.map_append, List.map_append, List.append_assoc]; rfl
    · rintro σ H6 ⟨v6, v7, v8, rfl, s6, h6D, h6r⟩
      rw [List.take_of_length_le (by omega)] at h6r
      exact ⟨_, rfl, k rw' H6 s6 hrw0 h6r⟩
end
end KT
set_option maxHeartbeats 4000000
namespace KT
open PySem L2
theorem keys_le (ns : List Int) : ∀ n, (keys ns n).length ≤ n
 | 0 => Nat.le_refl _
 | n + 1 => by
  have ih := keys_le ns n
  cases h : ns[n]? with
  | none =>
   have : keys ns (n + 1) = keys ns n := by
    show (match ns[n]? with | some x => if x ∈ keys ns n then keys ns n else keys ns n ++ [x] | none => keys ns n) = _
    rw [h]
   rw [this]; omega
  | some x =>
   rw [keys_step h]
   split
   ·omega
   ·rw [List.length_append, List.length_singleton]; omega
theorem pl_mem_name {M : List (Option Nat)} {ns : List Int} (td : TD M ns) {q m : Nat} (h : M[q]? = some (some m)) : ∃ y, ns[q]? = some y ∧ y ∈ keys ns ns.length := by
 have hq : q < ns.length := by rw [td.len]; exact (List.getElem?_eq_some_iff.mp h).1
 exact ⟨_, List.getElem?_eq_getElem hq, keys_mem.mpr ⟨q, hq, List.getElem?_eq_getElem hq⟩⟩
theorem turns_len {M : List (Option Nat)} {ws : List Nat} {L : List Int} (h : TurnsOf M ws L) : L.length = ws.length := by
 obtain ⟨b, hb, rfl | rfl⟩ := h
 ·rw [wI_len, rot_len _ (Nat.le_of_lt hb)]
 ·rw [wI_len, rot_len _ (by rw [backL_len]; exact Nat.le_of_lt hb), backL_len]
theorem Pl.rep {M : List (Option Nat)} {ws : List Nat} {m : Nat} (h : Pl M ws) (hm : 0 < m) : Pl M (List.replicate m ws).flatten := by
 have hw0 : 0 < ws.length := by have := h.ne; cases ws with | nil => exact absurd rfl this | cons _ _ => simp
 have := h.turn (m := m) (b := 0) (Nat.mul_pos hm hw0)
 rw [rot_zero] at this
 exact this
theorem Pl.rot1 {M : List (Option Nat)} {ws : List Nat} {b : Nat} (h : Pl M ws) (hb : b < ws.length) : Pl M (rot ws b) := by
 have := h.turn (m := 1) (b := b) (by rw [Nat.one_mul]; exact hb)
 simpa using this
def sp_alike (C : Addr) : Sp := fun vs H Q _ => ∃ (p a b : Addr) (M : List (Option Nat)) (ns : List Int) (ws us : List Nat), vs = [.ref p, .ref a, .ref b] ∧ TentAt C H p M ns ∧ M.length = ns.length ∧ H a = some (.lst (ws.map nV)) ∧ H b = some (.lst (us.map nV)) ∧ ws.length ≤ 10000 ∧ us.length ≤ 10000 ∧ Pl M ws ∧ Pl M us ∧
 ∀ (L1 L2 : List Int) (H' : Hp), Same H H' → HT.IsLeast (TurnsOf M ws) L1 → HT.IsLeast (TurnsOf M us) L2 → Q (.bl (decide (L1 = L2))) H'
section
variable {P : Program} {w : World} {K : PySem.W.Frag} {mg : Str → Option Value} {base : Heap} {t : Adr}
theorem sc_l_named : FnScope ["_law_rows_here", "_law_counts", "_law_due", "_law_p"] ["_law_rows_here", "_law_counts"] (defScope s_l_named) := ⟨rfl, rfl, rfl, by decide +kernel, rfl, by decide +kernel, by decide +kernel⟩
theorem ok_l_named (T : Txt w K mg t) : FnOk P w K mg base (CXr P w) 1 t.f_l_named t.d_l_named ["_law_rows_here", "_law_counts"] sp_named := by
 refine T.p_l_named.F.okR sc_l_named (fun vs H Q E h => ?_) (fun cdv A outer s H vs Q E hr h => ?_)
 ·obtain ⟨r, c, ns, f, rfl, _⟩ := h
  rfl
 ·obtain ⟨r, c, ns, f, rfl, hr1, hl, hc, k⟩ := h
  have hu := hu_of hr
  refine ⟨_, (pss_cons (ps_set (i := 2) sc_l_named.nd rfl (Or.inl rfl) pe_dnewK)
   (pss_cons (ps_for PassesOwn.never rfl (pi_range1 rfl T.n_range (pa_cons (pe_callB call_len_seq (by rfl) T.n_len PySem.boot_len (pa_cons (pv 1) pa_nil)) pa_nil)) (pg_name (i := 3) sc_l_named.nd rfl (Or.inl rfl)) (pss_one (ps_dput hu (pv 2) (pe_ix ix_tup (pe_ix ix_list (pv 0) (pe_op op_fdiv (pv 3) pe_int) (fun _ _ => rfl)) (pe_op op_mod (pv 3) pe_int) (fun _ _ => rfl)) (pe_ix ix_list (pv 1) (pv 3) (fun _ _ => rfl)) rfl)))
   (pss_one (ps_ret (pv 2))))), ?_⟩
  intro d hd
  have s1 : Same H (upd H d (.dK [])) := Same.new hd
  dsimp only [gName]
  show tSeq (tFor _ _ _) _ _ _ _
  refine seq_post (fun σ H' => ∃ (g : Int → Int) (v : Option V), σ = [some (.ref r), some (.ref c), some (.ref d), v] ∧ Same H H' ∧ H' d = some (.dK (dI (keys ns ns.length) g)) ∧ ∀ x ∈ keys ns ns.length, ∃ p, ns[p]? = some x ∧ g x = f p) (fun nx hnx => ?_) ?_
  ·refine ⟨_, rfl, c, _, rfl, .inl (SqL.of (s1 _ _ hc)), _, rfl, by rw [rowI_len]; omega, by rw [rowI_len]; omega, ?_⟩
   have eL : ((((rowI ns.length f).length : Nat) : Int)).toNat = ns.length := by rw [rowI_len, Int.toNat_natCast]
   rw [eL]
   refine for_range (n := ns.length) (fun i σ H' => ∃ (g : Int → Int) (v : Option V), σ = [some (.ref r), some (.ref c), some (.ref d), v] ∧ Same H H' ∧ H' d = some (.dK (dI (keys ns i) g)) ∧ ∀ x ∈ keys ns i, ∃ p, ns[p]? = some x ∧ g x = f p) ⟨fun _ => 0, _, rfl, s1, upd_same, fun x hx => by simp [keys] at hx⟩ ?_ ?_
   ·rintro i σ H' hi ⟨g, v, rfl, s2, hd2, hg⟩
    dsimp only [gName]
    rw [Int.zero_add]
    obtain ⟨y, hy⟩ : ∃ y, ns[i]? = some y := ⟨_, List.getElem?_eq_getElem hi⟩
    obtain ⟨ts', q, e1, e2, e3, e4⟩ := row_at (hr1.same s2) hy
    have hc2 := s2 _ _ hc
    refine ⟨_, rfl, _, rfl, c, _, _, _, rfl, rfl, SqL.of hc2, atI_nat (rowI_at hi), _, rfl, ?_⟩
    refine ⟨_, rfl, _, rfl, _, _, rfl, rfl, ⟨by decide, by decide⟩, r, _, _, _, rfl, rfl, SqL.of e1, (by rw [div3]; exact map_at e2), _, rfl, _, _, rfl, rfl, (by show (0 : Int) < 3; decide), q, _, _, _, rfl, rfl, SqT.of e3, (by rw [mod3]; exact atI_nat e4), ?_⟩
    refine ⟨d, _, rfl, DPut.k (k := Sum.inl y) hd2 (by rw [dI_len]; exact small1000 (by have := keys_le ns i; omega)), ?_⟩
    refine ⟨fun x => if x = y then f i else g x, _, rfl, Same.add s2 hd, ?_, ?_⟩
    ·rw [upd_same, keys_step hy]
     by_cases z : y ∈ keys ns i
     ·rw [if_pos z, dI_old z]
     ·rw [if_neg z, dI_new z]
    ·intro x hx
     by_cases z : x = y
     ·subst z
      exact ⟨i, hy, if_pos rfl⟩
     ·have : x ∈ keys ns i := by
       rw [keys_step hy] at hx
       split at hx
       ·exact hx
       ·rcases List.mem_append.mp hx with q' | q'
        ·exact q'
        ·exact absurd (List.mem_singleton.mp q') z
      obtain ⟨p, h1, h2⟩ := hg x this
      exact ⟨p, h1, by show (if x = y then f i else g x) = f p; rw [if_neg z]; exact h2⟩
   ·rintro σ H' ⟨g, v, rfl, s2, hd2, hg⟩
    exact hnx _ _ ⟨g, v, rfl, s2, hd2, hg⟩
  ·rintro σ H' ⟨g, v, rfl, s2, hd2, hg⟩
   exact ⟨_, rfl, k d g H' s2 hd hd2 hg⟩
theorem sc_tally : FnScope ["tent", "word", "crossed", "place"] ["tent", "word"] (defScope s_tally) := ⟨rfl, rfl, rfl, by decide +kernel, rfl, by decide +kernel, by decide +kernel⟩
theorem ok_tally (T : Txt w K mg t) : FnOk P w K mg base (CXr P w) 7 t.f_tally t.d_tally ["tent", "word"] (sp_tally t.C_Tent) := by
  refine T.p_tally.F.okX sc_tally (fun vs H Q E h => ?_) (fun cdv A outer s H vs Q E hr h => ?_)
  · obtain ⟨p, a, M, ns, ws, rfl, _⟩ := h
    rfl
  · obtain ⟨p, a, M, ns, ws, rfl, ta, td, h64, ha, hl, hP, k⟩ := h
    have hu := hu_of hr
    refine ⟨_, (pssx_cons (psx_expr (pex_call (ok_look_thread T) (hr.mono (by decide)) rfl T.p_look_thread.g T.p_look_thread.F.kp T.p_look_thread.b .nil (pa_cons (pv 0) (pa_cons (pv 1) pa_nil))))
      (pssx_cons (psx_of (ps_setDCompG (ts := ["seam"]) (fv := []) (i := 2) ⟨rfl, by decide +kernel, by decide +kernel, blkFree (by rfl), trivial⟩ rfl sc_tally.nd rfl rfl (by rfl) (pi_list (pe_meth0 (pv 0) T.cl_Tent T.p_Tent_seams.m (ok_Tent_seams T) (hr.mono (by decide)) T.p_Tent_seams.b .nil passR)) (fun _ _ _ _ => (pg_name (i := 0) (show List.Nodup (["seam"] : List Str) from by decide +kernel) rfl (Or.inl rfl) (Or.inr rfl))) (fun _ _ _ _ => pts_nil) (fun _ _ _ => rfl) (fun _ _ _ _ _ _ => pb_demit (pv 0) pe_int)))
      (pssx_cons (psx_of (ps_for PassesOwn.never rfl (pi_list (pv 1)) (pg_name (i := 3) sc_tally.nd rfl (Or.inl rfl)) (pss_one (ps_daug hu (pv 2) (pe_meth (pv 0) T.cl_Tent T.p_Tent_seam_at.m (ok_Tent_seam_at T) (hr.mono (by decide)) T.p_Tent_seam_at.b .nil passR (pa_cons (pv 3) pa_nil)) pe_int in_add (by intros; rfl)))))
      (pssx_one (psx_of (ps_ret (pv 2))))))), ?_⟩
    refine ⟨_, rfl, _, rfl, p, a, M, ns, wI ws, rfl, ta, td.len.symm, by rw [ha, nv_wI], by rw [wI_len]; omega, fun H1 s1 => ⟨fun _ => ?_, fun z => absurd ((plain_iff.mpr hP).symm.trans z) (by decide)⟩⟩
    have ta1 := ta.same s1
    obtain ⟨dx, cl, na, sp, mt, o, ff, b⟩ := id ta1
    refine ⟨_, rfl, p, dx, _, rfl, b.ins, fl_none _ _ _ _, p, M, ns, rfl, ta1, h64, fun l ks hl1 hpm _ => ?_⟩
    have s2 : Same H1 (upd H1 l (.lst (ks.map V.int))) := Same.new hl1
    have h2 : (upd H1 l (.lst (ks.map V.int))) l = some (.lst (ks.map V.int)) := upd_same
    generalize upd H1 l (.lst (ks.map V.int)) = H2 at s2 h2 ⊢
    have hkn : ks.Nodup := hpm.nodup_iff.mpr (keys_nodup ns ns.length)
    have hkl : ks.length ≤ 64 := by rw [hpm.length_eq]; have := keys_le ns ns.length; omega
    refine ⟨l, rfl, ⟨_, SqL.of h2⟩, fun D hD => ?_⟩
    refine loop_list (xs := ks.map V.int) (fun i σ H3 => ∃ v, σ = [v] ∧ Same H2 H3 ∧ H3 D = some (.dK (dI (ks.take i) fun _ => 0))) ⟨none, rfl, Same.new hD, upd_same⟩ ?_ ?_ ?_
    · rintro i σ H3 _ ⟨v, rfl, s3, h3⟩
      exact SqL.of (s3 _ _ h2)
    · rintro i x σ H3 hx ⟨v, rfl, s3, h3⟩
      obtain ⟨y, hy, rfl⟩ := map_some hx
      dsimp only [gName, tYes]
      rw [if_pos rfl]
      refine ⟨_, rfl, _, Sum.inl y, rfl, h3, (by rw [dI_len, List.length_take]; exact small1000 (by omega)), _, rfl, Same.add s3 hD, ?_⟩
      rw [upd_same, List.take_add_one, hy]
      have hny : y ∉ ks.take i := fun z => by
        obtain ⟨j, hj, e⟩ := List.mem_iff_getElem.mp z
        rw [List.length_take] at hj
        have e1 : ks[j]? = some y := by rw [← e, List.getElem_take, List.getElem?_eq_getElem]
        have hi : i < ks.length := (List.getElem?_eq_some_iff.mp hy).1
        have e2 : ks[j]'(by omega) = ks[i] := by
          have := (List.getElem?_eq_some_iff.mp e1).2
          have := (List.getElem?_eq_some_iff.mp hy).2
          simp_all
        have := (List.getElem_inj hkn).mp e2
        omega
      rw [dI_new hny]
      show some (HO.dK (dI (ks.take i ++ [y]) fun x => if x = y then 0 else 0)) = some (HO.dK (dI (ks.take i ++ [y]) fun _ => 0))
      congr 2
      exact dI_congr fun x _ => by split <;> rfl
    rintro σ H3 ⟨v, rfl, s3, h3⟩
    rw [List.length_map, List.take_length] at h3
    try dsimp only [gName]
    have s03 := s1.trans (s2.trans s3)
    have hD0 := s1.free (s2.free hD)
    show tSeq (tFor _ _ _) _ _ _ _
    refine seq_post (fun σ H' => ∃ v, σ = [some (.ref p), some (.ref a), some (.ref D), v] ∧ Same H H' ∧ H' D = some (.dK (dI ks (crS ns ws)))) (fun nx hnx => ?_) ?_
    · refine ⟨_, rfl, a, rfl, ⟨_, SqL.of (s03 _ _ ha)⟩, ?_⟩
      have e0 : dI ks (fun _ => 0) = dI ks (crS ns (ws.take 0)) := rfl
      rw [e0] at h3
      refine for_list (xs := ws.map nV) (fun i σ H' => ∃ v, σ = [some (.ref p), some (.ref a), some (.ref D), v] ∧ Same H H' ∧ H' D = some (.dK (dI ks (crS ns (ws.take i))))) ⟨_, rfl, s03, h3⟩ ?_ ?_ ?_
      · rintro i σ H' _ ⟨v, rfl, s4, h4⟩
        exact SqL.of (s4 _ _ ha)
      · rintro i x σ H' hx ⟨v, rfl, s4, h4⟩
        obtain ⟨q, hq, rfl⟩ := map_some hx
        obtain ⟨m', hm'⟩ := hP.has q (List.mem_of_getElem? hq)
        obtain ⟨y, hy, hyk⟩ := pl_mem_name td hm'
        have hyks := hpm.mem_iff.mpr hyk
        have ta4 := ta.same s4
        obtain ⟨dx4, cl4, na4, sp4, mt4, o4, ff4, b4⟩ := id ta4
        have hqn : q < ns.length := (List.getElem?_eq_some_iff.mp hy).1
        dsimp only [gName]
        refine ⟨_, rfl, _, rfl, p, dx4, _, rfl, b4.ins, fl_none _ _ _ _, _, rfl, p, M, ns, q, rfl, ta4, fun i' y' z1 z2 => ?_, fun z => absurd (show (0 : Int) ≤ q ∧ (q : Int) < ns.length by omega) z⟩
        have : i' = q := by omega
        subst this
        rw [hy] at z2
        cases z2
        refine ⟨D, V.int (crS ns (ws.take i) y), rfl, .inl ⟨_, Sum.inl y, .inl h4, rfl, (dI_val hyks).symm⟩, _, _, rfl, rfl, _, DPut.k (k := Sum.inl y) h4 (by rw [dI_len]; exact small1000 (by omega)), ?_⟩
        refine ⟨_, rfl, Same.add s4 hD0, ?_⟩
        rw [upd_same, dI_old hyks]
        congr 2
        exact dI_congr fun x _ => (crS_step hq hy x).symm
      · rintro σ H' ⟨v, rfl, s4, h4⟩
        rw [List.length_map, List.take_length] at h4
        exact hnx _ _ ⟨v, rfl, s4, h4⟩
    · rintro σ H' ⟨v, rfl, s4, h4⟩
      exact ⟨_, rfl, k D ks H' s4 hD0 hpm h4⟩
theorem sc_alike : FnScope ["tent", "one", "other"] ["tent", "one", "other"] (defScope s_alike) := ⟨rfl, rfl, rfl, by decide +kernel, rfl, by decide +kernel, by decide +kernel⟩
theorem ok_alike (T : Txt w K mg t) : FnOk P w K mg base (CXr P w) 9 t.f_alike t.d_alike ["tent", "one", "other"] (sp_alike t.C_Tent) := by
 refine T.p_alike.F.okR sc_alike (fun vs H Q E h => ?_) (fun cdv A outer s H vs Q E hr h => ?_)
 ·obtain ⟨p, a, b, M, ns, ws, vs', rfl, _⟩ := h
  rfl
 ·obtain ⟨p, a, b, M, ns, ws, us, rfl, ta, hMl, ha, hb, la, lb, pa, pb, k⟩ := h
  refine ⟨_, (pss_one (ps_ret (pe_cmpR (op_eqL hr.units) (pe_call (ok_least T) (hr.mono (by decide)) rfl T.p_least.g T.p_least.F.kp T.p_least.b .nil passR (pa_cons (pv 0) (pa_cons (pv 1) pa_nil))) (pe_call (ok_least T) (hr.mono (by decide)) rfl T.p_least.g T.p_least.F.kp T.p_least.b .nil passR (pa_cons (pv 0) (pa_cons (pv 2) pa_nil))) (nomark _)))), ?_⟩
  refine ⟨_, rfl, _, rfl, p, a, M, ns, ws, rfl, ta, hMl, ha, la, pa, fun l1 L1 H1 s1 hl1 h1 m1 => ?_⟩
  refine ⟨_, rfl, _, rfl, p, b, M, ns, us, rfl, ta.same s1, hMl, s1 _ _ hb, lb, pb, fun l2 L2 H2 s2 hl2 h2 m2 => ?_⟩
  exact ⟨l1, l2, L1, L2, rfl, rfl, SqL.of (s2 _ _ h1), SqL.of h2, k L1 L2 H2 (s1.trans s2) m1 m2⟩
end
end KT
set_option maxHeartbeats 4000000
namespace KT
open PySem PySem.Spec PyProof.Rows L2
theorem back_rp (M : List (Option Nat)) (m : Nat) (ws : List Nat) : backL M (rp m ws) = rp m (backL M ws) := by
 unfold backL
 rw [rp_rev, rp_map]
theorem turns_rp {M : List (Option Nat)} {m : Nat} {ws : List Nat} (hm : 0 < m) (h0 : 0 < ws.length) (x : List Int) : TurnsOf M (rp m ws) x ↔ ∃ y, TurnsOf M ws y ∧ x = rp m y := by
 have wr : ∀ l : List Nat, wI (rp m l) = rp m (wI l) := fun l => rp_map _ m l
 have hl := repl_len ws m
 have hle : ws.length ≤ m * ws.length := Nat.le_mul_of_pos_left _ hm
 unfold TurnsOf
 constructor
 ·rintro ⟨b, hb, e⟩
  have hb' : b < m * ws.length := by rw [← hl]; exact hb
  rcases e with rfl | rfl
  ·exact ⟨wI (rot ws (b % ws.length)), ⟨b % ws.length, Nat.mod_lt _ h0, .inl rfl⟩, by rw [rp_rot hb', wr]⟩
  ·exact ⟨wI (rot (backL M ws) (b % ws.length)), ⟨b % ws.length, Nat.mod_lt _ h0, .inr rfl⟩, by rw [back_rp, rp_rot (by rw [backL_len]; exact hb'), backL_len, wr]⟩
 ·rintro ⟨y, ⟨b, hb, e⟩, rfl⟩
  refine ⟨b, by rw [hl]; omega, ?_⟩
  rcases e with rfl | rfl
  ·left
   rw [rp_rot (by omega), Nat.mod_eq_of_lt hb, wr]
  ·right
   rw [back_rp, rp_rot (by rw [backL_len]; omega), backL_len, Nat.mod_eq_of_lt hb, wr]
theorem fl_rp (M : List (Option Nat)) (m : Nat) (ws : List Nat) (p : Nat) : flP M (rp m ws) p = m * flP M ws p := by
 unfold flP
 rw [rp_count, rp_count, Int.natCast_mul, Int.natCast_mul, Int.mul_sub]
theorem cr_rp (M : List (Option Nat)) (m : Nat) (ws : List Nat) (p : Nat) : crP M (rp m ws) p = m * crP M ws p := by
 unfold crP
 rw [rp_count, Int.natCast_mul]
theorem rowI_int (n : Nat) (f : Nat → Int) : rowI n f = ((List.range n).map f).map V.int := by unfold rowI; rw [List.map_map]; rfl
theorem rpV (m : Nat) (l : List Nat) : (List.replicate ((m : Int)).toNat (l.map nV)).flatten = (rp m l).map nV := by rw [Int.toNat_natCast]; exact (rp_map nV m l).symm
theorem rpI (m : Nat) (l : List Int) : (List.replicate ((m : Int)).toNat (l.map V.int)).flatten = (rp m l).map V.int := by rw [Int.toNat_natCast]; exact (rp_map V.int m l).symm
theorem mulOkN {z : Str} {n : Nat} (hz : z.length ≤ 100) (hn : n ≤ 2000) : MulOk z (n : Int) := by
 have d : ∀ {p : Prop} [Decidable p], ¬ p → decide p = false := fun h => decide_eq_false h
 refine ⟨?_, fun h1 _ => ?_, fun h1 _ => ?_⟩
 ·rw [d (by omega), d (by omega)]; rfl
 ·have : (z.length : Int) ≤ (2 ^ 63 - 1) / (n : Int) := by
   rw [Int.le_ediv_iff_mul_le (by omega)]
   have : ((z.length * n : Nat) : Int) ≤ 200000 := by
    have := Nat.mul_le_mul hz hn
    omega
   rw [Int.natCast_mul] at this
   omega
  omega
 ·rw [Int.toNat_natCast]
  have := Nat.mul_le_mul hz hn
  exact d (by show ¬ (sizeLine < z.length * n); rw [sizeLine_eq]; omega)
theorem cat_rot' {ws : List Nat} {s : Nat} : ((wI ws).drop s).map V.int ++ ((wI ws).take s).map V.int = (rot ws s).map nV := by
 rw [nv_wI]; unfold rot wI; simp only [List.map_append, List.map_drop, List.map_take]
theorem iteNe' {a b : V} {p q : Prop} (e : a = b) (h : q) : (if (!decide (a = b)) = true then p else q) := by rw [decide_eq_true e]; exact h
theorem pick_at {zs : List Nat} {pick : Int} (h : 0 < zs.length) : ∃ q, atI (zs.map nV) (pick % (((zs.map nV).length : Nat) : Int)) = some (nV q) ∧ q ∈ zs := by
 rw [List.length_map]
 have k0 := Int.emod_nonneg pick (show (zs.length : Int) ≠ 0 by omega)
 have k1 := Int.emod_lt_of_pos pick (show (0 : Int) < zs.length by omega)
 obtain ⟨kk, hkk⟩ : ∃ kk : Nat, pick % (zs.length : Int) = kk := ⟨_, (Int.toNat_of_nonneg k0).symm⟩
 have hkl : kk < zs.length := by omega
 rw [hkk]
 exact ⟨_, map_at (List.getElem?_eq_getElem hkl), List.getElem_mem hkl⟩
theorem map_some' {α β : Type} {f : α → β} {l : List α} {i : Nat} {z : β} (h : (l.map f)[i]? = some z) : ∃ q, l[i]? = some q ∧ z = f q := by
 rw [List.getElem?_map] at h
 cases e : l[i]? with
 | none => rw [e] at h; cases h
 | some q => rw [e] at h; cases h; exact ⟨q, rfl, rfl⟩
theorem many_is {pick : Nat} {n : Nat} (h0 : 0 < n) (h60 : n ≤ 60) {X : Int} (e : (2000 : Int) / n - (pick : Int) % 3 * ((pick : Int) / 3 % 30) = X) : ∃ m : Nat, (if X > 1 then X else 1) = (m : Int) ∧ 1 ≤ m ∧ m * n ≤ 2000 := by
 have p1 : 0 ≤ (pick : Int) % 3 * ((pick : Int) / 3 % 30) := Int.mul_nonneg (by omega) (by omega)
 have q1 : (2000 : Int) / n * n ≤ 2000 := Int.ediv_mul_le _ (by omega)
 by_cases c : X > 1
 ·refine ⟨X.toNat, by rw [if_pos c]; omega, by omega, ?_⟩
  have : ((X.toNat * n : Nat) : Int) ≤ 2000 := by
   rw [Int.natCast_mul, Int.toNat_of_nonneg (by omega)]
   exact Int.le_trans (Int.mul_le_mul_of_nonneg_right (show X ≤ (2000 : Int) / n by omega) (by omega)) q1
  omega
 ·exact ⟨1, by rw [if_neg c]; rfl, Nat.le_refl _, by omega⟩
section
variable {P : Program} {w : World} {K : PySem.W.Frag} {mg : Str → Option Value} {base : Heap} {t : Adr}
theorem sc_law : FnScope ["_law_script", "_law_mates", "_law_rows_here", "_law_tent_here", "_law_word", "_law_pick", "_law_many", "_law_row", "_law_handed", "_law_by", "_law_counts", "_law_spots", "_law_place", "_law_goals_here", "_law_found"] ["_law_script"] (defScope s_law) := ⟨rfl, rfl, rfl, by decide +kernel, rfl, by decide +kernel, by decide +kernel⟩
theorem ok_law (T : Txt w K mg t) : FnOk P w K mg base (CXr P w) 10 t.f_law t.d_law ["_law_script"] (sp_law K) := by
  refine T.p_law.F.okR sc_law (fun vs H Q E h => ?_) (fun cdv A outer s H vs Q E hr h => ?_)
  · obtain ⟨a, ns, rfl, _⟩ := h
    rfl
  · obtain ⟨a, sc, rfl, hS, hl, k⟩ := h
    have hu := hu_of hr
    refine ⟨_, (pss_cons (ps_asg (pe_call (ok_l_tent T) (hr.mono (by decide)) rfl T.p_l_tent.g T.p_l_tent.F.kp T.p_l_tent.b .nil passR (pa_cons (pv 0) pa_nil)) (pg_tup rfl (pgs_cons (pg_name (i := 1) sc_law.nd rfl (Or.inl rfl)) (pgs_cons (pg_name (i := 2) sc_law.nd rfl (Or.inl rfl)) pgs_nil))))
      (pss_cons (ps_set (i := 3) sc_law.nd rfl (Or.inl rfl) (pe_make T.mk_Tent (ok_Tent_init T) (hr.mono (by decide)) rfl T.gC_Tent T.p_Tent_init.b .nil passR (pa_cons (pe_callTy call_list_of (by rfl) T.n_list PySem.Pv.boot_list (pa_cons (pv 2) pa_nil)) pa_nil)))
      (pss_cons (ps_set (i := 4) sc_law.nd rfl (Or.inl rfl) (pe_call (ok_l_thread T) (hr.mono (by decide)) rfl T.p_l_thread.g T.p_l_thread.F.kp T.p_l_thread.b .nil passR (pa_cons (pv 0) (pa_cons pe_int (pa_cons (pv 1) pa_nil)))))
      (pss_cons (ps_if (pt_cmpR op_eq (pe_callB call_len_seq (by rfl) T.n_len PySem.boot_len (pa_cons (pv 4) pa_nil)) pe_int (nomark _)) (pss_one (ps_ret (pe_cmpR op_eq (pe_meth0 (pv 3) T.cl_Tent T.p_Tent_size.m (ok_Tent_size T) (hr.mono (by decide)) T.p_Tent_size.b .nil passR) (pe_callB call_len_seq (by rfl) T.n_len PySem.boot_len (pa_cons (pv 2) pa_nil)) (nomark _)))) pss_nil)
      (pss_cons (ps_set (i := 5) sc_law.nd rfl (Or.inl rfl) (pe_callB call_abs1 (by rfl) T.n_abs PyProof.Rows.boot_abs (pa_cons (pe_call (ok_l_cell T) (hr.mono (by decide)) rfl T.p_l_cell.g T.p_l_cell.F.kp T.p_l_cell.b .nil passR (pa_cons (pv 0) (pa_cons pe_int pa_nil))) pa_nil)))
      (pss_cons (ps_set (i := 6) sc_law.nd rfl (Or.inr rfl) (pe_callB (call_max2 rfl) (by rfl) T.n_max PyProof.Rows.boot_max (pa_cons pe_int (pa_cons (pe_op op_sub (pe_op op_fdiv pe_int (pe_callB call_len_seq (by rfl) T.n_len PySem.boot_len (pa_cons (pv 4) pa_nil))) (pe_op op_mul (pe_op op_mod (pv 5) pe_int) (pe_op op_mod (pe_op op_fdiv (pv 5) pe_int) pe_int))) pa_nil))))
      (pss_cons (ps_set (i := 7) sc_law.nd rfl (Or.inl rfl) (pe_op op_rep (pv 4) (pv 6)))
      (pss_cons (ps_set (i := 8) sc_law.nd rfl (Or.inl rfl) (pe_callTy call_list_of (by rfl) T.n_list PySem.Pv.boot_list (pa_cons (pv 7) pa_nil)))
      (pss_cons (ps_set (i := 9) sc_law.nd rfl (Or.inl rfl) (pe_op op_mod (pe_op op_fdiv (pv 5) pe_int) (pe_callB call_len_seq (by rfl) T.n_len PySem.boot_len (pa_cons (pv 7) pa_nil))))
      (pss_cons (ps_if (PW.pt (pw_or (pt_not (pt_val (pe_call (ok_l_truth T) (hr.mono (by decide)) rfl T.p_l_truth.g T.p_l_truth.F.kp T.p_l_truth.b .nil passR (pa_cons (pe_call (ok_plain T) (hr.mono (by decide)) rfl T.p_plain.g T.p_plain.F.kp T.p_plain.b .nil passR (pa_cons (pv 3) (pa_cons (pv 8) pa_nil))) (pa_cons pe_bl pa_nil))))) (pw_or1 (pt_not (pt_val (pe_call (ok_l_list T) (hr.mono (by decide)) rfl T.p_l_list.g T.p_l_list.F.kp T.p_l_list.b .nil passR (pa_cons (pe_call (ok_backward T) (hr.mono (by decide)) rfl T.p_backward.g T.p_backward.F.kp T.p_backward.b .nil passR (pa_cons (pv 3) (pa_cons (pv 8) pa_nil))) (pa_cons (pe_op op_rep (pe_call (ok_backward T) (hr.mono (by decide)) rfl T.p_backward.g T.p_backward.F.kp T.p_backward.b .nil passR (pa_cons (pv 3) (pa_cons (pv 4) pa_nil))) (pv 6)) pa_nil)))))))) (pss_one (ps_ret pe_bl)) pss_nil)
      (pss_cons (ps_if (pt_not (pt_val (pe_call (ok_l_list T) (hr.mono (by decide)) rfl T.p_l_list.g T.p_l_list.F.kp T.p_l_list.b .nil passR (pa_cons (pe_call (ok_least T) (hr.mono (by decide)) rfl T.p_least.g T.p_least.F.kp T.p_least.b .nil passR (pa_cons (pv 3) (pa_cons (pv 8) pa_nil))) (pa_cons (pe_op op_rep (pe_call (ok_least T) (hr.mono (by decide)) rfl T.p_least.g T.p_least.F.kp T.p_least.b .nil passR (pa_cons (pv 3) (pa_cons (pe_callTy call_list_of (by rfl) T.n_list PySem.Pv.boot_list (pa_cons (pv 4) pa_nil)) pa_nil))) (pv 6)) pa_nil))))) (pss_one (ps_ret pe_bl)) pss_nil)
      (pss_cons (ps_if (PW.pt (pw_or (pt_cmpR op_ne (pe_call (ok_times T) (hr.mono (by decide)) rfl T.p_times.g T.p_times.F.kp T.p_times.b .nil passR (pa_cons (pv 3) (pa_cons (pv 8) pa_nil))) (pe_op op_mul (pv 6) (pe_call (ok_times T) (hr.mono (by decide)) rfl T.p_times.g T.p_times.F.kp T.p_times.b .nil passR (pa_cons (pv 3) (pa_cons (pe_callTy call_list_of (by rfl) T.n_list PySem.Pv.boot_list (pa_cons (pv 4) pa_nil)) pa_nil)))) (nomark _)) (pw_or1 (pt_cmpR (op_ne) (pe_call (ok_letters T) (hr.mono (by decide)) rfl T.p_letters.g T.p_letters.F.kp T.p_letters.b .nil passR (pa_cons (pv 3) (pa_cons (pv 8) pa_nil))) (pe_op op_mulS (pe_call (ok_letters T) (hr.mono (by decide)) rfl T.p_letters.g T.p_letters.F.kp T.p_letters.b .nil passR (pa_cons (pv 3) (pa_cons (pv 4) pa_nil))) (pv 6)) (nomark _))))) (pss_one (ps_ret pe_bl)) pss_nil)
      (pss_cons (ps_if (pt_not (pt_val (pe_call (ok_l_truth T) (hr.mono (by decide)) rfl T.p_l_truth.g T.p_l_truth.F.kp T.p_l_truth.b .nil passR (pa_cons (pe_call (ok_alike T) (hr.mono (by decide)) rfl T.p_alike.g T.p_alike.F.kp T.p_alike.b .nil passR (pa_cons (pv 3) (pa_cons (pv 8) (pa_cons (pe_op op_cat (pe_slice sl_list (pv 7) (po_some (pv 9)) po_none) (pe_slice sl_list (pv 7) po_none (po_some (pv 9)))) pa_nil)))) (pa_cons pe_bl pa_nil))))) (pss_one (ps_ret pe_bl)) pss_nil)
      (pss_cons (ps_if (pt_not (pt_val (pe_call (ok_l_list T) (hr.mono (by decide)) rfl T.p_l_list.g T.p_l_list.F.kp T.p_l_list.b .nil passR (pa_cons (pe_call (ok_turned T) (hr.mono (by decide)) rfl T.p_turned.g T.p_turned.F.kp T.p_turned.b .nil passR (pa_cons (pv 8) (pa_cons (pv 9) pa_nil))) (pa_cons (pe_op op_cat (pe_slice sl_list (pv 7) (po_some (pv 9)) po_none) (pe_slice sl_list (pv 7) po_none (po_some (pv 9)))) pa_nil))))) (pss_one (ps_ret pe_bl)) pss_nil)
      (pss_cons (ps_if (pt_not (pt_val (pe_call (ok_l_list T) (hr.mono (by decide)) rfl T.p_l_list.g T.p_l_list.F.kp T.p_l_list.b .nil passR (pa_cons (pe_call (ok_flow T) (hr.mono (by decide)) rfl T.p_flow.g T.p_flow.F.kp T.p_flow.b .nil passR (pa_cons (pv 3) (pa_cons (pv 8) pa_nil))) (pa_cons (pe_compG (ts := ["_law_one"]) (fv := [("_law_many", 6)]) ⟨rfl, by decide +kernel, by decide +kernel, blkFree (by rfl), ⟨⟨rfl, rfl, Or.inl rfl⟩, trivial⟩⟩ rfl (pi_list (pe_call (ok_flow T) (hr.mono (by decide)) rfl T.p_flow.g T.p_flow.F.kp T.p_flow.b .nil passR (pa_cons (pv 3) (pa_cons (pe_callTy call_list_of (by rfl) T.n_list PySem.Pv.boot_list (pa_cons (pv 4) pa_nil)) pa_nil)))) (fun _ _ _ _ => (pg_name (i := 0) (show List.Nodup (["_law_one", "_law_many"] : List Str) from by decide +kernel) rfl (Or.inl rfl) (Or.inr rfl))) (fun _ _ _ _ => pts_nil) (fun _ _ _ => rfl) (fun _ _ _ _ _ _ => pb_emit (pe_op op_mul (pv 1) (pv 0)))) pa_nil))))) (pss_one (ps_ret pe_bl)) pss_nil)
      (pss_cons (ps_set (i := 10) sc_law.nd rfl (Or.inl rfl) (pe_call (ok_tally T) (hr.mono (by decide)) rfl T.p_tally.g T.p_tally.F.kp T.p_tally.b .nil passR (pa_cons (pv 3) (pa_cons (pe_callTy call_list_of (by rfl) T.n_list PySem.Pv.boot_list (pa_cons (pv 4) pa_nil)) pa_nil))))
      (pss_cons (ps_if (pt_not (pt_val (pe_call (ok_l_dict T) (hr.mono (by decide)) rfl T.p_l_dict.g T.p_l_dict.F.kp T.p_l_dict.b .nil passR (pa_cons (pe_call (ok_tally T) (hr.mono (by decide)) rfl T.p_tally.g T.p_tally.F.kp T.p_tally.b .nil passR (pa_cons (pv 3) (pa_cons (pv 8) pa_nil))) (pa_cons (pe_call (ok_l_named T) (hr.mono (by decide)) rfl T.p_l_named.g T.p_l_named.F.kp T.p_l_named.b .nil passR (pa_cons (pv 2) (pa_cons (pe_compG (ts := ["_law_one"]) (fv := [("_law_many", 6)]) ⟨rfl, by decide +kernel, by decide +kernel, blkFree (by rfl), ⟨⟨rfl, rfl, Or.inl rfl⟩, trivial⟩⟩ rfl (pi_list (pe_call (ok_l_tally T) (hr.mono (by decide)) rfl T.p_l_tally.g T.p_l_tally.F.kp T.p_l_tally.b .nil passR (pa_cons (pv 1) (pa_cons (pv 4) pa_nil)))) (fun _ _ _ _ => (pg_name (i := 0) (show List.Nodup (["_law_one", "_law_many"] : List Str) from by decide +kernel) rfl (Or.inl rfl) (Or.inr rfl))) (fun _ _ _ _ => pts_nil) (fun _ _ _ => rfl) (fun _ _ _ _ _ _ => pb_emit (pe_op op_mul (pv 1) (pv 0)))) pa_nil))) pa_nil))))) (pss_one (ps_ret pe_bl)) pss_nil)
      (pss_cons (ps_set (i := 11) sc_law.nd rfl (Or.inl rfl) (pe_call (ok_l_free T) (hr.mono (by decide)) rfl T.p_l_free.g T.p_l_free.F.kp T.p_l_free.b .nil passR (pa_cons (pv 1) pa_nil)))
      (pss_cons (ps_if (PW.pt (pw_and (pt_cmpR op_gt (pe_callB call_len_seq (by rfl) T.n_len PySem.boot_len (pa_cons (pv 11) pa_nil)) pe_int (nomark _)) (pw_and1 (pt_cmpR op_gt (pe_callB call_lenD (by rfl) T.n_len PySem.boot_len (pa_cons (pv 10) pa_nil)) pe_int (nomark _))))) (pss_cons (ps_set (i := 12) sc_law.nd rfl (Or.inl rfl) (pe_ix ix_list (pv 11) (pe_op op_mod (pe_op op_fdiv (pv 5) pe_int) (pe_callB call_len_seq (by rfl) T.n_len PySem.boot_len (pa_cons (pv 11) pa_nil))) (fun _ _ => rfl)))
      (pss_cons (ps_set (i := 13) sc_law.nd rfl (Or.inl rfl) (pe_call (ok_l_goals T) (hr.mono (by decide)) rfl T.p_l_goals.g T.p_l_goals.F.kp T.p_l_goals.b .nil passR (pa_cons (pv 1) (pa_cons (pv 12) (pa_cons (pe_cmpR op_eq (pe_op op_mod (pv 5) pe_int) pe_int (nomark _)) pa_nil)))))
      (pss_cons (ps_set (i := 14) sc_law.nd rfl (Or.inl rfl) (pe_call (ok_pulled T) (hr.mono (by decide)) rfl T.p_pulled.g T.p_pulled.F.kp T.p_pulled.b .nil passR (pa_cons (pv 3) (pa_cons (pe_call (ok_l_seam T) (hr.mono (by decide)) rfl T.p_l_seam.g T.p_l_seam.F.kp T.p_l_seam.b .nil passR (pa_cons (pv 2) (pa_cons (pv 12) pa_nil))) (pa_cons (pe_call (ok_l_way T) (hr.mono (by decide)) rfl T.p_l_way.g T.p_l_way.F.kp T.p_l_way.b .nil passR (pa_cons (pe_cmpR op_eq (pe_op op_mod (pv 5) pe_int) pe_int (nomark _)) pa_nil)) (pa_cons (pv 8) pa_nil))))))
      (pss_one (ps_if (pt_not (pt_val (pe_call (ok_l_list T) (hr.mono (by decide)) rfl T.p_l_list.g T.p_l_list.F.kp T.p_l_list.b .nil passR (pa_cons (pv 14) (pa_cons (pe_call (ok_l_pull T) (hr.mono (by decide)) rfl T.p_l_pull.g T.p_l_pull.F.kp T.p_l_pull.b .nil passR (pa_cons (pv 1) (pa_cons (pv 12) (pa_cons (pv 13) (pa_cons (pv 7) pa_nil))))) pa_nil))))) (pss_one (ps_ret pe_bl)) pss_nil))))) pss_nil)
      (pss_one (ps_ret (pe_cmpR (op_eqL hr.units) (pv 8) (pv 7) (nomark _))))))))))))))))))))))), ?_⟩
    refine seq_cut fun nxC hnxC => ?_
    refine ⟨_, rfl, a, sc, rfl, hS, hl, fun p m r M ns H1 sm1 hp hm hr1 td h42 hm0 hr0 => ?_⟩
    refine ⟨p, _, rfl, SqT.of hp, rfl, _, _, rfl, _, _, rfl, rfl, ?_⟩
    refine hnxC _ _ ?_
    obtain ⟨ts, g1, g2, g3⟩ := id hr1
    refine seq_cut fun nxC hnxC => ?_
    refine ⟨_, rfl, r, _, rfl, .inl (SqL.of g1), fun l hl1 => ?_⟩
    intro x dx hx hdx hne
    obtain ⟨rl2, s2⟩ := tent_new (C := t.C_Tent) g1 g2 g3 hl1 hx hdx
    refine ⟨x, l, dx, M, ns, rfl, upd_same, rl2, td, by rw [td.len]; omega, fun H3 old ta => ⟨rfl, ?_⟩⟩
    have s3 : Same H1 H3 := fun b u e => old b u (ne_of_none ((Same.new hl1) b u e) hx) (s2 b u ((Same.new hl1) b u e))
    refine hnxC _ _ ?_
    have hr3 := hr1.same s3
    have hm3 := s3 _ _ hm
    have hS3 : SqL K H3 a (sc.map V.int) := (sm1.trans s3).seq hS
    have hMl := td.len
    obtain ⟨n, n1, n40, hn⟩ := td.n
    clear old rl2 s2 g1 g2 g3 hr1 hm0 hr0 hp hm s3 sm1 hx hdx hne hl1 hS
    try dsimp only [gName]
    refine seq_cut fun nxC hnxC => ?_
    refine ⟨_, rfl, _, rfl, a, m, sc, 3, M, rfl, hS3, hl, by decide, by decide, hm3, h42, ⟨_, hn⟩, td.inv, fun wd ws H4 s4 hwd h4 hw60 hpl => ?_⟩
    refine hnxC _ _ ?_
    have ta4 := ta.same s4
    have hr4 := hr3.same s4
    have hS4 := s4.seq hS3
    have hm4 := s4 _ _ hm3
    clear ta hr3 hS3 hm3 s4 hwd
    refine seq_cut fun nxC hnxC => ?_
    refine ⟨_, rfl, wd, _, rfl, .inl (SqL.of h4), rfl, _, rfl, ?_⟩
    refine ite2 (fun z => ?_) (fun z => ?_)
    · obtain ⟨ts4, w1, w2, w3⟩ := hr4
      obtain ⟨dx4, cl4, na4, sp4, mt4, o4, ff4, b4⟩ := id ta4
      refine ⟨_, rfl, x, dx4, _, rfl, b4.ins, fl_none _ _ _ _, x, M, ns, n, rfl, ta4, by omega, _, rfl, r, _, rfl, .inl (SqL.of w1), rfl, ?_⟩
      show Q (.bl (decide (V.int n = V.int ((ts4.map V.ref).length : Nat)))) H4
      rw [List.length_map, show ts4.length = n by omega, show decide (V.int (n : Int) = V.int n) = true by simp]
      exact k _
    have hP : Pl M ws := by
      rcases hpl with rfl | hP
      · exact absurd rfl z
      · exact hP
    have hw0 : 0 < ws.length := List.length_pos_iff.mpr hP.ne
    clear hpl z
    try dsimp only [tNext]
    refine hnxC _ _ ?_
    try dsimp only [gName]
    refine seq_cut fun nxC hnxC => ?_
    refine ⟨_, rfl, a, sc, 4, rfl, hS4, hl, by decide, by decide, _, rfl, ?_⟩
    refine hnxC _ _ ?_
    try dsimp only [gName]
    clear hS4
    generalize (cell sc 4).natAbs = pick
    refine seq_cut fun nxC hnxC => ?_
    obtain ⟨X, eX⟩ : ∃ X : Int, (2000 : Int) / (ws.length : Nat) - (pick : Int) % 3 * ((pick : Int) / 3 % 30) = X := ⟨_, rfl⟩
    have eX' : (2000 : Int) / (((ws.map nV).length : Nat) : Int) - (pick : Int) % 3 * ((pick : Int) / 3 % 30) = X := by rw [List.length_map]; exact eX
    refine ⟨_, rfl, wd, _, rfl, .inl (SqL.of h4), _, _, rfl, rfl, ⟨by rw [List.length_map]; omega, by rw [List.length_map]; omega⟩, _, rfl, _, _, rfl, rfl, (by show (0 : Int) < 3; decide), _, rfl, _, _, rfl, rfl, ⟨by decide, by decide⟩, _, _, rfl, rfl, (by show (0 : Int) < 30; decide), _, _, rfl, rfl, (show CMul ((pick : Int) % 3) ((pick : Int) / 3 % 30) from .inl ⟨by omega, by omega⟩), _, _, rfl, rfl, 1, X, congrArg (fun z => [V.int 1, V.int z]) eX', ?_⟩
    refine hnxC _ _ ?_
    try dsimp only [gName]
    obtain ⟨mm, em, m1, m2⟩ := many_is hw0 hw60 eX
    rw [em]
    clear em eX eX' X
    have m3 : mm ≤ 2000 := Nat.le_trans (Nat.le_mul_of_pos_right _ hw0) m2
    refine seq_cut fun nxC hnxC => ?_
    refine ⟨_, rfl, _, rfl, wd, _, _, rfl, rfl, h4, by omega, by omega, ?_, fun ro hro => ?_⟩
    · rw [List.length_map, Int.toNat_natCast, Nat.mul_comm]; exact small_word (by omega)
    rw [rpV]
    refine hnxC _ _ ?_
    try dsimp only [gName]
    have hRl : (rp mm ws).length = mm * ws.length := repl_len ws mm
    have hPR : Pl M (rp mm ws) := hP.rep m1
    have lR := let_rp M mm ws
    have fR := fl_rp M mm ws
    have cR := cr_rp M mm ws
    have bR := back_rp M mm ws
    have tR := fun x => turns_rp (M := M) m1 hw0 x
    have pR : ∀ d, MinP (wI ws) d → MinP (wI (rp mm ws)) d := fun d h => by rw [show wI (rp mm ws) = rp mm (wI ws) from rp_map _ mm ws]; exact h.times m1
    have s5 : Same H4 (upd H4 ro (.lst ((rp mm ws).map nV))) := Same.new hro
    have h5 : (upd H4 ro (.lst ((rp mm ws).map nV))) ro = some (.lst ((rp mm ws).map nV)) := upd_same
    generalize upd H4 ro (.lst ((rp mm ws).map nV)) = H5 at s5 h5 ⊢
    generalize hR : rp mm ws = R at *
    have hR0 : 0 < R.length := List.length_pos_iff.mpr hPR.ne
    have hR2 : R.length ≤ 2000 := by omega
    refine seq_cut fun nxC hnxC => ?_
    refine ⟨_, rfl, ro, _, rfl, .inl (SqL.of h5), fun hd hhd => ?_⟩
    refine hnxC _ _ ?_
    try dsimp only [gName]
    have s6 : Same H5 (upd H5 hd (.lst (R.map nV))) := Same.new hhd
    have h6 : (upd H5 hd (.lst (R.map nV))) hd = some (.lst (R.map nV)) := upd_same
    generalize upd H5 hd (.lst (R.map nV)) = H6 at s6 h6 ⊢
    have s46 := s5.trans s6
    have ta6 := ta4.same s46
    have hr6 := hr4.same s46
    have hm6 := s46 _ _ hm4
    have hw6 := s46 _ _ h4
    have ho6 := s6 _ _ h5
    clear ta4 hr4 hm4 h4 h5 s5 s6 s46 hro hhd
    refine seq_cut fun nxC hnxC => ?_
    refine ⟨_, rfl, _, _, rfl, rfl, ⟨by decide, by decide⟩, _, rfl, ro, _, rfl, .inl (SqL.of ho6), _, _, rfl, rfl, (by rw [List.length_map]; omega), ?_⟩
    refine hnxC _ _ ?_
    try dsimp only [gName]
    rw [List.length_map]
    have k0 := Int.emod_nonneg ((pick : Int) / 90) (show (R.length : Int) ≠ 0 by omega)
    have k1 := Int.emod_lt_of_pos ((pick : Int) / 90) (show (0 : Int) < R.length by omega)
    obtain ⟨st, hst⟩ : ∃ st : Nat, (pick : Int) / 90 % (R.length : Int) = st := ⟨_, (Int.toNat_of_nonneg k0).symm⟩
    have hsl : st < R.length := by omega
    rw [hst]
    clear hst k0 k1
    refine seq_cut fun nxC hnxC => ?_
    refine ⟨_, rfl, _, rfl, x, hd, M, ns, wI R, rfl, ta6, hMl.symm, by rw [h6, nv_wI], by rw [wI_len]; omega, fun H7 s7 => ?_⟩
    refine ⟨true, by rw [plain_iff.mpr hPR]; rfl, _, rfl, iteF ?_⟩
    refine ⟨_, rfl, _, rfl, x, hd, M, ns, R, rfl, ta6.same s7, hMl.symm, s7 _ _ h6, by omega, hPR, fun b1 H8 s8 hb1 h8 => ?_⟩
    have s68 := s7.trans s8
    refine ⟨_, rfl, _, rfl, x, wd, M, ns, ws, rfl, ta6.same s68, hMl.symm, s68 _ _ hw6, by omega, hP, fun b2 H9 s9 hb2 h9 => ?_⟩
    refine ⟨_, rfl, b2, _, _, rfl, rfl, h9, by omega, by omega, ?_, fun b3 hb3 => ?_⟩
    · rw [List.length_map, backL_len, Int.toNat_natCast, Nat.mul_comm]; exact small_word (by omega)
    rw [rpV, ← bR]
    have s9b : Same H9 (upd H9 b3 (.lst ((backL M R).map nV))) := Same.new hb3
    refine ⟨b1, b3, wI (backL M R), rfl, by rw [← nv_wI]; exact (s9.trans s9b) _ _ h8, by rw [← nv_wI]; exact upd_same, by rw [wI_len, backL_len]; omega, _, rfl, iteF ?_⟩
    try dsimp only [tNext]
    refine hnxC _ _ ?_
    have s6A := (s68.trans s9).trans s9b
    generalize upd H9 b3 (.lst ((backL M R).map nV)) = HA at s6A
    have taA := ta6.same s6A
    have hrA := hr6.same s6A
    have hmA := s6A _ _ hm6
    have hwA := s6A _ _ hw6
    have hoA := s6A _ _ ho6
    have hhA := s6A _ _ h6
    clear ta6 hr6 hm6 hw6 ho6 h6 s6A s68 s7 s8 s9 s9b h8 h9 hb1 hb2 hb3 bR
    refine seq_cut fun nxC hnxC => ?_
    refine ⟨_, rfl, _, rfl, x, hd, M, ns, R, rfl, taA, hMl.symm, hhA, by omega, hPR, fun l1 L1 HB sB hl1 hB mB => ?_⟩
    refine ⟨_, rfl, _, rfl, wd, _, rfl, .inl (SqL.of (sB _ _ hwA)), fun lw hlw => ?_⟩
    have sw : Same HB (upd HB lw (.lst (ws.map nV))) := Same.new hlw
    refine ⟨x, lw, M, ns, ws, rfl, (taA.same sB).same sw, hMl.symm, upd_same, by omega, hP, fun l2 L2 HC sC hl2 hC mC => ?_⟩
    have eL : L1 = rp mm L2 := mB.eq (least_rp m1 mC (fun y hy => turns_len hy) tR) (fun _ => Iff.rfl)
    have hL2 := turns_len mC.1
    refine ⟨_, rfl, l2, _, _, rfl, rfl, hC, by omega, by omega, ?_, fun l3 hl3 => ?_⟩
    · rw [List.length_map, hL2, Int.toNat_natCast, Nat.mul_comm]; exact small_word (by omega)
    rw [rpI, ← eL]
    have s3 : Same HC (upd HC l3 (.lst (L1.map V.int))) := Same.new hl3
    refine ⟨l1, l3, L1, rfl, ((sw.trans sC).trans s3) _ _ hB, upd_same, by rw [turns_len mB.1]; omega, _, rfl, iteF ?_⟩
    try dsimp only [tNext]
    refine hnxC _ _ ?_
    have sAD := ((sB.trans sw).trans sC).trans s3
    generalize upd HC l3 (.lst (L1.map V.int)) = HD at sAD
    have taD := taA.same sAD
    have hrD := hrA.same sAD
    have hmD := sAD _ _ hmA
    have hwD := sAD _ _ hwA
    have hoD := sAD _ _ hoA
    have hhD := sAD _ _ hhA
    clear taA hrA hmA hwA hoA hhA sAD sB sw sC s3 hB hC hl1 hl2 hl3 hlw eL mB mC hL2
    refine seq_cut fun nxC hnxC => ?_
    refine ⟨_, rfl, _, rfl, x, hd, M, ns, wI R, rfl, taD, hMl.symm, by rw [hhD, nv_wI], by rw [wI_len]; omega, plain_iff.mpr hPR, fun HE d1 sE a1 a2 a3 a4 => ?_⟩
    refine ⟨_, rfl, _, rfl, _, rfl, wd, _, rfl, .inl (SqL.of (sE _ _ hwD)), fun lw hlw => ?_⟩
    have sw : Same HE (upd HE lw (.lst (ws.map nV))) := Same.new hlw
    have hlw' : (upd HE lw (.lst (ws.map nV))) lw = some (.lst ((wI ws).map V.int)) := by rw [← nv_wI]; exact upd_same
    refine ⟨x, lw, M, ns, wI ws, rfl, (taD.same sE).same sw, hMl.symm, hlw', by rw [wI_len]; omega, plain_iff.mpr hP, fun HF d2 sF b1 b2 b3 b4 => ?_⟩
    have eT : ((wI R).length / d1 : Nat) = mm * ((wI ws).length / d2) := by
      have e : wI R = rp mm (wI ws) := by rw [← hR]; exact rp_map _ mm ws
      have h1 : MinP (wI ws) d2 := ⟨b1, b2, b3, b4⟩
      have h2 : MinP (rp mm (wI ws)) d1 := by rw [← e]; exact ⟨a1, a2, a3, a4⟩
      rw [e]
      exact times_rp h1 h2 m1
    refine ⟨_, _, rfl, rfl, (show CMul (mm : Int) _ from .inl ⟨by omega, by omega⟩), rfl, _, rfl, ?_⟩
    refine iteNe' (congrArg V.int (by rw [eT, Int.natCast_mul])) ?_
    have sDF := (sE.trans sw).trans sF
    refine ⟨_, rfl, _, rfl, x, hd, M, ns, R, rfl, taD.same sDF, hMl.symm, sDF _ _ hhD, by omega, hPR, fun HG sG => ?_⟩
    have sDG := sDF.trans sG
    refine ⟨_, rfl, _, rfl, x, wd, M, ns, ws, rfl, taD.same sDG, hMl.symm, sDG _ _ hwD, by omega, hP, fun HI sI => ?_⟩
    obtain ⟨j1, j2, j3⟩ := join_walk (letL_lr M ws)
    have jl : (Txt.join (Str.ofString "") (letL M ws)).length = ws.length := by rw [← letL_len M ws hw0]; exact j2
    refine ⟨_, rfl, _, _, rfl, rfl, mulOkN (by rw [jl]; omega) m3, rfl, _, rfl, ?_⟩
    refine iteNe' (congrArg V.str (by rw [lR]; exact join_rp m1 (by rw [jl]; omega))) ?_
    refine hnxC _ _ ?_
    have sDI := sDG.trans sI
    have taI := taD.same sDI
    have hrI := hrD.same sDI
    have hmI := sDI _ _ hmD
    have hwI := sDI _ _ hwD
    have hoI := sDI _ _ hoD
    have hhI := sDI _ _ hhD
    clear taD hrD hmD hwD hoD hhD sDI sI sDG sG sDF sF sw sE j1 j2 j3 jl eT hlw hlw' a1 a2 a3 a4 b1 b2 b3 b4 lR
    have hoJ : HI ro = some (.lst ((wI R).map V.int)) := by rw [← nv_wI]; exact hoI
    refine seq_cut fun nxC hnxC => ?_
    refine ⟨_, rfl, _, rfl, _, rfl, _, rfl, _, rfl, ro, _, rfl, SqL.of hoJ, fun la hla => ?_⟩
    rw [cut_from (by rw [wI_len]; omega)]
    have sa : Same HI (upd HI la (.lst (((wI R).drop st).map V.int))) := Same.new hla
    refine ⟨_, rfl, _, rfl, _, rfl, ro, _, rfl, SqL.of (sa _ _ hoJ), fun lb hlb => ?_⟩
    rw [cut_to (by rw [wI_len]; omega)]
    obtain ⟨neb, hlb'⟩ := upd_none hlb
    refine ⟨la, lb, _, _, rfl, rfl, by rw [upd_ne (Ne.symm neb), upd_same], upd_same, ?_, fun lc hlc => ?_⟩
    · rw [List.length_map, List.length_map, List.length_drop, List.length_take, wI_len]; exact small_word (by omega)
    rw [cat_rot']
    have sb := Same.add (o := .lst (((wI R).take st).map V.int)) sa hlb'
    have sc2 := Same.add (o := .lst ((rot R st).map nV)) sb (sb.free hlc)
    have hc : (upd (upd (upd HI la (.lst (((wI R).drop st).map V.int))) lb (.lst (((wI R).take st).map V.int))) lc (.lst ((rot R st).map nV))) lc = some (.lst ((rot R st).map nV)) := upd_same
    generalize upd (upd (upd HI la (.lst (((wI R).drop st).map V.int))) lb (.lst (((wI R).take st).map V.int))) lc (.lst ((rot R st).map nV)) = HJ at sc2 hc ⊢
    refine ⟨x, hd, lc, M, ns, R, rot R st, rfl, taI.same sc2, hMl.symm, sc2 _ _ hhI, hc, by omega, by rw [rot_len _ (Nat.le_of_lt hsl)]; omega, hPR, hPR.rot1 hsl, fun L1 L2 HK sK q1 q2 => ?_⟩
    have eL : L1 = L2 := q1.eq q2 (fun y => (turns_rot (Nat.le_of_lt hsl) hR0 y).symm)
    refine ⟨true, by rw [decide_eq_true eL]; rfl, _, rfl, iteF ?_⟩
    try dsimp only [tNext]
    refine hnxC _ _ ?_
    have sIK := sc2.trans sK
    have taK := taI.same sIK
    have hrK := hrI.same sIK
    have hmK := sIK _ _ hmI
    have hwK := sIK _ _ hwI
    have hoK := sIK _ _ hoJ
    have hhK := sIK _ _ hhI
    clear taI hrI hmI hwI hoI hhI hoJ sIK sK sc2 sb sa hc hla hlb hlb' hlc neb eL q1 q2
    refine seq_cut fun nxC hnxC => ?_
    refine ⟨_, rfl, _, rfl, hd, wI R, st, rfl, by rw [← nv_wI]; exact hhK, by rw [wI_len]; omega, fun lt HL sL hlt hL => ?_⟩
    have et : turnI (wI R) (st : Int) = wI (rot R st) := by
      unfold turnI
      rw [wI_len, show ((st : Int) % (R.length : Int)).toNat = st by rw [← Int.natCast_emod, Int.toNat_natCast, Nat.mod_eq_of_lt hsl]]
      unfold rot wI
      rw [List.map_append, List.map_drop, List.map_take]
    rw [et] at hL
    have hoL := sL _ _ hoK
    refine ⟨_, rfl, _, rfl, _, rfl, ro, _, rfl, SqL.of hoL, fun la hla => ?_⟩
    rw [cut_from (by rw [wI_len]; omega)]
    have sa : Same HL (upd HL la (.lst (((wI R).drop st).map V.int))) := Same.new hla
    refine ⟨_, rfl, _, rfl, _, rfl, ro, _, rfl, SqL.of (sa _ _ hoL), fun lb hlb => ?_⟩
    rw [cut_to (by rw [wI_len]; omega)]
    obtain ⟨neb, hlb'⟩ := upd_none hlb
    refine ⟨la, lb, _, _, rfl, rfl, by rw [upd_ne (Ne.symm neb), upd_same], upd_same, ?_, fun lc hlc => ?_⟩
    · rw [List.length_map, List.length_map, List.length_drop, List.length_take, wI_len]; exact small_word (by omega)
    rw [cat_rot']
    have sb := Same.add (o := .lst (((wI R).take st).map V.int)) sa hlb'
    have sc2 := Same.add (o := .lst ((rot R st).map nV)) sb (sb.free hlc)
    have hc : (upd (upd (upd HL la (.lst (((wI R).drop st).map V.int))) lb (.lst (((wI R).take st).map V.int))) lc (.lst ((rot R st).map nV))) lc = some (.lst ((rot R st).map nV)) := upd_same
    generalize upd (upd (upd HL la (.lst (((wI R).drop st).map V.int))) lb (.lst (((wI R).take st).map V.int))) lc (.lst ((rot R st).map nV)) = HM at sc2 hc ⊢
    refine ⟨lt, lc, wI (rot R st), rfl, sc2 _ _ hL, by rw [← nv_wI]; exact hc, by rw [wI_len, rot_len _ (Nat.le_of_lt hsl)]; omega, _, rfl, iteF ?_⟩
    try dsimp only [tNext]
    refine hnxC _ _ ?_
    have sKM := sL.trans sc2
    have taM := taK.same sKM
    have hrM := hrK.same sKM
    have hmM := sKM _ _ hmK
    have hwM := sKM _ _ hwK
    have hoM := sKM _ _ hoK
    have hhM := sKM _ _ hhK
    clear taK hrK hmK hwK hoK hhK sKM sL sc2 sb sa hc hla hlb hlb' hlc neb et hL hlt hoL tR
    have hMn : M.length ≤ 1000 := by omega
    refine seq_cut fun nxC hnxC => ?_
    refine ⟨_, rfl, _, rfl, x, hd, M, ns, R, rfl, taM, hMl.symm, hMn, td.inv, hhM, by omega, hPR, fun f1 HN sN hf1 hN => ?_⟩
    refine ⟨_, rfl, _, rfl, wd, _, rfl, .inl (SqL.of (sN _ _ hwM)), fun lw hlw => ?_⟩
    have sw : Same HN (upd HN lw (.lst (ws.map nV))) := Same.new hlw
    refine ⟨x, lw, M, ns, ws, rfl, (taM.same sN).same sw, hMl.symm, hMn, td.inv, upd_same, by omega, hP, fun f2 Ho2 sO hf2 hO => ?_⟩
    rw [rowI_int] at hO
    refine ⟨f2, rfl, ⟨_, SqL.of hO⟩, fun D hD => ?_⟩
    refine loop_list (xs := ((List.range M.length).map (flP M ws)).map V.int) (fun i σ HP => ∃ v, σ = [v, some (.int mm)] ∧ Same Ho2 HP ∧ HP D = some (.lst ((((List.range M.length).map (flP M R)).take i).map V.int))) ⟨none, rfl, Same.new hD, upd_same⟩ ?_ ?_ ?_
    · rintro i σ HP _ ⟨v, rfl, sm, h7⟩
      exact SqL.of (sm _ _ hO)
    · rintro i y σ HP hy ⟨v, rfl, sm, h7⟩
      obtain ⟨z, hz, rfl⟩ := map_some hy
      obtain ⟨q, hq, rfl⟩ := map_some' hz
      dsimp only [gName, tYes]
      rw [if_pos rfl]
      refine ⟨_, rfl, _, rfl, _, _, rfl, rfl, (show CMul (mm : Int) _ from .inl ⟨by omega, by omega⟩), _, h7, ?_, _, rfl, Same.add sm hD, ?_⟩
      · rw [List.length_map, List.length_take, List.length_map, List.length_range]; exact small1000 (by omega)
      · rw [upd_same, List.take_add_one, List.getElem?_map, hq, List.map_append]
        show some (HO.lst (_ ++ [V.int ((mm : Int) * flP M ws q)])) = some (HO.lst (_ ++ [V.int (flP M R q)]))
        rw [fR]
    rintro σ HP ⟨v, rfl, sP, hP7⟩
    rw [List.length_map, List.length_map, List.length_range, List.take_of_length_le (by rw [List.length_map, List.length_range]; exact Nat.le_refl _)] at hP7
    rw [rowI_int] at hN
    refine ⟨f1, D, (List.range M.length).map (flP M R), rfl, ((sw.trans sO).trans sP) _ _ hN, hP7, by rw [List.length_map, List.length_range]; omega, _, rfl, iteF ?_⟩
    try dsimp only [tNext]
    refine hnxC _ _ ?_
    have sMP := ((sN.trans sw).trans sO).trans sP
    have taP := taM.same sMP
    have hrP := hrM.same sMP
    have hmP := sMP _ _ hmM
    have hwP := sMP _ _ hwM
    have hoP := sMP _ _ hoM
    have hhP := sMP _ _ hhM
    clear taM hrM hmM hwM hoM hhM sMP sN sw sO sP hN hO hP7 hf1 hf2 hlw hD fR
    have h64 : ns.length < 64 := by omega
    refine seq_cut fun nxC hnxC => ?_
    refine ⟨_, rfl, _, rfl, wd, _, rfl, .inl (SqL.of hwP), fun lw hlw => ?_⟩
    have sw : Same HP (upd HP lw (.lst (ws.map nV))) := Same.new hlw
    refine ⟨x, lw, M, ns, ws, rfl, taP.same sw, td, h64, upd_same, by omega, hP, fun cd ks HQ sQ hcd pk hQ => ?_⟩
    refine hnxC _ _ ?_
    try dsimp only [gName]
    have sPQ := sw.trans sQ
    have taQ := taP.same sPQ
    have hrQ := hrP.same sPQ
    have hmQ := sPQ _ _ hmP
    have hwQ := sPQ _ _ hwP
    have hoQ := sPQ _ _ hoP
    have hhQ := sPQ _ _ hhP
    clear taP hrP hmP hwP hoP hhP sPQ sw sQ hlw hcd
    refine seq_cut fun nxC hnxC => ?_
    refine ⟨_, rfl, _, rfl, x, hd, M, ns, R, rfl, taQ, td, h64, hhQ, by omega, hPR, fun d1 ks1 HR sR hd1 pk1 hR1 => ?_⟩
    refine ⟨_, rfl, _, rfl, _, rfl, m, wd, M, ws, rfl, sR _ _ hmQ, hMn, td.inv, sR _ _ hwQ, hP, fun c1 HS sS hc1 hS1 => ?_⟩
    rw [rowI_int] at hS1
    refine ⟨c1, rfl, ⟨_, SqL.of hS1⟩, fun D hD => ?_⟩
    refine loop_list (xs := ((List.range M.length).map (crP M ws)).map V.int) (fun i σ HT => ∃ v, σ = [v, some (.int mm)] ∧ Same HS HT ∧ HT D = some (.lst ((((List.range M.length).map (crP M R)).take i).map V.int))) ⟨none, rfl, Same.new hD, upd_same⟩ ?_ ?_ ?_
    · rintro i σ HT _ ⟨v, rfl, sm, h7⟩
      exact SqL.of (sm _ _ hS1)
    · rintro i y σ HT hy ⟨v, rfl, sm, h7⟩
      obtain ⟨z, hz, rfl⟩ := map_some hy
      obtain ⟨q, hq, rfl⟩ := map_some' hz
      dsimp only [gName, tYes]
      rw [if_pos rfl]
      refine ⟨_, rfl, _, rfl, _, _, rfl, rfl, (show CMul (mm : Int) _ from .inl ⟨by omega, by omega⟩), _, h7, ?_, _, rfl, Same.add sm hD, ?_⟩
      · rw [List.length_map, List.length_take, List.length_map, List.length_range]; exact small1000 (by omega)
      · rw [upd_same, List.take_add_one, List.getElem?_map, hq, List.map_append]
        show some (HO.lst (_ ++ [V.int ((mm : Int) * crP M ws q)])) = some (HO.lst (_ ++ [V.int (crP M R q)]))
        rw [cR]
    rintro σ HT ⟨v, rfl, sT, hT⟩
    rw [List.length_map, List.length_map, List.length_range, List.take_of_length_le (by rw [List.length_map, List.length_range]; exact Nat.le_refl _), ← rowI_int, ← hMl] at hT
    have sRT := sS.trans sT
    refine ⟨r, D, ns, crP M R, rfl, (hrQ.same sR).same sRT, by omega, hT, fun d2 g HU sU hd2 hU hg => ?_⟩
    have hR1' := sRT _ _ hR1
    have nd : d1 ≠ d2 := fun z => by rw [z, hd2] at hR1'; cases hR1'
    refine ⟨d1, d2, ks1, keys ns ns.length, _, g, rfl, sU _ _ hR1', hU, nd, pk1, (fun y hy => by
      obtain ⟨p, e1, e2⟩ := hg y (pk1.mem_iff.mp hy)
      rw [e2]; exact cross_eq td e1 R), _, rfl, iteF ?_⟩
    try dsimp only [tNext]
    refine hnxC _ _ ?_
    have sQU := (sR.trans sRT).trans sU
    have taU := taQ.same sQU
    have hrU := hrQ.same sQU
    have hmU := sQU _ _ hmQ
    have hoU := sQU _ _ hoQ
    have hhU := sQU _ _ hhQ
    have hcU := sQU _ _ hQ
    clear taQ hrQ hmQ hwQ hoQ hhQ hQ sQU sR sRT sU sS sT hR1 hR1' hS1 hT hU hd1 hd2 hc1 hD nd hg cR
    refine seq_cut fun nxC hnxC => ?_
    refine ⟨_, rfl, m, M, rfl, hmU, hMn, td.inv, fun fl HV sV hfl hV => ?_⟩
    refine hnxC _ _ ?_
    try dsimp only [gName]
    have taV := taU.same sV
    have hrV := hrU.same sV
    have hmV := sV _ _ hmU
    have hoV := sV _ _ hoU
    have hhV := sV _ _ hhU
    have hcV := sV _ _ hcU
    clear taU hrU hmU hoU hhU hcU sV hfl
    refine seq_post (fun σ H' => Same HV H' ∧ ∃ v12 v13 v14, σ = [some (.ref a), some (.ref m), some (.ref r), some (.ref x), some (.ref wd), some (.int pick), some (.int mm), some (.ref ro), some (.ref hd), some (.int st), some (.ref cd), some (.ref fl), v12, v13, v14]) (fun nx hnx => ?_) ?_
    · refine ⟨_, rfl, fl, _, rfl, .inl (SqL.of hV), _, _, rfl, rfl, _, rfl, ?_⟩
      refine ite2 (fun z1 => ?_) (fun z1 => iteF (hnx _ _ ⟨Same.refl _, _, _, _, rfl⟩))
      refine ⟨_, rfl, cd, _, rfl, hcV, _, _, rfl, rfl, _, rfl, ?_⟩
      refine ite2 (fun z2 => ?_) (fun z2 => hnx _ _ ⟨Same.refl _, _, _, _, rfl⟩)
      have hf0 : 0 < (freeL M).length := by
        have y : (((freeL M).map nV).length : Int) > 0 := of_decide_eq_true z1
        rw [List.length_map] at y
        omega
      clear z1 z2
      obtain ⟨q, e0, hqf⟩ := pick_at (pick := (pick : Int) / 7) hf0
      refine seq_cut fun nxC hnxC => ?_
      refine ⟨_, rfl, _, rfl, _, _, rfl, rfl, ⟨by decide, by decide⟩, _, rfl, fl, _, rfl, .inl (SqL.of hV), _, _, rfl, rfl, (by rw [List.length_map]; omega), fl, _, _, _, rfl, rfl, SqL.of hV, e0, ?_⟩
      refine hnxC _ _ ?_
      clear e0 hf0
      try dsimp only [gName]
      obtain ⟨j, hj, hqj, hc⟩ := free_mem hqf
      have hqM : q < M.length := (List.getElem?_eq_some_iff.mp hj).1
      obtain ⟨nmq, hnm⟩ : ∃ z, ns[q]? = some z := ⟨_, List.getElem?_eq_getElem (by omega)⟩
      obtain ⟨hk, hpl⟩ := pl_two td hj hqj hnm
      generalize hleft : decide (V.int ((pick : Int) % 2) = V.int 0) = left
      refine seq_cut fun nxC hnxC => ?_
      refine ⟨_, rfl, _, rfl, _, rfl, _, _, rfl, rfl, (by show (0 : Int) < 2; decide), rfl, m, M, n, q, j, left, congrArg (fun b => [V.ref m, V.int (q : Int), V.bl b]) hleft, hmV, hn, n40, hj, (td.inv q j hj).1, hc, fun gl HW sW hgl hW => ?_⟩
      refine hnxC _ _ ?_
      try dsimp only [gName]
      refine seq_cut fun nxC hnxC => ?_
      refine ⟨_, rfl, _, rfl, _, rfl, r, ns, q, nmq, rfl, hrV.same sW, hnm, _, rfl, _, _, rfl, rfl, (by show (0 : Int) < 2; decide), rfl, left, congrArg (fun b => [V.bl b]) hleft, _, rfl, x, hd, M, ns, nmq, left, q, j, R, rfl, taV.same sW, td, hk, hpl, hc, sW _ _ hhV, by omega, hPR, fun fo HX sX hfo hX => ?_⟩
      refine hnxC _ _ ?_
      try dsimp only [gName]
      have sVX := sW.trans sX
      have hoX : HX ro = some (.lst (R.map nV)) := by rw [nv_wI]; exact sVX _ _ hoV
      have hpl2 := pullL_len M left q j (pairsL (keptL q j R))
      rw [pairs_len] at hpl2
      have hkl : (keptL q j R).length ≤ R.length := List.length_filter_le _ _
      refine ⟨_, rfl, _, rfl, _, rfl, _, rfl, _, rfl, m, gl, ro, M, left, q, j, R, rfl, sVX _ _ hmV, hj, hc, td.inv, sX _ _ hW, hoX, by omega, hPR, fun fp HY sY hfp hY => ?_⟩
      refine ⟨fo, fp, wI (pullL M left q j (pairsL (keptL q j R))), rfl, by rw [← nv_wI]; exact sY _ _ hX, by rw [← nv_wI]; exact hY, by rw [wI_len]; omega, _, rfl, iteF ?_⟩
      exact hnx _ _ ⟨sVX.trans sY, _, _, _, rfl⟩
    rintro σ H9 ⟨s9, v12, v13, v14, rfl⟩
    refine ⟨_, rfl, _, rfl, hd, ro, wI R, wI R, rfl, rfl, by rw [← nv_wI]; exact SqL.of (s9 _ _ hhV), SqL.of (s9 _ _ hoV), ?_⟩
    rw [decide_eq_true rfl]
    exact k _
end
end KT
set_option maxHeartbeats 4000000
open PySem PySem.W PyProof.Rows
namespace PySem.W.Fast
def tw13531996660426459273 := 0
def tw12351809936122939498 := 0
def tw9715774402342066684 := 0
def tw4471805439748763778 := 0
def tw17595004100208646662 := 0
def tw13850016047960588371 := 0
def tw16509400559311818325 := 0
def tw17441967277181052838 := 0
def tw16973759287432472138 := 0
def tw10498090136737645710 := 0
def tw16801811344987640319 := 0
def tw18286873632039854453 := 0
def tw10103730366194068005 := 0
def tw14644151976222674622 := 0
def tw14263373319739542351 := 0
def tw3940982569799499034 := 0
def tw13009599772194694046 := 0
def tw17125693307895319962 := 0
def tw10499260517825351814 := 0
def tw18280405583555794518 := 0
def tw2807676831683839141 := 0
def tw1020795503963979099 := 0
def tw925456820880831218 := 0
def tw15453966110337526273 := 0
def tw444655992747177809 := 0
def tw8816450124443684514 := 0
def tw4186465199884406653 := 0
def tw1500526377984081350 := 0
def tw6462842303269007571 := 0
def tw5799759702562191923 := 0
def tw6379953002327561480 := 0
def tw898462525116423638 := 0
def tw8267273274069451599 := 0
def tw7191565055511199515 := 0
def tw12783599181636627443 := 0
def tw9077510462575470448 := 0
def tw7412625752494978783 := 0
def tw16092149005067660656 := 0
def tw11792623527078268379 := 0
def tw5411372320631260746 := 0
def tw12759451087999389596 := 0
def tw30167955652243661 := 0
def tw4938019956468715243 := 0
def tw10866963742119384157 := 0
def tw202793771712159889 := 0
def tw2773099881423767041 := 0
def tw1464123656792633741 := 0
def tw14284237094238186719 := 0
def tw11071598776721665807 := 0
def tw4366542252723044043 := 0
def tw1277068749734629399 := 0
def tw12680701580169115465 := 0
def tw1584249063079182552 := 0
def tw3046675427674488491 := 0
def tw14391117622540311760 := 0
def tw5099418733093465485 := 0
def tw7998937146014705891 := 0
def tw5835727712455112015 := 0
def tw4785818401242765947 := 0
def tw4939228375612902699 := 0
def tw17803441634154725255 := 0
def tw17753835483744231893 := 0
def tw13534581728476809705 := 0
def tw17094078609767212467 := 0
def tw9746838597161258840 := 0
def tw5829143526587236564 := 0
def tw7335260571843407503 := 0
def tw18101810783198205750 := 0
def tw8087631725878175461 := 0
def tw15387960399102712144 := 0
def tw10919038475529346070 := 0
def tw6214452563654308388 := 0
def tw7631375710348753751 := 0
def tw13937587983012310241 := 0
def tw8854131106213422147 := 0
def tw4496937611620484959 := 0
def tw15039385393587812124 := 0
def tw13958643642831992622 := 0
def tw5515168084731830504 := 0
def tw3098776105246606426 := 0
def tw14816973714363447935 := 0
def tw2093111288360360067 := 0
def tw5794201757066261444 := 0
def tw13966073073855649700 := 0
def tw4789573210653789189 := 0
def tw9656173438436923732 := 0
def tw16345104553144557796 := 0
def tw917635114544844802 := 0
def tw12746585657516020954 := 0
def tw17964086815498753922 := 0
def tw3749560860718623699 := 0
def tw10159740865278773617 := 0
def tw17168044705070178954 := 0
def tw468351111540345472 := 0
def tw15559181473288780706 := 0
def tw2176023694257420022 := 0
def tw12140249415718651672 := 0
def tw14715531461357662846 := 0
def tw5532714745685741161 := 0
def tw16535924927764743554 := 0
def tw1173689926240297453 := 0
def tw11764856272595155131 := 0
def tw14477148227685996481 := 0
def tw13336725851553903603 := 0
def tw9444893754107703685 := 0
def tw10599134857618782271 := 0
def tw3813049704789154973 := 0
def tw12276376570897370476 := 0
def tw15210699766671781276 := 0
def tw11188479803975193279 := 0
def tw17049203172528359333 := 0
def tw11620910459081068418 := 0
def tw11839391243866432811 := 0
def tw16776175512341579182 := 0
def tw16572374409075783063 := 0
def tw7726078231623757766 := 0
def tw1856294767985643194 := 0
def tw764198387242164559 := 0
def tw8996663043575017534 := 0
def tw7549134724331073747 := 0
def tw12440116790469897933 := 0
def tw8689425022852357331 := 0
def tw15091027142967435422 := 0
def tw8824195292336221384 := 0
def tw12025600547475018581 := 0
def tw15615290872830512955 := 0
def tw9302204317041906304 := 0
def tw13479431865639881333 := 0
def tw12210648267703691054 := 0
def tw3326514289502674091 := 0
def tw4732837526573474338 := 0
def tw3436396611602484836 := 0
def tw1489836063032350501 := 0
def tw8455975597391837095 := 0
def tw9966474467045174090 := 0
def tw11870663588633525627 := 0
def tw4287721136312587049 := 0
def tw10650249014850601959 := 0
def tw2878343749131908856 := 0
def tw8058291584285676633 := 0
def tw8707569741492545856 := 0
def tw16379366830817931288 := 0
def tw12158079397783021262 := 0
def tw17246735282721925603 := 0
def tw5026181092269630302 := 0
def tw7746112829494231597 := 0
def tw2452625210841112066 := 0
def tw3499463777864405845 := 0
def tw10588833565034975841 := 0
def tw15868271787795301590 := 0
def tw9574155534218695860 := 0
def tw15082594290783456062 := 0
def tw17437227323802401203 := 0
def tw16637608975109891688 := 0
def tw10593172118225487770 := 0
def tw16691295242029823978 := 0
def tw17834836432066541962 := 0
def tw124450181555754883 := 0
def tw16508231418959507368 := 0
def tw4612556562648130039 := 0
def tw11226586209570517919 := 0
def tw4535317086434149709 := 0
def tw3759230228544272639 := 0
def tw7093113980785852219 := 0
def tw1048753738087800303 := 0
def tw193047380768644170 := 0
def tw3708228051144226300 := 0
def tw12428703361064016796 := 0
def tw6000574834534158332 := 0
def tw14346989799619281635 := 0
def tw13517838391055481374 := 0
def tw6997829808188963043 := 0
def tw16675295129863300453 := 0
def tw7605417876005631043 := 0
def tw9399750709201826163 := 0
def tw1956120513804847328 := 0
def tw16696731392683215691 := 0
def tw18355315288913580656 := 0
def tw15739188567675407937 := 0
def tw8098387195091109187 := 0
def tw6007608714820566585 := 0
def tw14233367340442014970 := 0
def tw14647450621677862305 := 0
def tw8588771742055837531 := 0
def tw2230381787374841061 := 0
def tw5811838659456716805 := 0
def tw1140056443664190583 := 0
def tw5321623061901754791 := 0
def tw1559394760571573158 := 0
def tw7693880560236013631 := 0
def tw3670972313773825170 := 0
def tw7816307098806974945 := 0
def tw825770920695721990 := 0
def tw17344168197654823738 := 0
def tw1676388398186526540 := 0
def tw16043946856746921312 := 0
def tw2144395920344348389 := 0
def tw12822316025341033657 := 0
def tw13298998519745080114 := 0
def tw7552552683444337889 := 0
def tw1460753096447614752 := 0
def tw3456757172698023473 := 0
def tw12920769845759796396 := 0
def tw6402800460104124780 := 0
def tw8692495006727893613 := 0
def tw7915334521471708243 := 0
def tw8376950079201523135 := 0
def tw608834921051542878 := 0
def tw3519958869809694451 := 0
def tw7763613936613517202 := 0
def tw4140251477793373313 := 0
def tw5599862636104660927 := 0
def tw11489968571677104702 := 0
def tw15080000800979642983 := 0
def tw8499334105557133770 := 0
def tw5857352780715834534 := 0
def tw14500273540259599874 := 0
def tw4258875517463094995 := 0
def tw926224441367140750 := 0
def tw5014077005575804405 := 0
def tw3137487787958921528 := 0
def tw3255854631490926675 := 0
def tw15906763328100719602 := 0
def tw6886452511993654196 := 0
def tw18192943711025006312 := 0
def tw12080444966251590970 := 0
def tw15932866517840033429 := 0
def tw11956802784689448793 := 0
def tw17143485306165791106 := 0
def tw15606638856785392027 := 0
def tw8211092568712913950 := 0
def tw1834931522479327704 := 0
def tw7519514023290248540 := 0
def tw7205841059315995906 := 0
def tw10323140831130329189 := 0
def tw3662642377020475299 := 0
def tw4788988562975757333 := 0
def tw8882041815421013861 := 0
def tw4866212346881885714 := 0
def tw10509366258916959114 := 0
def tw12191791293882535887 := 0
def tw16713350005484124607 := 0
def tw16610163466242615824 := 0
def tw9379300749557753587 := 0
def tw11642381129349293265 := 0
def tw11862130283965307716 := 0
def tw2029581505517860914 := 0
def tw4900869094159557899 := 0
def tw12816588126668154802 := 0
def tw17727128546137825550 := 0
def tw3073980037031594248 := 0
def tw14978461000865629291 := 0
def tw8352598569057700446 := 0
def tw16083432164640993489 := 0
def tw16047676619545107420 := 0
def tw14087452235579071488 := 0
def tw16337866411998118602 := 0
def tw14541198718275957417 := 0
def tw12611163520182931005 := 0
def tw7208790134117687208 := 0
def tw206295487894060673 := 0
def tw3842010426900959 := 0
def tw4547530542496944583 := 0
def tw7351162567429136064 := 0
def tw3582227340363644676 := 0
def tw11634078368161805331 := 0
def tw6776409533375895845 := 0
def tw13095939339508742874 := 0
def tw667835768309129649 := 0
def tw5779991494666812594 := 0
def tw2506622177540666558 := 0
def tw18315612806656235396 := 0
def tw10033235365703823669 := 0
def tw14770766957915373006 := 0
def tw12625123403889742194 := 0
def tw17982129195552109715 := 0
def tw42796802097962676 := 0
def tw10051918328800499296 := 0
def tw15504559308192400048 := 0
def tw1774642480469411968 := 0
def tw11117269998595860085 := 0
def tw11869833265521104211 := 0
def tw17998613607083521774 := 0
def tw5344075659973907486 := 0
def tw11084544873310908763 := 0
def tw2240549266673592467 := 0
def tw16275886067388706040 := 0
def tw9500302609390068810 := 0
def tw2554997529252927453 := 0
def tw10395965445671241963 := 0
def tw16076328701332576331 := 0
def tw8712663821976642232 := 0
def tw18305501980687505466 := 0
def tw15553342703769339712 := 0
def tw10717803609989668170 := 0
def tw14145123951933927702 := 0
def tw13756517928087099653 := 0
def tw15561732501911839532 := 0
def tw7740061736036076646 := 0
def tw17811196640298620923 := 0
def tw4161618297164005408 := 0
def tw6293390771509581759 := 0
def tw13962938764127385092 := 0
def tw16170068283088847799 := 0
def tw3729785454024963306 := 0
def tw7513013921835944950 := 0
def tw15766735289890913708 := 0
def tw11325371797739759630 := 0
def tw4972600771798712554 := 0
def tw10307221772145347178 := 0
def tw16922757745690590752 := 0
def tw13458930393697566411 := 0
def tw7282487220004333395 := 0
def tw15452585260100651897 := 0
def tw8417355468996480250 := 0
def tw10950534192797112635 := 0
def tw10044707425333658947 := 0
def tw10892570371243240036 := 0
def tw4680772876681931237 := 0
def tw2183185784880447881 := 0
def tw12801995585451449760 := 0
def tw14347015560821581630 := 0
def tw15755971825326363201 := 0
def tw13938572593125356445 := 0
def tw1193272660767004058 := 0
def tw7084731992439163029 := 0
def tw12065891094728378880 := 0
def tw1625065020429717899 := 0
def tw13826140767194992356 := 0
def tw16420989589112172251 := 0
def tw15562135286189400277 := 0
def tw6864462158550389730 := 0
def tw3053654858722265501 := 0
def tw4619402454450434995 := 0
def tw13447771522106102595 := 0
def tw13279338872445203482 := 0
def tw16647261481471053394 := 0
def tw3473879907666193801 := 0
def tw18228501793348729322 := 0
def tw6520372249286933771 := 0
def tw11560328969435351845 := 0
def tw15664304627513442103 := 0
def tw1292990298491730312 := 0
def tw13770399566030277629 := 0
def tw1363707654662171876 := 0
def tw17934825336667196716 := 0
def tw11060929931788629657 := 0
def tw16658688399640456664 := 0
def tw12759335809018838172 := 0
def tw7850384645464910620 := 0
def tw10889248276627030713 := 0
def tw5625661672913634061 := 0
def tw6492757151211049965 := 0
def tw11393708731021719334 := 0
def tw3395991640824138338 := 0
def tw9658796904388586886 := 0
def tw11218434724085520829 := 0
def tw9766149970728436172 := 0
def tw4754849260083918072 := 0
def tw11863449515712425032 := 0
def tw5496861940879191448 := 0
def tw17141163548897996682 := 0
def tw18316631936833941804 := 0
def tw3684867417779057932 := 0
def tw8803274542171056894 := 0
def tw12086229541318646373 := 0
def tw3366507193771118070 := 0
def tw59185894914081360 := 0
def tw5822000317110305832 := 0
def tw5576669919635364651 := 0
def tw14183177144164737375 := 0
def tw13493228403883162009 := 0
def tw15310690353621304735 := 0
def tw15067344739854066987 := 0
def tw7129467793952744103 := 0
def tw3797275740580419847 := 0
def tw16160929720888456466 := 0
def tw7204476660895013725 := 0
def tw9977038220916349895 := 0
def tw7463883116836620398 := 0
def tw5677453264751805811 := 0
def tw14964803245771907774 := 0
def tw14401529304705005484 := 0
def tw7826871062524360750 := 0
def tw14502640252656747701 := 0
def tw7535444301107580346 := 0
def tw3925191410114002611 := 0
def tw10081984614147475489 := 0
def tw11907568517008481180 := 0
def tw8029543917714381445 := 0
def tw14592570342779358907 := 0
def tw7687828544360387063 := 0
def tw1891069298199803415 := 0
def tw5421379759600809433 := 0
def tw16304435803683441038 := 0
def tw5262461410676154321 := 0
def tw16031592084960318774 := 0
def tw2622657939945526055 := 0
def tw15754992166227858222 := 0
def tw6626025522467691338 := 0
def tw15745231132987655076 := 0
def tw13927838057861728704 := 0
def tw9846089415069851059 := 0
def tw3548744046301570092 := 0
def tw4820748220316538046 := 0
def tw18425436091245730772 := 0
def tw10745396974603212879 := 0
def tw4897919563403937956 := 0
def tw15597823437413903226 := 0
def tw12831232478766132343 := 0
def tw5899866457785594139 := 0
def tw13420507848241693390 := 0
def tw14209085759180669475 := 0
def tw2083624554798335052 := 0
def tw14943660453468550497 := 0
def tw4915534647815540297 := 0
def tw13175498600260666036 := 0
def tw9668674991762472184 := 0
def tw5744864633394578251 := 0
def tw16358404718656024187 := 0
def tw4238180837851849277 := 0
def tw6111108504749449425 := 0
def tw11189334896977707853 := 0
def tw16613696472948328058 := 0
def tw6211356091994418948 := 0
def tw10802589164419850948 := 0
def tw8095299750016224670 := 0
def tw14969668259569129277 := 0
def tw10773403736766302686 := 0
def tw4159921222985443894 := 0
def tw2946813415495052370 := 0
def tw7851540705996283053 := 0
def tw1667976916269180150 := 0
def tw14199341512159944355 := 0
def tw8986802781637427376 := 0
def tw7037160396916979355 := 0
def tw9436228712214865214 := 0
end PySem.W.Fast
set_option maxRecDepth 100000 in
set_option maxHeartbeats 0 in
theorem PySem.Challenge.cw_tentloops_k19_long_threads_holds : PySem.Challenge.rw_tentloops_k19_long_threads.Holds := by
 w_on; o_law; k_head; (case hw => w_witness2)
 k_fill
 refine L2.walk_r (l := PySem.Challenge.rw_tentloops_k19_long_threads) (k := 10) (spl := KT.sp_law) rfl rfl ⟨rfl, by decide, by decide⟩ (fun w h Y => PySem.W.kIn_of Y) (fun K H a ns hl hS => KT.sp_law_start hl hS) ?F
 case F =>
  intro w mg fa h KX G hmg
  have T : ∃ t, KT.Txt w (L2.KOf KX) mg t := by
   dsimp only [L2.KOf]
   refine' ⟨⟨_, _, _, _, _, _, _, _, _, _, _, _, _, _, _, _, _, _, _, _, _, _, _, _, _, _, _, _, _, _, _, _, _, _, _, _, _, _, _, _, _, _, _, _, _, _, _, _, _, _, _, _, _, _, _, _, _, _, _, _, _, _, _, _, _, _, _, _, _, _, _, _, _, _, _, _, _, _, _, _, _, _, _, _, _, _, _, _, _, _, _, _, _, _, _, _, _, _, _, _, _, _, _, _, _, _, _, _, _, _, _, _, _, _, _, _, _, _, _, _, _⟩, ⟨mg_of KX G ?_, ⟨?_, ?_, ?_, ?_⟩, ?_, ?_, ?_, ?_, KT.FT.of KX G (KT.ba1 (fun _ _ _ _ _ _ _ _ => rfl) rfl) ?_ ?_ ?_ ?_, KT.FT.of KX G (KT.ba1 (fun _ _ _ _ _ _ _ _ => rfl) rfl) ?_ ?_ ?_ ?_, KT.FT.of KX G (KT.ba1 (fun _ _ _ _ _ _ _ _ => rfl) rfl) ?_ ?_ ?_ ?_, KT.FT.of KX G (KT.ba1 (fun _ _ _ _ _ _ _ _ => rfl) rfl) ?_ ?_ ?_ ?_, KT.FT.of KX G (KT.ba2 (fun _ _ _ _ _ _ _ _ _ => rfl) rfl) ?_ ?_ ?_ ?_, KT.FM.of (KT.ba2 (fun _ _ _ _ _ _ _ _ _ => rfl) rfl) ?_ ?_ ?_ ?_ ?_, KT.FM.of (KT.ba1 (fun _ _ _ _ _ _ _ _ => rfl) rfl) ?_ ?_ ?_ ?_ ?_, KT.FM.of (KT.ba1 (fun _ _ _ _ _ _ _ _ => rfl) rfl) ?_ ?_ ?_ ?_ ?_, KT.FM.of (KT.ba1 (fun _ _ _ _ _ _ _ _ => rfl) rfl) ?_ ?_ ?_ ?_ ?_, KT.FM.of (KT.ba1 (fun _ _ _ _ _ _ _ _ => rfl) rfl) ?_ ?_ ?_ ?_ ?_, KT.FM.of (KT.ba2 (fun _ _ _ _ _ _ _ _ _ => rfl) rfl) ?_ ?_ ?_ ?_ ?_, KT.FM.of (KT.ba2 (fun _ _ _ _ _ _ _ _ _ => rfl) rfl) ?_ ?_ ?_ ?_ ?_, KT.FM.of (KT.ba2 (fun _ _ _ _ _ _ _ _ _ => rfl) rfl) ?_ ?_ ?_ ?_ ?_, KT.FM.of (KT.ba2 (fun _ _ _ _ _ _ _ _ _ => rfl) rfl) ?_ ?_ ?_ ?_ ?_, KT.FM.of (KT.ba2 (fun _ _ _ _ _ _ _ _ _ => rfl) rfl) ?_ ?_ ?_ ?_ ?_, KT.FM.of (KT.ba2 (fun _ _ _ _ _ _ _ _ _ => rfl) rfl) ?_ ?_ ?_ ?_ ?_, KT.FT.of KX G (KT.ba2 (fun _ _ _ _ _ _ _ _ _ => rfl) rfl) ?_ ?_ ?_ ?_, KT.FT.of KX G (KT.ba3 (fun _ _ _ _ _ _ _ _ _ _ => rfl) rfl) ?_ ?_ ?_ ?_, KT.FT.of KX G (KT.ba2 (fun _ _ _ _ _ _ _ _ _ => rfl) rfl) ?_ ?_ ?_ ?_, KT.FT.of KX G (KT.ba2 (fun _ _ _ _ _ _ _ _ _ => rfl) rfl) ?_ ?_ ?_ ?_, KT.FT.of KX G (KT.ba2 (fun _ _ _ _ _ _ _ _ _ => rfl) rfl) ?_ ?_ ?_ ?_, KT.FT.of KX G (KT.ba2 (fun _ _ _ _ _ _ _ _ _ => rfl) rfl) ?_ ?_ ?_ ?_, KT.FT.of KX G (KT.ba1 (fun _ _ _ _ _ _ _ _ => rfl) rfl) ?_ ?_ ?_ ?_, KT.FT.of KX G (KT.ba2 (fun _ _ _ _ _ _ _ _ _ => rfl) rfl) ?_ ?_ ?_ ?_, KT.FT.of KX G (KT.ba3 (fun _ _ _ _ _ _ _ _ _ _ => rfl) rfl) ?_ ?_ ?_ ?_, KT.FT.of KX G (KT.ba2 (fun _ _ _ _ _ _ _ _ _ => rfl) rfl) ?_ ?_ ?_ ?_, KT.FT.of KX G (KT.ba3 (fun _ _ _ _ _ _ _ _ _ _ => rfl) rfl) ?_ ?_ ?_ ?_, KT.FT.of KX G (KT.ba2 (fun _ _ _ _ _ _ _ _ _ => rfl) rfl) ?_ ?_ ?_ ?_, KT.FT.of KX G (KT.ba1 (fun _ _ _ _ _ _ _ _ => rfl) rfl) ?_ ?_ ?_ ?_, KT.FT.of KX G (KT.ba2 (fun _ _ _ _ _ _ _ _ _ => rfl) rfl) ?_ ?_ ?_ ?_, KT.FT.of KX G (KT.ba2 (fun _ _ _ _ _ _ _ _ _ => rfl) rfl) ?_ ?_ ?_ ?_, KT.FT.of KX G (KT.ba3 (fun _ _ _ _ _ _ _ _ _ _ => rfl) rfl) ?_ ?_ ?_ ?_, KT.FT.of KX G (KT.ba2 (fun _ _ _ _ _ _ _ _ _ => rfl) rfl) ?_ ?_ ?_ ?_, KT.FT.of KX G (KT.ba2 (fun _ _ _ _ _ _ _ _ _ => rfl) rfl) ?_ ?_ ?_ ?_, KT.FT.of KX G (KT.ba3 (fun _ _ _ _ _ _ _ _ _ _ => rfl) rfl) ?_ ?_ ?_ ?_, KT.FT.of KX G (KT.ba4 (fun _ _ _ _ _ _ _ _ _ _ _ => rfl) rfl) ?_ ?_ ?_ ?_, KT.FT.of KX G (KT.ba2 (fun _ _ _ _ _ _ _ _ _ => rfl) rfl) ?_ ?_ ?_ ?_, KT.FT.of KX G (KT.ba2 (fun _ _ _ _ _ _ _ _ _ => rfl) rfl) ?_ ?_ ?_ ?_, KT.FT.of KX G (KT.ba3 (fun _ _ _ _ _ _ _ _ _ _ => rfl) rfl) ?_ ?_ ?_ ?_, KT.FT.of KX G (KT.ba3 (fun _ _ _ _ _ _ _ _ _ _ => rfl) rfl) ?_ ?_ ?_ ?_, KT.FT.of KX G (KT.ba1 (fun _ _ _ _ _ _ _ _ => rfl) rfl) ?_ ?_ ?_ ?_, KT.FT.of KX G (KT.ba2 (fun _ _ _ _ _ _ _ _ _ => rfl) rfl) ?_ ?_ ?_ ?_, KT.FT.of KX G (KT.ba3 (fun _ _ _ _ _ _ _ _ _ _ => rfl) rfl) ?_ ?_ ?_ ?_, KT.FT.of KX G (KT.ba2 (fun _ _ _ _ _ _ _ _ _ => rfl) rfl) ?_ ?_ ?_ ?_, KT.FT.of KX G (KT.ba1 (fun _ _ _ _ _ _ _ _ => rfl) rfl) ?_ ?_ ?_ ?_, KT.FT.of KX G (KT.ba2 (fun _ _ _ _ _ _ _ _ _ => rfl) rfl) ?_ ?_ ?_ ?_, KT.FT.of KX G (KT.ba2 (fun _ _ _ _ _ _ _ _ _ => rfl) rfl) ?_ ?_ ?_ ?_, KT.FT.of KX G (KT.ba2 (fun _ _ _ _ _ _ _ _ _ => rfl) rfl) ?_ ?_ ?_ ?_, KT.FT.of KX G (KT.ba2 (fun _ _ _ _ _ _ _ _ _ => rfl) rfl) ?_ ?_ ?_ ?_, KT.FT.of KX G (KT.ba1 (fun _ _ _ _ _ _ _ _ => rfl) rfl) ?_ ?_ ?_ ?_, KT.FT.of KX G (KT.ba2 (fun _ _ _ _ _ _ _ _ _ => rfl) rfl) ?_ ?_ ?_ ?_, KT.FT.of KX G (KT.ba3 (fun _ _ _ _ _ _ _ _ _ _ => rfl) rfl) ?_ ?_ ?_ ?_, KT.FT.of KX G (KT.ba2 (fun _ _ _ _ _ _ _ _ _ => rfl) rfl) ?_ ?_ ?_ ?_, KT.FT.of KX G (KT.ba1 (fun _ _ _ _ _ _ _ _ => rfl) rfl) ?_ ?_ ?_ ?_, KT.FT.of KX G (KT.ba4 (fun _ _ _ _ _ _ _ _ _ _ _ => rfl) rfl) ?_ ?_ ?_ ?_, KT.FT.of KX G (KT.ba1 (fun _ _ _ _ _ _ _ _ => rfl) rfl) ?_ ?_ ?_ ?_, ⟨?_, ?_, ?_, ?_⟩, mg_of KX G ?_, mg_of KX G ?_, L2.kdict_mk2 ?_ ?_ ?_ (by decide) ?_, fun s u => .of_eq rfl, mg_none_of KX G ?_, mg_none_of KX G ?_, mg_none_of KX G ?_, mg_none_of KX G ?_, mg_none_of KX G ?_, mg_none_of KX G ?_, mg_none_of KX G ?_, mg_none_of KX G ?_, mg_none_of KX G ?_, mg_none_of KX G ?_, mg_none_of KX G ?_, mg_none_of KX G ?_, mg_none_of KX G ?_, mg_none_of KX G ?_, mg_none_of KX G ?_, mg_none_of KX G ?_, mg_of KX G ?_, ⟨?_⟩, mg_of KX G ?_, ⟨?_⟩, mg_of KX G ?_, ⟨?_⟩, mg_of KX G ?_, ⟨?_⟩, mg_of KX G ?_, ⟨?_⟩, mg_of KX G ?_, ⟨?_⟩⟩⟩
   any_goals first | k_is | k_exc | rfl | kernel_rfl
  obtain ⟨t, T⟩ := T
  have e0 := hmg.symm.trans T.p_law.g
  cases e0
  refine' ⟨_, ?b, fun base kb nb => KT.ok_law T⟩
  exact T.bl
#print axioms PySem.Challenge.cw_tentloops_k19_long_threads_holds
