import PyProof.Rows.All
import Wide.All
import OpenK.AllK
import Wide.FinOn
import Lean
import PyProof.EqAt
import PyProof.EqKinds
import PyProof.TupleCall
import PySem.Challenge.RW_tentloops_k58_worths_asked_again
set_option Elab.async false
set_option linter.all false
set_option maxRecDepth 100000
namespace L2
open PySem PySem.Spec PyProof.Rows
noncomputable abbrev Key:=Sum Int Str
noncomputable def Q4:Key→Value→Bool
 | .inl k,v=>Value.isInt k v
 | .inr x,v=>Value.isStrOf x v
noncomputable def keyH (w:World):Key→Int
 | .inl k=>hashInt k
 | .inr x=>hashStr w x
theorem Yw:∀ {k:Key} {v:Value},Q4 k v=true→(∃ i t,k=Sum.inl i∧v=Value.int i t)∨(∃ x t,k=Sum.inr x∧v=Value.str x t)
 | .inl i,v,h=>by
  obtain ⟨t,e⟩:=Value.isInt_shape (k:=i) (v:=v) h
  exact .inl ⟨i,t,rfl,e⟩
 | .inr x,v,h=>by
  obtain ⟨t,e⟩:=Value.isStrOf_shape (x:=x) (v:=v) h
  exact .inr ⟨x,t,rfl,e⟩
theorem Zg5 (i:Int) (t:Tok):Q4 (.inl i) (.int i t)=true:=by simp [Q4,Value.isInt]
theorem Jy (x:Str) (t:Tok):Q4 (.inr x) (.str x t)=true:=by simp [Q4,Value.isStrOf]
theorem Zly (a b:Int):decide ((Sum.inl a:Key)=Sum.inl b)=(a == b):=by
 by_cases e:a=b
 ·subst e; simp
 ·have h:¬ (Sum.inl a:Key)=Sum.inl b:=fun q=>e (Sum.inl.inj q)
  rw [decide_eq_false h]
  exact (beq_eq_false_iff_ne.mpr e).symm
theorem Zlv (a b:Str):decide ((Sum.inr a:Key)=Sum.inr b)=decide (a=b):=by
 by_cases e:a=b
 ·subst e; simp
 ·have h:¬ (Sum.inr a:Key)=Sum.inr b:=fun q=>e (Sum.inr.inj q)
  rw [decide_eq_false h,decide_eq_false e]
theorem Zlx (a:Int) (b:Str):decide ((Sum.inl a:Key)=Sum.inr b)=false:=decide_eq_false (fun q=>nomatch q)
theorem Zlw (a:Str) (b:Int):decide ((Sum.inr a:Key)=Sum.inl b)=false:=decide_eq_false (fun q=>nomatch q)
noncomputable def Z9 (prog:Program) (w:World):PySem.KeyKind prog w Key where
 is:=Q4
 hash:=keyH w
 inj:=fun v a b ha hb=>by
  rcases Yw ha with ⟨i,t,rfl,rfl⟩ | ⟨x,t,rfl,rfl⟩
  ·rcases Yw hb with ⟨j,u,rfl,e⟩ | ⟨y,u,rfl,e⟩
   ·injection e with e1 _; rw [e1]
   ·exact nomatch e
  ·rcases Yw hb with ⟨j,u,rfl,e⟩ | ⟨y,u,rfl,e⟩
   ·exact nomatch e
   ·injection e with e1 _; rw [e1]
 byValue:=fun k v h=>by
  rcases Yw h with ⟨i,t,rfl,rfl⟩ | ⟨x,t,rfl,rfl⟩ <;> rfl
 pyHash:=fun hv h=>by
  rcases Yw hv with ⟨i,t,rfl,rfl⟩ | ⟨x,t,rfl,rfl⟩
  ·exact wpAny_pyHash_int h
  ·exact wpAny_pyHash_str h
 eqBool:=fun hu hv h=>by
  rcases Yw hu with ⟨i,t,rfl,rfl⟩ | ⟨x,t,rfl,rfl⟩
  ·rcases Yw hv with ⟨j,u,rfl,rfl⟩ | ⟨y,u,rfl,rfl⟩
   ·rw [Zly] at h; exact wpAny_eqBool_int h
   ·rw [Zlx] at h; exact SeqAt.EqAt.int_str i t y u _ _ _ _ h
  ·rcases Yw hv with ⟨j,u,rfl,rfl⟩ | ⟨y,u,rfl,rfl⟩
   ·rw [Zlw] at h; exact SeqAt.EqAt.str_int x t j u _ _ _ _ h
   ·rw [Zlv] at h; exact wpAny_eqBool_str h
 «strs»:=fun k x t v h=>by
  rcases Yw h with ⟨i,u,rfl,e⟩ | ⟨y,u,rfl,e⟩
  ·exact nomatch e
  ·injection e with e1 _
   subst e1
   cases v <;> rfl
theorem Zdl (prog:Program) (w:World) (i:Int) (t:Tok):(Z9 prog w).is (.inl i) (.int i t)=true:=Zg5 i t
theorem Zdk (prog:Program) (w:World) (x:Str) (t:Tok):(Z9 prog w).is (.inr x) (.str x t)=true:=Jy x t
end L2
namespace L2
open PySem PySem.Spec PyProof.Rows
inductive V where
 | non | bl (b:Bool) | int (i:Int) | str (x:Str) | byt (b:Array UInt8) | flt (b:UInt64) | ref (a:Addr) | ty (n:String)
 deriving DecidableEq
set_option genInjectivity false
set_option genSizeOf false
noncomputable def RelV:V→Value→Prop
 | .non,u=>u=Value.none
 | .bl b,u=>u=Value.bool b
 | .int i,u=>∃ t,u=Value.int i t
 | .str x,u=>∃ t,u=Value.str x t
 | .byt b,u=>∃ t,u=Value.bytes b t
 | .flt b,u=>∃ t,u=Value.float b t
 | .ref a,u=>u=Value.ref a
 | .ty n,u=>u=Value.type n
noncomputable abbrev Vals:List V→List Value→Prop:=Paired RelV
theorem Vals.length {xs:List V} {us:List Value} (r:Vals xs us):xs.length=us.length:=Paired.length r
theorem Vals.get:∀ {xs:List V} {us:List Value} {i:Nat} {x:V},Vals xs us→xs[i]?=some x→∃ u,us[i]?=some u∧RelV x u
 | _,_,_,_,.nil,e=>by simp at e
 | _,_,0,_,.cons r _,e=>by simp at e; subst e; exact ⟨_,rfl,r⟩
 | _,_,i + 1,x,.cons _ t,e=>by
  obtain ⟨u,h1,h2⟩:=Vals.get (i:=i) (x:=x) t (by simpa using e)
  exact ⟨u,by simpa using h1,h2⟩
theorem Vals.set {x:V} {u:Value} (r:RelV x u):∀ {xs:List V} {us:List Value} (i:Nat),Vals xs us→Vals (xs.set i x) (us.set i u)
 | _,_,_,.nil=>.nil
 | _,_,0,.cons _ t=>.cons r t
 | _,_,i + 1,.cons q t=>.cons q (Vals.set r i t)
theorem Vals.append:∀ {xs ys:List V} {us ws:List Value},Vals xs us→Vals ys ws→Vals (xs ++ ys) (us ++ ws)
 | _,_,_,_,.nil,s=>s
 | _,_,_,_,.cons r t,s=>.cons r (Vals.append t s)
theorem Vals.take:∀ {xs:List V} {us:List Value} (n:Nat),Vals xs us→Vals (xs.take n) (us.take n)
 | _,_,0,_=>.nil
 | _,_,_ + 1,.nil=>.nil
 | _,_,n + 1,.cons r t=>.cons r (Vals.take n t)
theorem Vals.drop:∀ {xs:List V} {us:List Value} (n:Nat),Vals xs us→Vals (xs.drop n) (us.drop n)
 | _,_,0,r=>r
 | _,_,_ + 1,.nil=>.nil
 | _,_,n + 1,.cons _ t=>Vals.drop n t
noncomputable def RelO:Option V→Option Value→Prop
 | some v,some u=>RelV v u
 | none,none=>True
 | _,_=>False
noncomputable def KV {κ:Type}:List (κ × V)→List (κ × Value)→Prop:=Paired fun (p:κ × V) (q:κ × Value)=>p.1=q.1∧RelV p.2 q.2
noncomputable def kV:Key→V
 | .inl i=>.int i
 | .inr x=>.str x
inductive HO where
 /-- a list -/
 | lst (xs:List V)
 /-- a tuple (never changes) -/
 | tup (xs:List V)
 /-- a dict whose keys are ints and texts; one whose keys are tuples of ints and texts (the empty one is both) -/
 | dK (kvs:List (Key × V)) | dT (kvs:List (List Key × V))
 /-- a set of ints: its members,its size -/
 | set (S:Int→Bool) (n:Nat)
 /-- an instance of the class at C,its dict at dx,its attributes -/
 | ins (C dx:Addr) (fs:List (Str × V))
 /-- the dict of the instance at x -/
 | own (x:Addr)
 /-- the dict of an exception -/
 | xd (fs:List (Str × V))
 /-- a bound method,f of x -/
 | met (f x:Addr)
 /-- a range object lo,lo + 1,.. below hi -/
 | rng (lo hi:Int)
 /-- a thing that is known to the object (the script; a dict while a loop walks it): read,never written while it is so -/
 | frz (o:Obj) (u:HO)
 /-- a code object's table -/
 | tbl (ps:Array Value)
 /-- any other thing,by what is true of its one object (a def of one's own: SetO a S n:=HO.ext fun h=>..) -/
 | ext (φ:Heap→Prop)
noncomputable abbrev Hp:=Addr→Option HO
noncomputable def upd (H:Hp) (a:Addr) (o:HO):Hp:=fun b=>if b=a then some o else H b
theorem Zc {H:Hp} {a:Addr} {o:HO}:upd H a o a=some o:=by unfold upd; rw [if_pos rfl]
theorem Ze {H:Hp} {a b:Addr} {o:HO} (h:b≠a):upd H a o b=H b:=by unfold upd; rw [if_neg h]
theorem Zmn {H:Hp} {a b:Addr} {o u:HO} (h:H a=some o) (h':H b=some u) (d:o≠u):a≠b:=by
 intro e; subst e; rw [h] at h'; exact d (Option.some.inj h')
theorem Zj {H:Hp} {a b:Addr} {o:HO} (h:H a=some o) (h':H b=none):a≠b:=by
 intro e; subst e; rw [h] at h'; cases h'
section
variable (P:Program) (w:World)
noncomputable def Ye (H:Hp) (h:Heap) (a:Addr):HO→Prop
 | .lst xs=>xs.length≤sizeLine∧∃ (its:List Value) (n:Nat),Vals xs its∧h.get? a=some { cls:=.type "list",data:=.seq its.toArray n }
 | .tup xs=>xs.length≤sizeLine∧∃ its:List Value,Vals xs its∧IsTup h a its.toArray
 | .dK kvs=>kvs.length≤sizeLine∧(a == sysModules)=false∧∃ vs,KV kvs vs∧h.DictOf (Z9 P w) a vs
 | .dT kvs=>kvs.length≤sizeLine∧(a == sysModules)=false∧∃ xs:List (List Key × Addr × Value),
   Paired (fun (p:List Key × V) (q:List Key × Addr × Value)=>p.1=q.1∧H q.2.1=some (.tup (p.1.map kV))∧RelV p.2 q.2.2) kvs xs ∧
   ∃ o es ep,h.get? a=some o∧o.ExactDict∧o.data=.dict es ep∧es.toList=xs.map (entryOfKey (tupleKind (Z9 P w)))∧(xs.map (·.1)).Nodup
 | .set S n=>h.SetOf (intKind P w) a S n
 | .ins C dx fs=>H dx=some (.own a)∧fs.length≤1000∧dx≠a∧h.get? a=some (PySem.W.instObj C dx) ∧
   ∃ mA,h.Ns1 dx mA∧(∀ f,RelO (fs.lookup f) (mA f))∧PySem.Within mA (fs.map (·.1))
 | .own _=>∃ o,h.get? a=some o
 | .xd fs=>∃ mA,h.Ns1 a mA∧∀ f,RelO (fs.lookup f) (mA f)
 | .rng lo hi=>∃ t u v,h.get? a=some { cls:=.type "range",data:=.fields #[.int lo t,.int hi u,.int 1 v] }
 | .frz o u=>h.get? a=some o∧Ye H h a u
 | .tbl ps=>h.get? a=some { cls:=.none,data:=.fields ps }
 | .met f x=>h.get? a=some (PySem.W.methodObj (.ref f) (.ref x))
 | .ext φ=>φ h∧(∃ o,h.get? a=some o)∧∀ h1 h2:Heap,φ h1→(∀ o,h1.get? a=some o→h2.get? a=some o)→φ h2
noncomputable def HOk (H:Hp) (h:Heap):Prop:=∀ a o,H a=some o→Ye P w H h a o
end
section
variable {P:Program} {w:World} {H H':Hp} {h h':Heap} {a:Addr} {o:HO}
theorem Ye.lt (x:Ye P w H h a o):a < h.objs.size:=by
 cases o with
 | lst xs=>obtain ⟨_,_,_,_,e⟩:=x; exact Heap.lt_size e
 | tup xs=>obtain ⟨_,_,_,p⟩:=x; exact p.lt
 | dK kvs=>obtain ⟨_,_,_,_,o,_,_,e,_⟩:=x; exact Heap.lt_size e
 | dT kvs=>obtain ⟨_,_,_,_,o,_,_,e,_⟩:=x; exact Heap.lt_size e
 | set S n=>obtain ⟨o,_,_,_,e,_⟩:=x; exact Heap.lt_size e
 | ins C dx fs=>obtain ⟨_,_,_,e,_⟩:=x; exact Heap.lt_size e
 | own y=>obtain ⟨_,e⟩:=x; exact Heap.lt_size e
 | xd fs=>obtain ⟨_,⟨_,_,_,e,_⟩,_⟩:=x; exact Heap.lt_size e
 | rng lo hi=>obtain ⟨_,_,_,e⟩:=x; exact Heap.lt_size e
 | frz ob u=>obtain ⟨e,_⟩:=x; exact Heap.lt_size e
 | tbl ps=>exact Heap.lt_size (show h.get? a=some _ from x)
 | met f y=>exact Heap.lt_size (show h.get? a=some _ from x)
 | ext φ=>obtain ⟨_,⟨_,e⟩,_⟩:=x; exact Heap.lt_size e
theorem Paired.mapP {α β:Type} {F G:α→β→Prop}:∀ {l₁:List α} {l₂:List β},Paired F l₁ l₂→(∀ a b,F a b→G a b)→Paired G l₁ l₂
 | _,_,.nil,_=>.nil
 | _,_,.cons r t,f=>.cons (f _ _ r) (Paired.mapP t f)
theorem Ye.stay (x:Ye P w H h a o) (k:∀ b u,(b=a∨H b=some (.own a))→h.get? b=some u→h'.get? b=some u)
  (ho:∀ b,H b=some (.own a)→H' b=some (.own a)) (ht:∀ b xs,H b=some (.tup xs)→H' b=some (.tup xs)):Ye P w H' h' a o:=by
 induction o with
 | lst xs=>obtain ⟨z,its,n,r,e⟩:=x; exact ⟨z,its,n,r,k _ _ (.inl rfl) e⟩
 | tup xs=>obtain ⟨z,its,r,ob,e,c⟩:=x; exact ⟨z,its,r,ob,k _ _ (.inl rfl) e,c⟩
 | dK kvs=>obtain ⟨z,y,vs,r,ob,es,ep,e,c⟩:=x; exact ⟨z,y,vs,r,ob,es,ep,k _ _ (.inl rfl) e,c⟩
 | dT kvs =>
  obtain ⟨z,y,xs,r,ob,es,ep,e,c⟩:=x
  exact ⟨z,y,xs,Paired.mapP r fun p q z=>⟨z.1,ht _ _ z.2.1,z.2.2⟩,ob,es,ep,k _ _ (.inl rfl) e,c⟩
 | set S n=>obtain ⟨ob,es,ep,t,e,c⟩:=x; exact ⟨ob,es,ep,t,k _ _ (.inl rfl) e,c⟩
 | ins C dx fs =>
  obtain ⟨d,z,ne,e,mA,⟨od,es,ep,e2,c⟩,r⟩:=x
  exact ⟨ho _ d,z,ne,k _ _ (.inl rfl) e,mA,⟨od,es,ep,k _ _ (.inr d) e2,c⟩,r⟩
 | own y=>obtain ⟨ob,e⟩:=x; exact ⟨ob,k _ _ (.inl rfl) e⟩
 | xd fs=>obtain ⟨mA,⟨od,es,ep,e,c⟩,r⟩:=x; exact ⟨mA,⟨od,es,ep,k _ _ (.inl rfl) e,c⟩,r⟩
 | rng lo hi=>obtain ⟨t,u,v,e⟩:=x; exact ⟨t,u,v,k _ _ (.inl rfl) e⟩
 | frz ob u ih=>obtain ⟨e,q⟩:=x; exact ⟨k _ _ (.inl rfl) e,ih q⟩
 | tbl ps =>
  have e:h.get? a=some { cls:=.none,data:=.fields ps }:=x
  show h'.get? a=some { cls:=.none,data:=.fields ps }
  exact k a _ (.inl rfl) e
 | met f y =>
  have e:h.get? a=some (PySem.W.methodObj (.ref f) (.ref y)):=x
  show h'.get? a=some (PySem.W.methodObj (.ref f) (.ref y))
  exact k a _ (.inl rfl) e
 | ext φ=>obtain ⟨p,⟨o,e⟩,st⟩:=x; exact ⟨st _ _ p fun o q=>k _ _ (.inl rfl) q,⟨o,k _ _ (.inl rfl) e⟩,st⟩
theorem HOk.lt (x:HOk P w H h) (e:H a=some o):a < h.objs.size:=(x a o e).lt
theorem HOk.fresh (x:HOk P w H h) (e:h.objs.size≤a):H a=none:=by
 cases q:H a with
 | none=>rfl
 | some u=>exact absurd (Nat.lt_of_lt_of_le (x.lt q) e) (Nat.lt_irrefl _)
theorem HOk.kept (x:HOk P w H h) (k:∀ b u,h.get? b=some u→h'.get? b=some u):HOk P w H h':=fun a o e =>
 (x a o e).stay (fun b u _ q=>k b u q) (fun _ q=>q) fun _ _ q=>q
theorem HOk.laid (x:HOk P w H h) (k:∀ b u,h.get? b=some u→h'.get? b=some u) (hp:h.objs.size≤a) (new:Ye P w (upd H a o) h' a o):HOk P w (upd H a o) h':=fun b u e=>by
 have hn:=x.fresh hp
 by_cases hb:b=a
 ·subst hb; rw [Zc] at e; cases e; exact new
 ·rw [Ze hb] at e
  exact (x b u e).stay (fun c v _ q=>k c v q) (fun c q=>by rw [Ze (Zj q hn)]; exact q) fun c xs q=>by rw [Ze (Zj q hn)]; exact q
end
noncomputable def Rd (H:Hp) (a:Addr) (u:HO):Prop:=H a=some u∨∃ o,H a=some (.frz o u)
theorem Rd.ok {P:Program} {w:World} {H:Hp} {h:Heap} {a:Addr} {u:HO} (r:Rd H a u) (x:HOk P w H h):Ye P w H h a u:=by
 rcases r with r | ⟨o,r⟩
 ·exact x a u r
 ·obtain ⟨_,q⟩:=x a _ r
  exact q
noncomputable def Mut:Option HO→Prop
 | some (.lst _)=>True
 | some (.dK _)=>True
 | some (.dT _)=>True
 | some (.set _ _)=>True
 | some (.ins _ _ _)=>True
 | some (.ext _)=>True
 | _=>False
section
variable {P:Program} {w:World} {H:Hp} {h h':Heap} {x e:Addr} {o':HO}
theorem HOk.write (ok:HOk P w H h) (mu:Mut (H x)) (he:e=x∨H e=some (.own x)) (k:∀ b u,b≠e→h.get? b=some u→h'.get? b=some u) (heo:∃ u,h'.get? e=some u)
  (new:Ye P w (upd H x o') h' x o'):HOk P w (upd H x o') h':=fun b u q=>by
 have nown:∀ c y,H c=some (.own y)→c≠x:=fun c y r z=>by subst z; rw [r] at mu; exact mu
 have ntup:∀ c xs,H c=some (.tup xs)→c≠x:=fun c xs r z=>by subst z; rw [r] at mu; exact mu
 by_cases hb:b=x
 ·subst hb; rw [Zc] at q; cases q; exact new
 ·rw [Ze hb] at q
  by_cases hbe:b=e
  ·have q':H b=some (.own x):=by
    rcases he with z | z
    ·exact absurd (hbe.trans z) hb
    ·rw [hbe]; exact z
   rw [q] at q'; cases q'
   obtain ⟨v,hv⟩:=heo
   exact ⟨v,by rw [hbe]; exact hv⟩
  ·refine (ok b u q).stay (fun c v hc r=>k c v ?_ r) (fun c r=>by rw [Ze (nown c b r)]; exact r) fun c xs r=>by rw [Ze (ntup c xs r)]; exact r
   rcases hc with rfl | hc
   ·exact hbe
   ·rintro rfl
    rcases he with z | z
    ·exact nown c b hc z
    ·rw [hc] at z; cases z; exact hb rfl
end
structure Un (fs ex:List Addr) (H H':Hp) (h h':Heap):Prop where
 keep:∀ b o,h.get? b=some o→H b=none→b ∉ fs→b ∉ ex→h'.get? b=some o
 slot:∀ b o,h.get? b=some o→H b=none→b∈fs→b ∉ ex→∃ sl,h'.get? b=some { o with slots:=sl }
 free:∀ b o,h.get? b=some o→H b=none→b ∉ ex→H' b=none
 there:∀ b o,h.get? b=some o→b ∉ ex→∃ o',h'.get? b=some o'
 tups:∀ b xs,H b=some (.tup xs)→H' b=some (.tup xs)
 frzs:∀ b o u,H b=some (.frz o u)→H' b=some (.frz o u)
 tbls:∀ b ps,H b=some (.tbl ps)→∃ more,H' b=some (.tbl (ps ++ more))
section
variable {fs fs' ex ex':List Addr} {H H1 H2:Hp} {h h1 h2 h':Heap} {a x e:Addr} {o:HO}
theorem Un.any (u:Un fs ex H H1 h h1) {b:Addr} {ob:Obj} (q:h.get? b=some ob) (n:H b=none) (hx:b ∉ ex):∃ sl,h1.get? b=some { ob with slots:=sl }:=by
 by_cases hb:b∈fs
 ·exact u.slot b ob q n hb hx
 ·exact ⟨ob.slots,u.keep b ob q n hb hx⟩
theorem Un.kept (k:∀ b u,h.get? b=some u→h'.get? b=some u):Un fs ex H H h h' :=
 ⟨fun b ob q _ _ _=>k b ob q,fun b ob q _ _ _=>⟨ob.slots,k b ob q⟩,fun _ _ _ n _=>n,fun b ob q _=>⟨ob,k b ob q⟩,fun _ _ q=>q,fun _ _ _ q=>q,fun _ ps q=>⟨#[],by rw [q]; simp⟩⟩
theorem Un.refl:Un fs ex H H h h:=Un.kept fun _ _ q=>q
theorem Un.laid (k:∀ b u,h.get? b=some u→h'.get? b=some u) (hp:h.objs.size≤a) (hn:H a=none):Un fs ex H (upd H a o) h h' where
 keep:=fun b u q _ _ _=>k b u q
 slot:=fun b u q _ _ _=>⟨u.slots,k b u q⟩
 free:=fun b u q n _=>by rw [Ze (Nat.ne_of_lt (Nat.lt_of_lt_of_le (Heap.lt_size q) hp))]; exact n
 there:=fun b u q _=>⟨u,k b u q⟩
 tups:=fun b xs q=>by rw [Ze (Zj q hn)]; exact q
 frzs:=fun b u xs q=>by rw [Ze (Zj q hn)]; exact q
 tbls:=fun b ps q=>⟨#[],by rw [Ze (Zj q hn),q]; simp⟩
theorem Un.write (mu:Mut (H x)) (he:e=x∨H e=some (.own x)) (k:∀ b u,b≠e→h.get? b=some u→h'.get? b=some u) (heo:∃ u,h'.get? e=some u):Un fs ex H (upd H x o) h h':=by
 have hx:∀ b,H b=none→b≠x:=fun b n z=>by subst z; rw [n] at mu; exact mu
 have hb:∀ b,H b=none→b≠e:=fun b n z=>by
  subst z
  rcases he with r | r
  ·exact hx b n r
  ·rw [n] at r; cases r
 have hm:∀ b u,H b=some u→¬ Mut (some u)→b≠x:=fun b u q nm z=>by subst z; rw [q] at mu; exact nm mu
 refine ⟨fun b u q n _ _=>k b u (hb b n) q,fun b u q n _ _=>⟨u.slots,k b u (hb b n) q⟩,fun b u q n _=>by rw [Ze (hx b n)]; exact n,fun b u q _=>?_,
  fun b xs q=>by rw [Ze (hm b _ q fun z=>z)]; exact q,fun b u xs q=>by rw [Ze (hm b _ q fun z=>z)]; exact q,fun b ps q=>⟨#[],by rw [Ze (hm b _ q fun z=>z),q]; simp⟩⟩
 by_cases hbe:b=e
 ·subst hbe; exact heo
 ·exact ⟨u,k b u hbe q⟩
end
noncomputable def trk (h:Heap) (H:Hp):List Addr:=(List.range h.objs.size).filter fun a=>(H a).isSome
noncomputable def hidT (h:Heap) (H:Hp):Heap:=PySem.W.hideAll h (trk h H)
theorem Zg9 (h:Heap) (H:Hp):(hidT h H).objs.size=h.objs.size:=PySem.W.hideAll_size _ _
theorem Ziw {h:Heap} {H:Hp} {b:Addr} {o:Obj} (e:h.get? b=some o) (n:H b=none):(hidT h H).get? b=some o :=
 PySem.W.hideAll_get _ e fun hm=>by
  have q:(H b).isSome=true:=(List.mem_filter.mp hm).2
  rw [n] at q; simp at q
theorem Zkg {h:Heap} {H:Hp} {b:Addr} {o:Obj} (e:(hidT h H).get? b=some o):h.get? b=some o∧H b=none:=by
 have e':h.get? b=some o:=PySem.W.of_hideAll (trk h H) e
 refine ⟨e',?_⟩
 cases q:H b with
 | none=>rfl
 | some x =>
  have hm:b∈trk h H:=List.mem_filter.mpr ⟨List.mem_range.mpr (Heap.lt_size e'),by simp [q]⟩
  have z:(hidT h H).get? b=none:=PySem.W.hideAll_none (trk h H) hm
  rw [z] at e; cases e
noncomputable def Zkw (g h:Heap) (L:Addr):List (Addr × Obj):=(List.range h.objs.size).filterMap fun a=>if a=L∨(g.get? a).isSome=true then none else (h.get? a).map fun o=>(a,o)
noncomputable def rest (g h:Heap) (L d:Addr):List (Addr × Obj):=(Zkw g h L).filter fun p=>decide (p.1≠d)
end L2
namespace L2
open PySem PySem.Spec PyProof.Rows
structure Mod (K:PySem.W.Frag) (mg:Str→Option Value) (base:Heap):Prop where
 kin:K.In base
 glob:base.Ns mainGlobals mg
 blt:∃ mb,base.Ns builtinsNs mb∧∀ x:Str,x≠"__name__"→mb x=bootBuiltins x
 nolimit:base.NoLimit
structure Cx where
 prog:Program
 w:World
 K:PySem.W.Frag
 mg:Str→Option Value
 base:Heap
 A:Around
 N:List Str
 s₀:Shared
 H₀:Hp
 env:Env
 outer:List Env
 stack:List Env
 ex:List Addr
 fn:Str→Bool
 calm:Bool
 pn:List (Addr × Obj)
 xe:Value→Shared→Prop
noncomputable def frs (l:List Env):List Addr:=l.filterMap (·.frame)
noncomputable abbrev Cx.fs (X:Cx):List Addr:=frs X.outer
noncomputable def Vis (sc:Scope) (x:Str):Prop:=sc.names.lookup x=some .local∨sc.names.lookup x=some .cell∨sc.names.lookup x=some .free
noncomputable def Loc (sc:Scope) (x:Str):Prop:=sc.names.lookup x=some .local∨sc.names.lookup x=some .cell
noncomputable def Look (env:Env) (h:Heap) (m:Str→Option Value) (x:Str) (u:Value):Prop :=
 (env.kindOf x=some .local∧m x=some u)∨((env.kindOf x=some .cell∨env.kindOf x=some .free)∧∃ c,env.cells.lookup x=some c∧h.IsCell c (some u))
structure Cx.Ok (X:Cx):Prop where
 mod:Mod X.K X.mg X.base
 kind:X.env.scope.kind=.function
 glob:X.env.globals=mainGlobals
 blt:X.env.builtins=builtinsNs
 above:X.s₀.heap.objs.size≤X.env.locals
 inj:∀ x y c,X.env.cells.lookup x=some c→X.env.cells.lookup y=some c→x=y
 has:∀ x,(X.env.kindOf x=some .cell∨X.env.kindOf x=some .free)→∃ c,X.env.cells.lookup x=some c
 cab:∀ x c,X.fn x=true→X.env.cells.lookup x=some c→X.s₀.heap.objs.size≤c
 hd:X.calm=true→X.A.handled=none
 frames:X.A.frames=some X.stack
 stk:X.stack=X.outer∨(X.stack=X.env :: X.outer∧X.env.frame=some X.env.locals)
 exf:∀ b∈X.ex,b≠X.env.locals∧∀ x c,X.env.cells.lookup x=some c→c≠b
 bs:∀ b o,X.base.get? b=some o→X.s₀.heap.get? b=some o∧X.H₀ b=none
 bsz:X.base.objs.size≤X.s₀.heap.objs.size
 noex:∀ b o,X.base.get? b=some o→b ∉ X.ex
 exfs:∀ b∈X.ex,b ∉ X.fs
 funs:X.s₀.heap.FunFrames X.base X.outer
 frf:∀ b∈X.fs,X.H₀ b=none
structure Inv (X:Cx) (pins:List (Addr × Obj)) (σ:List (Option V)) (H:Hp) (s:Shared):Prop where
 ok:X.Ok
 os:s.os=X.s₀.os
 bare:AllBare s.gens
 base:Un X.fs X.ex X.H₀ H X.s₀.heap s.heap
 loc:∃ m,s.heap.Ns X.env.locals m∧∀ (i:Nat) (x:Str) (v:V),X.N[i]?=some x→σ[i]?=some (some v)→Vis X.env.scope x→∃ u,RelV v u∧Look X.env s.heap m x u
 cell:∀ x c,X.env.cells.lookup x=some c→∃ v,s.heap.IsCell c v
 free:H X.env.locals=none
 freeC:∀ x c,X.env.cells.lookup x=some c→H c=none
 pin:∀ p∈X.pn ++ pins,s.heap.get? p.1=some p.2∧H p.1=none∧p.1≠X.env.locals∧p.1 ∉ X.fs∧∀ v,p.2.data≠.cell v
 hok:HOk X.prog X.w H s.heap
 len:σ.length=X.N.length
section
variable {X:Cx} {pins:List (Addr × Obj)} {σ:List (Option V)} {H H':Hp} {s:Shared} {h':Heap}
theorem Cx.Ok.nofr (ok:X.Ok) {b:Addr} {o:Obj} (e:X.base.get? b=some o):b ∉ X.fs:=fun hb=>by
 have:=(ok.funs.mem hb).1
 rw [e] at this; cases this
theorem Inv.bs (I:Inv X pins σ H s):∀ b o,X.base.get? b=some o→s.heap.get? b=some o∧H b=none:=fun b o e =>
 ⟨I.base.keep b o (I.ok.bs b o e).1 (I.ok.bs b o e).2 (I.ok.nofr e) (I.ok.noex b o e),I.base.free b o (I.ok.bs b o e).1 (I.ok.bs b o e).2 (I.ok.noex b o e)⟩
theorem Inv.bk (I:Inv X pins σ H s):∀ b o,X.base.get? b=some o→s.heap.get? b=some o:=fun b o e=>(I.bs b o e).1
theorem Inv.mod (I:Inv X pins σ H s):Mod X.K X.mg X.base:=I.ok.mod
theorem Inv.kIn (I:Inv X pins σ H s):X.K.In s.heap:=I.ok.mod.kin.keeps I.bk
theorem Inv.lt (I:Inv X pins σ H s):X.env.locals < s.heap.objs.size:=let ⟨_,hn,_⟩:=I.loc; hn.lt
theorem Inv.sz (I:Inv X pins σ H s):X.s₀.heap.objs.size≤s.heap.objs.size:=Nat.le_trans I.ok.above (Nat.le_of_lt I.lt)
theorem Inv.nofs (I:Inv X pins σ H s) {a:Addr} (h:s.heap.objs.size≤a):a ∉ X.fs:=fun hb=>by
 obtain ⟨_,o,ho,_⟩:=I.ok.funs.mem hb
 exact absurd (Nat.lt_of_lt_of_le (Heap.lt_size ho) (Nat.le_trans I.sz h)) (Nat.lt_irrefl _)
theorem Inv.cne (I:Inv X pins σ H s):∀ x c,X.env.cells.lookup x=some c→c≠X.env.locals:=fun x c e z=>by
 obtain ⟨v,o,ho,hd⟩:=I.cell x c e
 obtain ⟨m,⟨o',es,ep,ho',hd',_⟩,_⟩:=I.loc
 rw [z,ho'] at ho; cases ho; rw [hd'] at hd; cases hd
theorem Inv.funs (I:Inv X pins σ H s):s.heap.FunFrames X.base X.outer:=by
 have all:∀ (l:List Env),(∀ b∈frs l,b∈X.fs)→X.s₀.heap.FunFrames X.base l→s.heap.FunFrames X.base l:=by
  intro l
  induction l with
  | nil=>intro _ _; trivial
  | cons env r ih =>
   intro hs hl
   obtain ⟨hk,⟨L,o,hf,hn,ho,hd⟩,hr⟩:=hl
   have hL:L∈X.fs:=hs L (by unfold frs; rw [List.filterMap_cons,hf]; exact List.mem_cons_self)
   obtain ⟨sl,e⟩:=I.base.slot L o ho (I.ok.frf L hL) hL fun z=>I.ok.exfs L z hL
   exact ⟨hk,⟨L,_,hf,hn,e,hd⟩,ih (fun b hb=>hs b (by unfold frs; rw [List.filterMap_cons,hf]; exact List.mem_cons_of_mem _ hb)) hr⟩
 exact all X.outer (fun _ hb=>hb) I.ok.funs
theorem Inv.stack (I:Inv X pins σ H s):s.heap.FunFrames X.base X.stack:=by
 rcases I.ok.stk with e | ⟨e,hf⟩
 ·rw [e]; exact I.funs
 ·rw [e]
  obtain ⟨m,hn,_⟩:=I.loc
  refine .cons (by rw [I.ok.kind]; decide) hf hn ?_ I.funs
  exact Heap.get?_none_of_le (Nat.le_trans I.ok.bsz I.ok.above)
theorem Inv.stkSub (I:Inv X pins σ H s):∀ b∈frs X.stack,b∈X.env.locals :: X.fs:=fun b hb=>by
 rcases I.ok.stk with e | ⟨e,hf⟩
 ·rw [e] at hb; exact List.mem_cons_of_mem _ hb
 ·rw [e] at hb
  unfold frs at hb
  rw [List.filterMap_cons,hf] at hb
  exact hb
theorem Inv.stkFree (I:Inv X pins σ H s):∀ b∈frs X.stack,H b=none:=fun b hb=>by
 rcases List.mem_cons.mp (I.stkSub b hb) with e | hb
 ·rw [e]; exact I.free
 ·obtain ⟨_,o,ho,_⟩:=I.ok.funs.mem hb
  exact I.base.free b o ho (I.ok.frf b hb) fun z=>I.ok.exfs b z hb
theorem Inv.step {g':Array GenState} {t':Nat} {d':Drawn} {ch:List Addr} (I:Inv X pins σ H s)
  (hch:∀ b∈ch,(b∈X.ex∨X.s₀.heap.objs.size≤b)∧b≠X.env.locals∧(∀ x c,X.env.cells.lookup x=some c→c≠b)∧∀ p∈X.pn ++ pins,p.1≠b)
  (keep:∀ b o,b≠X.env.locals→b ∉ X.fs→b ∉ ch→s.heap.get? b=some o→H b=none→h'.get? b=some o)
  (slot:∀ b o,b≠X.env.locals→b∈X.fs→b ∉ ch→s.heap.get? b=some o→H b=none→∃ sl,h'.get? b=some { o with slots:=sl }) (free:∀ b o,b ∉ ch→s.heap.get? b=some o→H b=none→H' b=none)
  (there:∀ b o,b ∉ ch→s.heap.get? b=some o→∃ o',h'.get? b=some o')
  (tups:∀ b xs,H b=some (.tup xs)→H' b=some (.tup xs)) (frzs:∀ b o u,H b=some (.frz o u)→H' b=some (.frz o u)) (tbls:∀ b ps,H b=some (.tbl ps)→∃ more,H' b=some (.tbl (ps ++ more)))
  (ns:∀ m,s.heap.Ns X.env.locals m→h'.Ns X.env.locals m) (hok:HOk X.prog X.w H' h') (hg:AllBare g') :
  Inv X pins σ H' { s with heap:=h',gens:=g',drawn:=d',toks:=t' }:=by
 have neL:∀ b o,X.s₀.heap.get? b=some o→b≠X.env.locals:=fun b o e=>Nat.ne_of_lt (Nat.lt_of_lt_of_le (Heap.lt_size e) I.ok.above)
 have neC:∀ b o,X.s₀.heap.get? b=some o→b ∉ X.ex→b ∉ ch:=fun b o e hx hb=>by
  rcases (hch b hb).1 with z | z
  ·exact hx z
  ·exact absurd (Nat.lt_of_lt_of_le (Heap.lt_size e) z) (Nat.lt_irrefl _)
 have cellK:∀ x c,X.env.cells.lookup x=some c→∀ v,s.heap.IsCell c v→h'.IsCell c v:=fun x c e v ⟨o,ho,hd⟩=>by
  have nch:c ∉ ch:=fun z=>(hch c z).2.2.1 x c e rfl
  by_cases hc:c∈X.fs
  ·obtain ⟨sl,q⟩:=slot c o (I.cne x c e) hc nch ho (I.freeC x c e)
   exact ⟨_,q,hd⟩
  ·exact ⟨o,keep c o (I.cne x c e) hc nch ho (I.freeC x c e),hd⟩
 refine ⟨I.ok,I.os,hg,⟨fun b o e n hb hx=>?_,fun b o e n hb hx=>?_,fun b o e n hx=>?_,fun b o e hx=>?_,fun b xs e=>tups b xs (I.base.tups b xs e),fun b o xs e=>frzs b o xs (I.base.frzs b o xs e),fun b ps e=>?_⟩,?_,fun x c e=>?_,?_,fun x c e=>?_,fun p hp=>?_,hok,I.len⟩
 ·exact keep b o (neL b o e) hb (neC b o e hx) (I.base.keep b o e n hb hx) (I.base.free b o e n hx)
 ·obtain ⟨sl,e1⟩:=I.base.slot b o e n hb hx
  obtain ⟨sl',e2⟩:=slot b _ (neL b o e) hb (neC b o e hx) e1 (I.base.free b o e n hx)
  exact ⟨sl',e2⟩
 ·obtain ⟨o',e1⟩:=I.base.there b o e hx
  exact free b o' (neC b o e hx) e1 (I.base.free b o e n hx)
 ·obtain ⟨o',e1⟩:=I.base.there b o e hx
  exact there b o' (neC b o e hx) e1
 ·obtain ⟨m1,e1⟩:=I.base.tbls b ps e
  obtain ⟨m2,e2⟩:=tbls b _ e1
  exact ⟨m1 ++ m2,by rw [e2,Array.append_assoc]⟩
 ·obtain ⟨m,hn,hl⟩:=I.loc
  refine ⟨m,ns m hn,fun i x v e1 e2 e3=>?_⟩
  obtain ⟨u,r,l⟩:=hl i x v e1 e2 e3
  refine ⟨u,r,?_⟩
  rcases l with l | ⟨k,c,e,z⟩
  ·exact .inl l
  ·exact .inr ⟨k,c,e,cellK x c e _ z⟩
 ·obtain ⟨v,z⟩:=I.cell x c e
  exact ⟨v,cellK x c e v z⟩
 ·obtain ⟨m,⟨o,_,_,ho,_⟩,_⟩:=I.loc
  exact free _ o (fun z=>(hch _ z).2.1 rfl) ho I.free
 ·obtain ⟨v,o,ho,hd⟩:=I.cell x c e
  exact free c o (fun z=>(hch c z).2.2.1 x c e rfl) ho (I.freeC x c e)
 ·obtain ⟨e,n,ne,nf,d⟩:=I.pin p hp
  have nch:p.1 ∉ ch:=fun z=>(hch p.1 z).2.2.2 p hp rfl
  exact ⟨keep p.1 p.2 ne nf nch e n,free p.1 p.2 nch e n,ne,nf,d⟩
theorem Inv.un {t':Nat} (I:Inv X pins σ H s) (u:Un X.fs [] H H' s.heap h') (hok:HOk X.prog X.w H' h'):Inv X pins σ H' { s with heap:=h',toks:=t' }:=by
 obtain ⟨m,⟨o,es,ep,ho,r⟩,_⟩:=id I.loc
 obtain ⟨sl,hL⟩:=u.any ho I.free (by simp)
 exact I.step (g':=s.gens) (d':=s.drawn) (ch:=[]) (fun _ z=>nomatch z) (fun b o _ hb _ e n=>u.keep b o e n hb (by simp)) (fun b o _ hb _ e n=>u.slot b o e n hb (by simp)) (fun b o _ e n=>u.free b o e n (by simp)) (fun b o _ e=>u.there b o e (by simp)) u.tups u.frzs u.tbls (fun m' hm=>by
  obtain ⟨o',es',ep',ho',r'⟩:=hm
  rw [ho] at ho'; cases ho'
  exact ⟨_,es',ep',hL,r'⟩) hok I.bare
theorem Inv.call {g':Array GenState} {t':Nat} {d':Drawn} {ch:List Addr} (I:Inv X pins σ H s) (u:Un (frs X.stack) ch H H' s.heap h') (hok:HOk X.prog X.w H' h') (hg:AllBare g')
  (hch:∀ b∈ch,(b∈X.ex∨X.s₀.heap.objs.size≤b)∧b≠X.env.locals∧(∀ x c,X.env.cells.lookup x=some c→c≠b)∧∀ p∈X.pn ++ pins,p.1≠b) :
  Inv X pins σ H' { s with heap:=h',gens:=g',drawn:=d',toks:=t' }:=by
 obtain ⟨m,⟨o,es,ep,ho,r⟩,_⟩:=id I.loc
 obtain ⟨sl,hL⟩:=u.any ho I.free fun z=>(hch _ z).2.1 rfl
 exact I.step (ch:=ch) hch (fun b o hL hb hc e n=>u.keep b o e n (fun z=>(List.mem_cons.mp (I.stkSub b z)).elim hL hb) hc) (fun b o _ _ hc e n=>u.any e n hc) (fun b o hc e n=>u.free b o e n hc) (fun b o hc e=>u.there b o e hc) u.tups u.frzs u.tbls (fun m' hm=>by
  obtain ⟨o',es',ep',ho',r'⟩:=hm
  rw [ho] at ho'; cases ho'
  exact ⟨_,es',ep',hL,r'⟩) hok hg
theorem Inv.turned {t':Nat} {it:Addr} (I:Inv X pins σ H s) (k:∀ b o,b≠it→s.heap.get? b=some o→h'.get? b=some o) (hn:H it=none) (hL:it≠X.env.locals)
  (h1:it∈X.ex∨X.s₀.heap.objs.size≤it) (h2:∀ x c,X.env.cells.lookup x=some c→c≠it) (h3:∀ p∈X.pn ++ pins,p.1≠it):Inv X pins σ H { s with heap:=h',toks:=t' }:=by
 have nit:∀ b u,H b=some u→b≠it:=fun b u e z=>by rw [z,hn] at e; cases e
 refine I.step (g':=s.gens) (d':=s.drawn) (ch:=[it]) (fun b hb=>?_) (fun b o _ _ hc e _=>k b o (fun z=>hc (by simp [z])) e) (fun b o _ _ hc e _=>⟨o.slots,k b o (fun z=>hc (by simp [z])) e⟩) (fun _ _ _ _ n=>n)
  (fun b o hc e=>⟨o,k b o (fun z=>hc (by simp [z])) e⟩) (fun _ _ e=>e) (fun _ _ _ e=>e) (fun b ps e=>⟨#[],by rw [e]; simp⟩) (fun m hm=>?_) (fun b u e=>?_) I.bare
 ·have e:b=it:=by simpa using hb
  subst e
  exact ⟨h1,hL,h2,h3⟩
 ·obtain ⟨o,es,ep,ho,r⟩:=hm
  exact ⟨o,es,ep,k _ o (Ne.symm hL) ho,r⟩
 ·refine (I.hok b u e).stay (fun c v hc q=>k c v ?_ q) (fun _ q=>q) fun _ _ q=>q
  rcases hc with z | z
  ·rw [z]; exact nit b u e
  ·exact nit c _ z
theorem Inv.tok (I:Inv X pins σ H s) (t:Nat):Inv X pins σ H { s with toks:=t }:=I.un (h':=s.heap) (t':=t) Un.refl I.hok
theorem Inv.kept {t':Nat} (I:Inv X pins σ H s) (k:∀ b u,s.heap.get? b=some u→h'.get? b=some u):Inv X pins σ H { s with heap:=h',toks:=t' }:=I.un (Un.kept k) (I.hok.kept k)
theorem Inv.laid {a:Addr} {o:HO} {t':Nat} (I:Inv X pins σ H s) (k:∀ b u,s.heap.get? b=some u→h'.get? b=some u) (hp:s.heap.objs.size≤a) (new:Ye X.prog X.w (upd H a o) h' a o) :
  Inv X pins σ (upd H a o) { s with heap:=h',toks:=t' }:=I.un (Un.laid k hp (I.hok.fresh hp)) (I.hok.laid k hp new)
theorem Inv.write {x e:Addr} {o:HO} {t':Nat} (I:Inv X pins σ H s) (mu:Mut (H x)) (he:e=x∨H e=some (.own x)) (k:∀ b u,b≠e→s.heap.get? b=some u→h'.get? b=some u) (heo:∃ u,h'.get? e=some u)
  (new:Ye X.prog X.w (upd H x o) h' x o):Inv X pins σ (upd H x o) { s with heap:=h',toks:=t' }:=I.un (Un.write mu he k heo) (I.hok.write mu he k heo new)
theorem Inv.pins_of {pins':List (Addr × Obj)} (I:Inv X pins σ H s) (h:∀ p∈pins',s.heap.get? p.1=some p.2∧H p.1=none∧p.1≠X.env.locals∧p.1 ∉ X.fs∧∀ v,p.2.data≠.cell v):Inv X pins' σ H s :=
 ⟨I.ok,I.os,I.bare,I.base,I.loc,I.cell,I.free,I.freeC,fun p hp=>(List.mem_append.mp hp).elim (fun z=>I.pin p (List.mem_append_left _ z)) (h p),I.hok,I.len⟩
theorem Zci {N:List Str} (hN:N.Nodup) {i j:Nat} {x:Str} (a:N[i]?=some x) (b:N[j]?=some x):i=j:=by
 obtain ⟨h1,e1⟩:=List.getElem?_eq_some_iff.mp a
 obtain ⟨h2,e2⟩:=List.getElem?_eq_some_iff.mp b
 exact (List.getElem_inj hN).mp (e1.trans e2.symm)
theorem Fk {M:Model} {A:Around} {E:Value→Shared→Prop} {i:Nat} {x:Str} {v:V} {u:Value} {Q:Unit→Shared→Prop} (I:Inv X pins σ H s) (hN:X.N.Nodup) (hi:X.N[i]?=some x) (hx:Loc X.env.scope x) (r:RelV v u)
  (h:∀ s',Inv X pins (σ.set i (some v)) H s'→(∃ a,Heap.SameBut a s.heap s'.heap∧(a=X.env.locals∨X.env.cells.lookup x=some a))→Q () s') (hf:X.fn x=true∨X.env.scope.names.lookup x=some .local:=by first | exact .inl rfl | exact .inr rfl | assumption):wpAny M A (storeName X.env x u) Q E s:=by
 obtain ⟨m,hn,hl⟩:=id I.loc
 have hcls:(X.env.scope.kind == .class || (X.env.scope.kind == .module && X.env.locals != X.env.globals))=false:=by rw [I.ok.kind]; rfl
 have hiσ:i < σ.length:=by rw [I.len]; exact (List.getElem?_eq_some_iff.mp hi).1
 have cne:=I.cne
 have tracked:∀ {a:Addr} {h':Heap},(∃ o,s.heap.get? a=some o∧H a=none)→Heap.SameBut a s.heap h'→HOk X.prog X.w H h':=fun {a h'} ha hs b ob e=>by
  obtain ⟨_,_,hfree⟩:=ha
  refine (I.hok b ob e).stay (fun c w' hc q=>(hs.2 c ?_).trans q) (fun _ q=>q) fun _ _ q=>q
  rintro rfl
  rcases hc with rfl | hc
  ·rw [hfree] at e; cases e
  ·rw [hfree] at hc; cases hc
 rcases hx with hk | hk
 ·refine wpAny_storeName_local hk hn (fun h' hn' hs=>?_) hcls
  obtain ⟨oL,_,_,hoL,_⟩:=id hn
  refine h _ ⟨I.ok,I.os,I.bare,⟨fun b o e n hb hx=>?_,fun b o e n hb hx=>?_,I.base.free,fun b o e hx=>?_,I.base.tups,I.base.frzs,I.base.tbls⟩,⟨_,hn',fun j y v' e1 e2 e3=>?_⟩,fun y c e=>?_,I.free,I.freeC,fun p hp=>?_,tracked ⟨oL,hoL,I.free⟩ hs,by simpa using I.len⟩ ⟨_,hs,.inl rfl⟩
  ·exact (hs.2 b (Nat.ne_of_lt (Nat.lt_of_lt_of_le (Heap.lt_size e) I.ok.above))).trans (I.base.keep b o e n hb hx)
  ·obtain ⟨sl,e1⟩:=I.base.slot b o e n hb hx
   exact ⟨sl,(hs.2 b (Nat.ne_of_lt (Nat.lt_of_lt_of_le (Heap.lt_size e) I.ok.above))).trans e1⟩
  ·obtain ⟨o',e1⟩:=I.base.there b o e hx
   exact ⟨o',(hs.2 b (Nat.ne_of_lt (Nat.lt_of_lt_of_le (Heap.lt_size e) I.ok.above))).trans e1⟩
  ·by_cases hj:j=i
   ·subst hj
    rw [hi] at e1; cases e1
    rw [List.getElem?_set_self hiσ] at e2
    cases e2
    exact ⟨u,r,.inl ⟨hk,by simp⟩⟩
   ·rw [List.getElem?_set_ne (Ne.symm hj)] at e2
    obtain ⟨u',r',q⟩:=hl j y v' e1 e2 e3
    refine ⟨u',r',?_⟩
    rcases q with ⟨k,e⟩ | ⟨k,c,e,z⟩
    ·refine .inl ⟨k,?_⟩
     have:y≠x:=fun e=>hj (Zci hN e1 (e ▸ hi))
     simp [this,e]
    ·exact .inr ⟨k,c,e,z.sameBut hs (cne y c e)⟩
  ·obtain ⟨w',z⟩:=I.cell y c e
   exact ⟨w',z.sameBut hs (cne y c e)⟩
  ·obtain ⟨e,n,ne,nf,d⟩:=I.pin p hp
   exact ⟨(hs.2 p.1 ne).trans e,n,ne,nf,d⟩
 ·have hfn:X.fn x=true:=by
   rcases hf with z | z
   ·exact z
   ·rw [z] at hk; cases hk
  obtain ⟨c,hc⟩:=I.ok.has x (.inl hk)
  obtain ⟨w',z⟩:=I.cell x c hc
  refine wpAny_storeName_cell I.ok.kind hk hc z (fun h' hc' hs=>?_)
  obtain ⟨oc,hoc,hocd⟩:=id z
  refine h { s with heap:=h' } ⟨I.ok,I.os,I.bare,⟨fun b o e n hb hx=>?_,fun b o e n hb hx=>?_,I.base.free,fun b o e hx=>?_,I.base.tups,I.base.frzs,I.base.tbls⟩,⟨m,hn.sameBut hs (Ne.symm (cne x c hc)),fun j y v' e1 e2 e3=>?_⟩,fun y c' e=>?_,I.free,I.freeC,fun p hp=>?_,tracked ⟨oc,hoc,I.freeC x c hc⟩ hs,by simpa using I.len⟩ ⟨c,hs,.inr hc⟩
  ·exact (hs.2 b (Nat.ne_of_lt (Nat.lt_of_lt_of_le (Heap.lt_size e) (I.ok.cab x c hfn hc)))).trans (I.base.keep b o e n hb hx)
  ·obtain ⟨sl,e1⟩:=I.base.slot b o e n hb hx
   exact ⟨sl,(hs.2 b (Nat.ne_of_lt (Nat.lt_of_lt_of_le (Heap.lt_size e) (I.ok.cab x c hfn hc)))).trans e1⟩
  ·obtain ⟨o',e1⟩:=I.base.there b o e hx
   exact ⟨o',(hs.2 b (Nat.ne_of_lt (Nat.lt_of_lt_of_le (Heap.lt_size e) (I.ok.cab x c hfn hc)))).trans e1⟩
  ·by_cases hj:j=i
   ·subst hj
    rw [hi] at e1; cases e1
    rw [List.getElem?_set_self hiσ] at e2
    cases e2
    exact ⟨u,r,.inr ⟨.inl hk,c,hc,hc'⟩⟩
   ·rw [List.getElem?_set_ne (Ne.symm hj)] at e2
    obtain ⟨u',r',q⟩:=hl j y v' e1 e2 e3
    refine ⟨u',r',?_⟩
    rcases q with q | ⟨k,c',e,z'⟩
    ·exact .inl q
    ·refine .inr ⟨k,c',e,z'.sameBut hs ?_⟩
     rintro rfl
     exact hj (Zci hN e1 (I.ok.inj _ _ _ e hc ▸ hi))
  ·by_cases hcc:c'=c
   ·subst hcc; exact ⟨_,hc'⟩
   ·obtain ⟨w2,z2⟩:=I.cell y c' e
    exact ⟨w2,z2.sameBut hs hcc⟩
  ·obtain ⟨e,n,ne,nf,d⟩:=I.pin p hp
   refine ⟨(hs.2 p.1 ?_).trans e,n,ne,nf,d⟩
   intro q
   rw [q,hoc] at e
   have q':oc=p.2:=Option.some.inj e
   exact d w' (by rw [← q']; exact hocd)
theorem Ja {M:Model} {A:Around} {E:Value→Shared→Prop} {i:Nat} {x:Str} {v:V} {u:Value} {Q:Unit→Shared→Prop} (I:Inv X pins σ H s) (hN:X.N.Nodup) (hi:X.N[i]?=some x) (hx:Loc X.env.scope x) (r:RelV v u)
  (h:∀ s',Inv X pins (σ.set i (some v)) H s'→Q () s') (hf:X.fn x=true∨X.env.scope.names.lookup x=some .local:=by first | exact .inl rfl | exact .inr rfl | assumption):wpAny M A (storeName X.env x u) Q E s :=
 Fk I hN hi hx r (fun s' I' _=>h s' I') hf
theorem Inv.call' {s':Shared} {ch:List Addr} (I:Inv X pins σ H s) (ho:s'.os=s.os) (u:Un (frs X.stack) ch H H' s.heap s'.heap) (hok:HOk X.prog X.w H' s'.heap) (hg:AllBare s'.gens)
  (hch:∀ b∈ch,(b∈X.ex∨X.s₀.heap.objs.size≤b)∧b≠X.env.locals∧(∀ x c,X.env.cells.lookup x=some c→c≠b)∧∀ p∈X.pn ++ pins,p.1≠b):Inv X pins σ H' s':=by
 obtain ⟨h',g',d',t',o'⟩:=s'
 have e:o'=s.os:=ho
 subst e
 exact I.call (g':=g') (t':=t') (d':=d') u hok hg hch
end
noncomputable abbrev XK:=Value→Option Addr→Hp→Prop
noncomputable abbrev St:=List (Option V)
noncomputable abbrev VK:=V→Hp→Prop
noncomputable abbrev TE:=St→Hp→VK→Prop
noncomputable abbrev TT:=St→Hp→(Bool→Hp→Prop)→Prop
noncomputable abbrev TA:=St→Hp→(List V→Hp→Prop)→Prop
structure Ends where
 nx:St→Hp→Prop
 rt:VK
 bk:St→Hp→Prop:=fun _ _=>False
 ct:St→Hp→Prop:=fun _ _=>False
noncomputable abbrev TS:=Ends→St→Hp→Prop
noncomputable def EP (X:Cx) (pins:List (Addr × Obj)) (σ:St) (Q:VK) (u:Value) (s':Shared):Prop:=∃ v H',Inv X pins σ H' s'∧RelV v u∧Q v H'
noncomputable def TP (X:Cx) (pins:List (Addr × Obj)) (σ:St) (Q:Bool→Hp→Prop) (b:Bool) (s':Shared):Prop:=∃ H',Inv X pins σ H' s'∧Q b H'
noncomputable def AP (X:Cx) (pins:List (Addr × Obj)) (σ:St) (Q:List V→Hp→Prop) (us:List Value) (s':Shared):Prop:=∃ vs H',Inv X pins σ H' s'∧Vals vs us∧Q vs H'
noncomputable def SP (X:Cx) (pins:List (Addr × Obj)) (D:Ends) (f:Flow) (s':Shared):Prop :=
 match f with
 | .next=>∃ σ' H',Inv X pins σ' H' s'∧D.nx σ' H'
 | .brk=>∃ σ' H',Inv X pins σ' H' s'∧D.bk σ' H'
 | .cont=>∃ σ' H',Inv X pins σ' H' s'∧D.ct σ' H'
 | .ret u=>∃ v σ' H',Inv X pins σ' H' s'∧RelV v u∧D.rt v H'
noncomputable def PE (X:Cx) (e:Expr) (t:TE):Prop :=
 ∀ (pins:List (Addr × Obj)) (s:Shared) (σ:St) (H:Hp) (Q:VK),Inv X pins σ H s→t σ H Q→wpAny (model X.prog X.w) X.A (eval e X.env) (EP X pins σ Q) X.xe s
noncomputable def PT (X:Cx) (e:Expr) (t:TT):Prop :=
 ∀ (pins:List (Addr × Obj)) (s:Shared) (σ:St) (H:Hp) (Q:Bool→Hp→Prop),Inv X pins σ H s→t σ H Q→wpAny (model X.prog X.w) X.A (isTrue e X.env (eval e X.env)) (TP X pins σ Q) X.xe s
noncomputable def PW (X:Cx) (e:Expr) (t:TT):Prop :=
 ∀ (whole:Sem Value) (pins:List (Addr × Obj)) (s:Shared) (σ:St) (H:Hp) (Q:Bool→Hp→Prop),Inv X pins σ H s→t σ H Q→wpAny (model X.prog X.w) X.A (isTrue e X.env whole) (TP X pins σ Q) X.xe s
theorem PW.pt {X:Cx} {e:Expr} {t:TT} (h:PW X e t):PT X e t:=h _
noncomputable def PA (X:Cx) (es:List Expr) (t:TA):Prop :=
 ∀ (pos:Pos) (pins:List (Addr × Obj)) (s:Shared) (σ:St) (H:Hp) (Q:List V→Hp→Prop),Inv X pins σ H s→t σ H Q→wpAny (model X.prog X.w) X.A (spliced (backTo pos (starEach es X.env))) (AP X pins σ Q) X.xe s
noncomputable def PS (X:Cx) (st:Stmt) (t:TS):Prop :=
 ∀ (pins:List (Addr × Obj)) (s:Shared) (σ:St) (H:Hp) (D:Ends),Inv X pins σ H s→t D σ H→wpAny (model X.prog X.w) X.A (exec st X.env) (SP X pins D) X.xe s
noncomputable def PSs (X:Cx) (st:List Stmt) (t:TS):Prop :=
 ∀ (pins:List (Addr × Obj)) (s:Shared) (σ:St) (H:Hp) (D:Ends),Inv X pins σ H s→t D σ H→wpAny (model X.prog X.w) X.A (execs st X.env) (SP X pins D) X.xe s
theorem thn {α:Type} {t:Sem α} {Q Q':α→Shared→Prop} {M:Model} {A:Around} {E:Value→Shared→Prop} {s:Shared} (h:wpAny M A t Q E s) (hQ:∀ a s,Q a s→Q' a s):wpAny M A t Q' E s:=wpAny_mono h hQ fun _ _ x=>x
end L2
namespace L2
open PySem PySem.Spec PyProof.Rows
section
variable {X:Cx}
noncomputable def tVar (i:Nat):TE:=fun σ H Q=>∃ v,σ[i]?=some (some v)∧Q v H
noncomputable def tC (v:V):TE:=fun _ H Q=>Q v H
theorem Zlk {i:Nat} {x:Str} {pos:Pos} (hN:X.N[i]?=some x) (hv:Vis X.env.scope x) (hd:(x == ("__debug__":Str))=false:=by decide) (hcd:(x == ("__classdict__":Str))=false:=by decide):PE X (.Name x pos) (tVar i):=by
 intro pins s σ H Q I h
 obtain ⟨v,e,h⟩:=h
 obtain ⟨m,hn,hl⟩:=I.loc
 obtain ⟨u,r,l⟩:=hl i x v hN e hv
 have fin:EP X pins σ Q u s:=⟨v,H,I,r,h⟩
 rcases l with ⟨hk,hm⟩ | ⟨hk,c,hc,hcell⟩
 ·exact wpAny_Name (wpAny_loadName_local I.ok.kind hk hn hm fin) hd
 ·rcases hk with hk | hk
  ·exact wpAny_Name (wpAny_loadName_cell I.ok.kind hk hc hcell fin) hd
  ·exact wpAny_Name (wpAny_loadName_free I.ok.kind hk hc hcell fin hcd) hd
theorem Zf {i j pos}:PE X (.Constant (.int i) j pos) (tC (.int i)):=fun _ _ _ H _ I h=>wpAny_Constant_int ⟨.int i,H,I.tok _,⟨_,rfl⟩,h⟩
theorem Xp {b j pos}:PE X (.Constant (.bool b) j pos) (tC (.bl b)):=fun _ _ _ H _ I h=>Constant_bool ⟨.bl b,H,I,rfl,h⟩
theorem Qj {j pos}:PE X (.Constant .none j pos) (tC .non):=fun _ _ _ H _ I h=>Constant_none ⟨.non,H,I,rfl,h⟩
theorem Z4 {x j pos}:PE X (.Constant (.str x) j pos) (tC (.str x)):=fun _ _ _ H _ I h=>Calls.Constant_str ⟨.str x,H,I.tok _,⟨_,rfl⟩,h⟩
noncomputable def Gl (X:Cx) (x:Str):Prop:=X.env.kindOf x=some .globalImplicit
theorem Vn {E:Value→Shared→Prop} {pins:List (Addr × Obj)} {s:Shared} {σ:St} {H:Hp} {x:Str} {u:Value} {pos:Pos} {Q:Value→Shared→Prop} (I:Inv X pins σ H s) (hg:Gl X x) (hm:X.mg x=some u) (h:Q u s)
  (hd:(x == ("__debug__":Str))=false:=by decide):wpAny (model X.prog X.w) X.A (eval (.Name x pos) X.env) Q E s :=
 Calls.Name_function_global I.ok.kind hg (Calls.loadGlobal_global (by rw [I.ok.glob]; exact I.mod.glob.keeps I.bk) hm h) hd
theorem Xs {E:Value→Shared→Prop} {pins:List (Addr × Obj)} {s:Shared} {σ:St} {H:Hp} {x:Str} {u:Value} {pos:Pos} {Q:Value→Shared→Prop} (I:Inv X pins σ H s) (hg:Gl X x) (hm:X.mg x=none) (hv:bootBuiltins x=some u) (h:Q u s)
  (hn:x≠"__name__":=by decide) (hd:(x == ("__debug__":Str))=false:=by decide):wpAny (model X.prog X.w) X.A (eval (.Name x pos) X.env) Q E s:=by
 obtain ⟨mb,h1,h2⟩:=I.mod.blt
 exact Calls.Name_function_global I.ok.kind hg (Calls.loadGlobal_builtin (by rw [I.ok.glob]; exact I.mod.glob.keeps I.bk) hm (by rw [I.ok.blt]; exact h1.keeps I.bk) ((h2 x hn).trans hv) h) hd
theorem Ji {x:Str} {v:V} {u:Value} {pos:Pos} (hg:Gl X x) (hm:X.mg x=some u) (r:RelV v u) (hd:(x == ("__debug__":Str))=false:=by decide):PE X (.Name x pos) (tC v) :=
 fun _ _ _ H _ I h=>Vn I hg hm ⟨v,H,I,r,h⟩ hd
theorem Qb {x:Str} {v:V} {u:Value} {pos:Pos} (hg:Gl X x) (hm:X.mg x=none) (hv:bootBuiltins x=some u) (r:RelV v u) (hn:x≠"__name__":=by decide) (hd:(x == ("__debug__":Str))=false:=by decide):PE X (.Name x pos) (tC v) :=
 fun _ _ _ H _ I h=>Xs I hg hm hv ⟨v,H,I,r,h⟩ hn hd
variable {a b:Expr} {ta tb:TE} {pos:Pos}
noncomputable def PC (X:Cx) (op:CmpOp) (a b:Expr) (t:TE):Prop :=
 ∀ (pins:List (Addr × Obj)) (s:Shared) (σ:St) (H:Hp) (Q:VK),Inv X pins σ H s→t σ H Q →
  wpAny (model X.prog X.w) X.A (eval a X.env) (fun v s₁=>wpAny (model X.prog X.w) X.A (eval b X.env) (fun u s₂=>wpAny (model X.prog X.w) X.A (compareOp op v u) (EP X pins σ Q) X.xe s₂) X.xe s₁) X.xe s
noncomputable def tB (t:TE):TT:=fun σ H Q=>t σ H fun x H1=>∃ c,x=.bl c∧Q c H1
theorem Vg {op:CmpOp} {t:TE} (h:PC X op a b t) (h1:behindInMarks op b=false:=by first | exact nobehind _ (by decide) (by decide) | rfl):PT X (.Compare a [op] [b] pos) (tB t):=by
 intro pins s σ H Q I hw
 refine wpAny_isTrue_Compare1 (thn (h pins s σ H _ I hw) fun v s1 h1=>thn h1 fun u s2 h2=>thn h2 fun c s3 zz0=>?_) h1
 obtain ⟨x,H1,I1,r1,q1⟩:=zz0
 obtain ⟨d,rfl,q⟩:=q1
 cases r1
 exact wpAny_truthy_bool ⟨H1,I1,q⟩
theorem Yn {e:Expr} {t:TE} (h:PE X e t) (he:∀ whole,isTrue e X.env whole=(do let v ← whole; standAt e.pos; holding [v] (truthy v)):=by intro _; rfl):PT X e (tB t):=by
 intro pins s σ H Q I hw
 refine isTrue_plain (thn (h pins s σ H _ I hw) fun v s1 zz1=>?_) (he _)
 obtain ⟨x,H1,I1,r1,q1⟩:=zz1
 obtain ⟨d,rfl,q⟩:=q1
 cases r1
 exact wpAny_truthy_bool ⟨H1,I1,q⟩
variable {tA tB':TT} {rest:List Expr}
noncomputable def tAnd (t u:TT):TT:=fun σ H Q=>t σ H fun c H1=>if c=true then u σ H1 Q else Q false H1
noncomputable def tOr (t u:TT):TT:=fun σ H Q=>t σ H fun c H1=>if c=true then Q true H1 else u σ H1 Q
noncomputable def tNot (t:TT):TT:=fun σ H Q=>t σ H fun c H1=>Q (!c) H1
theorem U9 (ha:PT X a tA):PW X (.BoolOp .And [a] pos) tA:=by
 intro wh pins s σ H Q I h
 refine isTrue_and (thn (ha pins s σ H Q I h) fun c s1 e=>?_)
 cases c with
 | true=>exact isTrue_and_nil e
 | false=>exact e
theorem Wb (ha:PT X a tA):PW X (.BoolOp .Or [a] pos) tA:=by
 intro wh pins s σ H Q I h
 refine isTrue_or (thn (ha pins s σ H Q I h) fun c s1 e=>?_)
 cases c with
 | false=>exact isTrue_or_nil e
 | true=>exact e
theorem K9 (ha:PT X a tA) (hb:PW X (.BoolOp .And (b :: rest) pos) tB'):PW X (.BoolOp .And (a :: b :: rest) pos) (tAnd tA tB'):=by
 intro wh pins s σ H Q I h
 refine isTrue_and (thn (ha pins s σ H _ I h) fun c s1 zz9=>?_)
 obtain ⟨H1,I1,q1⟩:=zz9
 cases c with
 | true=>exact hb wh pins s1 σ H1 Q I1 q1
 | false=>exact ⟨H1,I1,q1⟩
theorem Wl (ha:PT X a tA) (hb:PW X (.BoolOp .Or (b :: rest) pos) tB'):PW X (.BoolOp .Or (a :: b :: rest) pos) (tOr tA tB'):=by
 intro wh pins s σ H Q I h
 refine isTrue_or (thn (ha pins s σ H _ I h) fun c s1 zz9=>?_)
 obtain ⟨H1,I1,q1⟩:=zz9
 cases c with
 | true=>exact ⟨H1,I1,q1⟩
 | false=>exact hb wh pins s1 σ H1 Q I1 q1
theorem Yf (ha:PT X a tA):PT X (.UnaryOp .Not a pos) (tNot tA):=by
 intro pins s σ H Q I h
 exact isTrue_not (ha pins s σ H (fun c H1=>Q (!c) H1) I h)
noncomputable def Zmg (ta tb:TE):TE:=fun σ H Q=>ta σ H fun x H1=>∃ c,x=.bl c∧if c=true then tb σ H1 Q else Q (.bl false) H1
noncomputable def Zmc (ta:TE):TE:=fun σ H Q=>ta σ H fun x H1=>∃ c,x=.bl c∧Q (.bl (!c)) H1
theorem Vj {op} {t:TE} (h:PE X a t):PE X (.BoolOp op [a] pos) t:=fun pins s σ H Q I hw=>BoolOp_one (h pins s σ H Q I hw)
theorem Qk (ha:PE X a ta) (hb:PE X (.BoolOp .And (b :: rest) pos) tb):PE X (.BoolOp .And (a :: b :: rest) pos) (Zmg ta tb):=by
 intro pins s σ H Q I h
 refine BoolOp_and (thn (ha pins s σ H _ I h) fun v s1 zz9=>?_)
 obtain ⟨x,H1,I1,r1,q1⟩:=zz9
 obtain ⟨c,rfl,q1⟩:=q1
 cases r1
 refine wpAny_truthy_bool ?_
 cases c with
 | true=>exact hb pins s1 σ H1 Q I1 q1
 | false=>exact ⟨.bl false,H1,I1,rfl,q1⟩
theorem Zll (ha:PE X a ta):PE X (.UnaryOp .Not a pos) (Zmc ta):=by
 intro pins s σ H Q I h
 refine UnaryOp_ (thn (ha pins s σ H _ I h) fun v s1 zz9=>?_)
 obtain ⟨x,H1,I1,r1,q1⟩:=zz9
 obtain ⟨c,rfl,q1⟩:=q1
 cases r1
 exact not_of (wpAny_truthy_bool ⟨.bl (!c),H1,I1,rfl,q1⟩)
noncomputable def tIf (t:TT) (ta tb:TE):TE:=fun σ H Q=>t σ H fun c H1=>if c=true then ta σ H1 Q else tb σ H1 Q
theorem Kh {c:Expr} (hc:PT X c tA) (ha:PE X a ta) (hb:PE X b tb):PE X (.IfExp c a b pos) (tIf tA ta tb):=by
 intro pins s σ H Q I h
 refine wpAny_IfExp (thn (hc pins s σ H _ I h) fun d s1 zz9=>?_)
 obtain ⟨H1,I1,q1⟩:=zz9
 cases d with
 | true=>exact ha pins s1 σ H1 Q I1 q1
 | false=>exact hb pins s1 σ H1 Q I1 q1
end
end L2
namespace L2
open PySem PySem.Spec PyProof.Rows
noncomputable def SqL (K:PySem.W.Frag) (H:Hp) (a:Addr) (xs:List V):Prop :=
 Rd H a (.lst xs) ∨
  ∃ (o:Obj) (its:Array Value) (n:Nat),K.lookup a=some o∧o.cls=.type "list"∧o.dict=none∧o.data=.seq its n∧its.size≤sizeLine∧Vals xs its.toList
noncomputable def SqT (K:PySem.W.Frag) (H:Hp) (a:Addr) (xs:List V):Prop :=
 Rd H a (.tup xs) ∨
  ∃ (o:Obj) (its:Array Value) (n:Nat),K.lookup a=some o∧o.cls=.type "tuple"∧o.data=.seq its n∧its.size≤sizeLine∧Vals xs its.toList
noncomputable def absV:Value→Option V
 | .none=>some .non
 | .bool b=>some (.bl b)
 | .int i _=>some (.int i)
 | .str x _=>some (.str x)
 | .bytes b _=>some (.byt b)
 | .float b _=>some (.flt b)
 | .ref a=>some (.ref a)
 | .type n=>some (.ty n)
 | _=>none
theorem RelV.abs {x:V} {u:Value} (r:RelV x u):absV u=some x:=by
 cases x with
 | non=>cases r; rfl
 | bl _=>cases r; rfl
 | int _=>obtain ⟨t,rfl⟩:=r; rfl
 | str _=>obtain ⟨t,rfl⟩:=r; rfl
 | byt _=>obtain ⟨t,rfl⟩:=r; rfl
 | flt _=>obtain ⟨t,rfl⟩:=r; rfl
 | ref _=>cases r; rfl
 | ty _=>cases r; rfl
theorem RelV.inj {x y:V} {u:Value} (r:RelV x u) (q:RelV y u):x=y:=Option.some.inj (r.abs.symm.trans q.abs)
theorem Vals.inj:∀ {xs ys:List V} {us:List Value},Vals xs us→Vals ys us→xs=ys
 | _,_,_,.nil,.nil=>rfl
 | _,_,_,.cons r t,.cons r' t'=>by rw [r.inj r',Vals.inj t t']
section
variable {X:Cx} {pins:List (Addr × Obj)} {σ:St} {H:Hp} {s:Shared} {a:Addr} {xs ys:List V}
theorem SqL.of {K:PySem.W.Frag} (h:H a=some (.lst xs)):SqL K H a xs:=.inl (.inl h)
theorem SqT.of {K:PySem.W.Frag} (h:H a=some (.tup xs)):SqT K H a xs:=.inl (.inl h)
theorem Inv.list (I:Inv X pins σ H s) (h:SqL X.K H a xs):∃ its:List Value,Vals xs its∧PlainL s.heap a its.toArray∧xs.length≤sizeLine:=by
 rcases h with h | ⟨o,its,n,hk,hc,hd,hs,hz,r⟩
 ·obtain ⟨z,its,n,r,e⟩:=h.ok I.hok
  exact ⟨its,r,⟨_,n,e,rfl,rfl,rfl⟩,z⟩
 ·refine ⟨its.toList,r,⟨o,n,I.kIn a o hk,hc,hd,by simpa using hs⟩,?_⟩
  have e:=r.length
  simp only [Array.length_toList] at e
  omega
theorem Inv.tuple (I:Inv X pins σ H s) (h:SqT X.K H a xs):∃ its:List Value,Vals xs its∧IsTup s.heap a its.toArray∧xs.length≤sizeLine:=by
 rcases h with h | ⟨o,its,n,hk,hc,hs,hz,r⟩
 ·obtain ⟨z,its,r,p⟩:=h.ok I.hok
  exact ⟨its,r,p,z⟩
 ·refine ⟨its.toList,r,⟨o,I.kIn a o hk,hc,n,by simpa using hs⟩,?_⟩
  have e:=r.length
  simp only [Array.length_toList] at e
  omega
theorem Inv.list_inj (I:Inv X pins σ H s) (h:SqL X.K H a xs) (h':SqL X.K H a ys):xs=ys:=by
 obtain ⟨its,r,⟨o,n,e,_,_,d⟩,_⟩:=I.list h
 obtain ⟨its',r',⟨o',n',e',_,_,d'⟩,_⟩:=I.list h'
 rw [e] at e'; cases e'
 rw [d] at d'
 injection d' with d1 _
 have:its=its':=by simpa using congrArg Array.toList d1
 subst this
 exact r.inj r'
theorem Inv.tuple_inj (I:Inv X pins σ H s) (h:SqT X.K H a xs) (h':SqT X.K H a ys):xs=ys:=by
 obtain ⟨its,r,⟨o,e,_,n,d⟩,_⟩:=I.tuple h
 obtain ⟨its',r',⟨o',e',_,n',d'⟩,_⟩:=I.tuple h'
 rw [e] at e'; cases e'
 rw [d] at d'
 injection d' with d1 _
 have:its=its':=by simpa using congrArg Array.toList d1
 subst this
 exact r.inj r'
end
noncomputable abbrev Cx.wish (X:Cx) (E:Value→Shared→Prop):Cx:={ X with xe:=E }
noncomputable abbrev Cx.nox (X:Cx):Cx:=X.wish fun _ _=>False
theorem Cx.Ok.wish {X:Cx} (ok:X.Ok) (E:Value→Shared→Prop):(X.wish E).Ok :=
 ⟨ok.mod,ok.kind,ok.glob,ok.blt,ok.above,ok.inj,ok.has,ok.cab,ok.hd,ok.frames,ok.stk,ok.exf,ok.bs,ok.bsz,ok.noex,ok.exfs,ok.funs,ok.frf⟩
theorem Cx.Ok.unwish {X:Cx} {E:Value→Shared→Prop} (ok:(X.wish E).Ok):X.Ok :=
 ⟨ok.mod,ok.kind,ok.glob,ok.blt,ok.above,ok.inj,ok.has,ok.cab,ok.hd,ok.frames,ok.stk,ok.exf,ok.bs,ok.bsz,ok.noex,ok.exfs,ok.funs,ok.frf⟩
section
variable {X:Cx} {pins:List (Addr × Obj)} {σ:St} {H:Hp} {s:Shared} {E:Value→Shared→Prop}
theorem Inv.wish (I:Inv X pins σ H s) (E:Value→Shared→Prop):Inv (X.wish E) pins σ H s:=⟨I.ok.wish E,I.os,I.bare,I.base,I.loc,I.cell,I.free,I.freeC,I.pin,I.hok,I.len⟩
theorem Inv.unwish (I:Inv (X.wish E) pins σ H s):Inv X pins σ H s:=⟨I.ok.unwish,I.os,I.bare,I.base,I.loc,I.cell,I.free,I.freeC,I.pin,I.hok,I.len⟩
theorem SP.unwish {D:Ends} {f:Flow} {s':Shared} (h:SP (X.wish E) pins D f s'):SP X pins D f s':=by
 cases f with
 | next=>obtain ⟨σ',H',I,q⟩:=h; exact ⟨σ',H',I.unwish,q⟩
 | brk=>obtain ⟨σ',H',I,q⟩:=h; exact ⟨σ',H',I.unwish,q⟩
 | cont=>obtain ⟨σ',H',I,q⟩:=h; exact ⟨σ',H',I.unwish,q⟩
 | ret u=>obtain ⟨v,σ',H',I,r,q⟩:=h; exact ⟨v,σ',H',I.unwish,r,q⟩
theorem PSs.nox {st:List Stmt} {t:TS} (h:PSs X.nox st t):PSs X st t:=fun pins s σ H D I hw =>
 wpAny_mono (h pins s σ H D (I.wish _) hw) (fun _ _ q=>q.unwish) fun _ _ z=>False.elim z
end
section
variable {X:Cx} {st:Stmt} {rest:List Stmt} {t u:TS} {e:Expr} {te:TE} {pos:Pos}
noncomputable def Xf:TS:=fun D σ H=>D.nx σ H
noncomputable def tSeq (t u:TS):TS:=fun D σ H=>t { D with nx:=u D } σ H
theorem Zu:PSs X [] Xf:=fun _ _ σ H _ I h=>wpAny_execs_nil ⟨σ,H,I,h⟩
theorem Zd (h1:PS X st t) (h2:PSs X rest u):PSs X (st :: rest) (tSeq t u):=by
 intro pins s σ H D I h
 refine wpAny_execs_cons (thn (h1 pins s σ H { D with nx:=u D } I h) fun f s1 q=>?_)
 cases f with
 | next =>
  obtain ⟨σ',H',I',q⟩:=q
  exact h2 pins s1 σ' H' D I' q
 | ret v=>exact q
 | brk=>exact q
 | cont=>exact q
theorem Zh (h1:PS X st t):PSs X [st] t:=by
 intro pins s σ H D I h
 refine wpAny_execs_cons (thn (h1 pins s σ H D I h) fun f s1 q=>?_)
 cases f with
 | next=>exact wpAny_execs_nil q
 | ret v=>exact q
 | brk=>exact q
 | cont=>exact q
noncomputable def Zlb:TS:=fun D σ H=>D.bk σ H
theorem Zh8:PS X (.Break pos) Zlb:=fun _ _ σ H _ I h=>wpAny_Break ⟨σ,H,I,h⟩
theorem Inv.quiet {pins:List (Addr × Obj)} {σ:St} {H:Hp} {s:Shared} (I:Inv X pins σ H s):interactive X.env=false:=by simp [interactive,I.ok.kind]
noncomputable def Zi6 (te:TE):TS:=fun D σ H=>te σ H fun _ H1=>D.nx σ H1
theorem Z8 (he:PE X e te) (hs:swapsWith e none pos.line X.env=pure false:=by rfl):PS X (.Expr e pos) (Zi6 te):=by
 intro pins s σ H D I h
 refine wpAny_Expr_any (thn (he pins s σ H _ I h) fun v s1 zz2=>?_) I.quiet hs
 obtain ⟨x,H1,I1,r1,q1⟩:=zz2
 exact ⟨σ,H1,I1,q1⟩
noncomputable def tRet (te:TE):TS:=fun D σ H=>te σ H D.rt
theorem Zl (he:PE X e te):PS X (.Return (some e) pos) (tRet te):=by
 intro pins s σ H D I h
 refine wpAny_Return_some (thn (he pins s σ H _ I h) fun v s1 zz3=>?_)
 obtain ⟨x,H1,I1,r1,q1⟩:=zz3
 exact ⟨x,σ,H1,I1,r1,q1⟩
noncomputable def tIfS (c:TT) (t u:TS):TS:=fun D σ H=>c σ H fun b H1=>if b=true then t D σ H1 else u D σ H1
theorem Z1 {c:Expr} {a b:List Stmt} {tc:TT} (hc:PT X c tc) (ha:PSs X a t) (hb:PSs X b u):PS X (.If c a b pos) (tIfS tc t u):=by
 intro pins s σ H D I h
 refine wpAny_If (thn (hc pins s σ H _ I h) fun d s1 zz9=>?_)
 obtain ⟨H1,I1,q1⟩:=zz9
 cases d with
 | true=>exact ha pins s1 σ H1 D I1 q1
 | false=>exact hb pins s1 σ H1 D I1 q1
noncomputable def Zf1:TS:=fun _ _ _=>False
theorem Zh7:PS X st Zf1:=fun _ _ _ _ _ _ h=>h.elim
theorem Yt {sts:List Stmt}:PSs X sts Zf1:=fun _ _ _ _ _ _ h=>h.elim
end
noncomputable abbrev TG:=V→St→Hp→(St→Hp→Prop)→Prop
noncomputable abbrev TGs:=List V→St→Hp→(St→Hp→Prop)→Prop
noncomputable def PG (X:Cx) (target:Expr) (t:TG):Prop :=
 ∀ (pins:List (Addr × Obj)) (s:Shared) (σ:St) (H:Hp) (v:V) (u:Value) (Q:St→Hp→Prop),Inv X pins σ H s→RelV v u→t v σ H Q →
  wpAny (model X.prog X.w) X.A (assign target X.env u) (fun _ s'=>∃ σ' H',Inv X pins σ' H' s'∧Q σ' H') X.xe s
noncomputable def PGs (X:Cx) (ts:List Expr) (t:TGs):Prop :=
 ∀ (pins:List (Addr × Obj)) (s:Shared) (σ:St) (H:Hp) (vs:List V) (us:List Value) (Q:St→Hp→Prop),Inv X pins σ H s→Vals vs us→t vs σ H Q →
  wpAny (model X.prog X.w) X.A (assignInOrder ((assignEach ts X.env).map (·.2)) us) (fun _ s'=>∃ σ' H',Inv X pins σ' H' s'∧Q σ' H') X.xe s
noncomputable abbrev TSet:=V→V→V→Hp→(Hp→Prop)→Prop
noncomputable def PSet (X:Cx) (t:TSet):Prop :=
 ∀ (pins:List (Addr × Obj)) (s:Shared) (σ:St) (H:Hp) (o i v:V) (ov iv u:Value) (Q:Hp→Prop),Inv X pins σ H s→RelV o ov→RelV i iv→RelV v u→t o i v H Q →
  wpAny (model X.prog X.w) X.A (setItem ov iv u) (fun _ s'=>∃ H',Inv X pins σ H' s'∧Q H') X.xe s
noncomputable abbrev TIp:=V→V→Hp→VK→Prop
noncomputable def PIp (X:Cx) (op:Operator) (t:TIp):Prop :=
 ∀ (pins:List (Addr × Obj)) (s:Shared) (σ:St) (H:Hp) (x y:V) (v u:Value) (Q:VK),Inv X pins σ H s→RelV x v→RelV y u→t x y H Q →
  wpAny (model X.prog X.w) X.A (inplaceOp op v u) (EP X pins σ Q) X.xe s
section
variable {X:Cx} {pos:Pos}
noncomputable def Zp (i:Nat):TG:=fun v σ H Q=>Q (σ.set i (some v)) H
theorem Zq {i:Nat} {x:Str} (hN:X.N.Nodup) (hi:X.N[i]?=some x) (hx:Loc X.env.scope x) (hf:X.fn x=true∨X.env.scope.names.lookup x=some .local:=by first | exact .inl rfl | exact .inr rfl | assumption):PG X (.Name x pos) (Zp i):=by
 intro pins s σ H v u Q I r h
 exact wpAny_assign_Name (Ja I hN hi hx r (fun s' I'=>⟨_,H,I',h⟩) hf)
noncomputable def gNil:TGs:=fun vs σ H Q=>vs=[]∧Q σ H
noncomputable def Zmx (t:TG) (u:TGs):TGs:=fun vs σ H Q=>∃ v r,vs=v :: r∧t v σ H fun σ' H'=>u r σ' H' Q
theorem Xk:PGs X [] gNil:=by
 intro pins s σ H vs us Q I r h
 obtain ⟨e,h⟩:=h
 subst e
 cases r
 exact assignInOrder_nil ⟨σ,H,I,h⟩
theorem Zz {e:Expr} {es:List Expr} {t:TG} {u:TGs} (h1:PG X e t) (h2:PGs X es u)
  (hs:(assignEach (e :: es) X.env).map (·.2)=assign e X.env :: (assignEach es X.env).map (·.2):=by rfl):PGs X (e :: es) (Zmx t u):=by
 intro pins s σ H vs us Q I r h
 obtain ⟨v,vr,e1,h⟩:=h
 subst e1
 cases r with
 | cons r rr =>
  rw [hs]
  refine assignInOrder_cons (thn (h1 pins s σ H _ _ _ I r h) fun _ s1 zz9=>?_)
  obtain ⟨σ1,H1,I1,q1⟩:=zz9
  exact h2 pins s1 σ1 H1 _ _ Q I1 rr q1
noncomputable def gTup (K:PySem.W.Frag) (n:Nat) (t:TGs):TG:=fun v σ H Q=>∃ a xs,v=.ref a∧SqT K H a xs∧xs.length=n∧t xs σ H Q
theorem W0 {es:List Expr} {k:Nat} {t:TGs} {n:Nat} (hc:X.calm=true) (h:PGs X es t)
  (hn:(assignEach es X.env).length=n:=by rfl) (hst:(assignEach es X.env).findIdx? (·.1)=none:=by rfl):PG X (.Tuple es k pos) (gTup X.K n t):=by
 intro pins s σ H v u Q I r hw
 obtain ⟨a,xs,e1,hq,hl,hw⟩:=hw
 subst e1
 cases r
 obtain ⟨its,rv,ht,hz⟩:=I.tuple hq
 refine assign_Tuple_tuple (I.ok.hd hc) ht (by simp [hn,← hl,rv.length]) hst fun h' hx=>?_
 have I1:Inv X pins σ H { s with heap:=h' }:=I.kept (t':=s.toks) fun b o e=>hx b o (Nat.ne_of_lt (Heap.lt_size e)) e
 exact h pins _ σ H xs _ Q I1 (by simpa using rv) hw
noncomputable def gSub (to ti:TE) (t:TSet):TG:=fun v σ H Q=>to σ H fun o H1=>ti σ H1 fun i H2=>t o i v H2 fun H3=>Q σ H3
theorem Gb {o i:Expr} {to ti:TE} {t:TSet} (ho:PE X o to) (hi:PE X i ti) (hs:PSet X t)
  (ha:∀ v,assign (.Subscript o i pos) X.env v=(do
   let ov ← holding [v] (eval o X.env)
   let iv ← holding [v,ov] (eval i X.env)
   standAt pos
   holding [v,ov,iv] (setItem ov iv v)
   release [v,ov,iv] []):=by intro _; rfl):PG X (.Subscript o i pos) (gSub to ti t):=by
 intro pins s σ H v u Q I r h
 rw [ha]
 refine wpAny_bind (wpAny_holding (thn (ho pins s σ H _ I h) fun ov s1 zz9=>?_))
 obtain ⟨x,H1,I1,r1,q1⟩:=zz9
 refine wpAny_bind (wpAny_holding (thn (hi pins s1 σ H1 _ I1 q1) fun iv s2 zz9=>?_))
 obtain ⟨y,H2,I2,r2,q2⟩:=zz9
 refine wpAny_bind (wpAny_standAt (wpAny_bind (wpAny_holding (thn (hs pins s2 σ H2 x y v ov iv u _ I2 r1 r2 r q2) fun _ s3 zz9=>?_))))
 obtain ⟨H3,I3,q3⟩:=zz9
 exact wpAny_release ⟨σ,H3,I3,q3⟩
noncomputable def tAsg (te:TE) (g:TG):TS:=fun D σ H=>te σ H fun x H1=>g x σ H1 D.nx
theorem Wz {tg e:Expr} {te:TE} {g:TG} (he:PE X e te) (hg:PG X tg g) (hs:swapsWithSole [tg] e pos.line X.env=pure false:=by rfl) (hw:swappedStores [tg] e X.env=pure none:=by rfl)
  (h1:(assignEach [tg] X.env).map (·.2)=[assign tg X.env]:=by rfl):PS X (.Assign [tg] e pos) (tAsg te g):=by
 intro pins s σ H D I h
 refine wpAny_Assign_stores (thn (he pins s σ H _ I h) fun v s1 zz4=>?_) hs hw
 obtain ⟨x,H1,I1,r1,q1⟩:=zz4
 rw [h1]
 exact thn (hg pins s1 σ H1 x v _ I1 r1 q1) fun _ s2 q=>q
theorem Zn {i:Nat} {x:Str} {e:Expr} {te:TE} {pos':Pos} (hN:X.N.Nodup) (hi:X.N[i]?=some x) (hx:Loc X.env.scope x) (he:PE X e te) (hs:swapsWith e (some (.Name x pos')) pos.line X.env=pure false:=by rfl) (hf:X.fn x=true∨X.env.scope.names.lookup x=some .local:=by first | exact .inl rfl | exact .inr rfl | assumption) :
  PS X (.Assign [.Name x pos'] e pos) (tAsg te (Zp i)):=by
 intro pins s σ H D I h
 refine wpAny_Assign_Name (thn (he pins s σ H _ I h) fun v s1 zz5=>?_) hs
 obtain ⟨y,H1,I1,r1,q1⟩:=zz5
 exact Ja I1 hN hi hx r1 (fun s2 I2=>⟨_,H1,I2,q1⟩) hf
noncomputable def tPar (i j:Nat) (ta:TA):TS:=fun D σ H=>ta σ H fun vs H1=>∃ v w,vs=[v,w]∧D.nx ((σ.set i (some v)).set j (some w)) H1
theorem Vh {i j:Nat} {x y:Str} {a b:Expr} {ta:TA} {px py pt:Pos} {kt k2 pt2} (hc:X.calm=true) (hN:X.N.Nodup) (hi:X.N[i]?=some x) (hj:X.N[j]?=some y) (hij:i≠j)
  (hx:X.env.scope.names.lookup x=some .local) (hy:X.env.scope.names.lookup y=some .local) (ha:PA X [a,b] ta)
  (hw:swappedStores [.Tuple [.Name x px,.Name y py] kt pt] (.Tuple [a,b] k2 pt2) X.env=pure (some [x,y]))
  (hs:swapsWithSole [.Tuple [.Name x px,.Name y py] kt pt] (.Tuple [a,b] k2 pt2) pos.line X.env=pure false:=by rfl) :
  PS X (.Assign [.Tuple [.Name x px,.Name y py] kt pt] (.Tuple [a,b] k2 pt2) pos) (tPar i j ta):=by
 intro pins s σ H D I h
 rw [exec_Assign_arm]
 refine wpAny_bind (wpAny_standAt ?_)
 rw [hs]
 refine wpAny_bind (wpAny_pure ?_)
 rw [if_neg (by decide)]
 refine wpAny_bind (Tuple_ (thn (ha _ pins s σ H _ I h) fun us s1 zz9=>?_))
 obtain ⟨vs,H1,I1,r1,q1⟩:=zz9
 obtain ⟨v,w,e1,q1⟩:=q1
 subst e1
 obtain ⟨u1,u2,rfl,rv,rw'⟩:∃ u1 u2,us=[u1,u2]∧RelV v u1∧RelV w u2:=by
  cases r1 with
  | cons p q =>
   cases q with
   | cons p' q' =>
    cases q'
    exact ⟨_,_,rfl,p,p'⟩
 refine wpAny_newObj_type ?_ (by show 2≤sizeLine; decide)
 have I2:Inv X pins σ H1 { s1 with heap:=s1.heap.push { cls:=.type "tuple",data:=.seq [u1,u2].toArray } }:=I1.kept (t':=s1.toks) fun b o e=>Heap.get?_push_of_some _ e
 rw [hw]
 refine wpAny_bind (wpAny_pure ?_)
 show wpAny (model X.prog X.w) X.A (do rule "assign.swapped-stores"; let items ← unpackItems (.ref s1.heap.objs.size) 2 none; assignInOrder [fun v=>bindName X.env y v,fun v=>bindName X.env x v] items.reverse; pure Flow.next) _ _ _
 refine wpAny_bind (wpAny_rule (wpAny_bind (unpackItems_tuple (items:=#[u1,u2]) (I.ok.hd hc) (IsTup.new s1.heap _) fun h' hx'=>?_)))
 have I3:=I2.kept (h':=h') (t':=s1.toks) fun b o e=>hx' b o (Nat.ne_of_lt (Heap.lt_size e)) e
 show wpAny _ _ (assignInOrder [fun v=>bindName X.env y v,fun v=>bindName X.env x v] [u2,u1] >>= fun _=>pure Flow.next) _ _ _
 refine wpAny_bind (assignInOrder_cons (wpAny_bindName (Ja I3 hN hj (.inl hy) rw' (fun s2 I4=>?_) (.inr hy))))
 refine assignInOrder_cons (wpAny_bindName (Ja I4 hN hi (.inl hx) rv (fun s3 I5=>assignInOrder_nil (wpAny_pure ?_)) (.inr hx)))
 rw [List.set_comm _ _ (Ne.symm hij)] at I5
 exact ⟨_,H1,I5,q1⟩
noncomputable def tAug (i:Nat) (te:TE) (ti:TIp):TS:=fun D σ H=>∃ x,σ[i]?=some (some x)∧te σ H fun y H1=>ti x y H1 fun z H2=>D.nx (σ.set i (some z)) H2
theorem Zb1 {i:Nat} {x:Str} {e:Expr} {te:TE} {op:Operator} {ti:TIp} {pos':Pos} (hN:X.N.Nodup) (hi:X.N[i]?=some x) (hx:Loc X.env.scope x) (he:PE X e te) (ho:PIp X op ti) (hf:X.fn x=true∨X.env.scope.names.lookup x=some .local:=by first | exact .inl rfl | exact .inr rfl | assumption) :
  PS X (.AugAssign (.Name x pos') op e pos) (tAug i te ti):=by
 intro pins s σ H D I h
 obtain ⟨v,e1,h⟩:=h
 obtain ⟨m,hn,hl⟩:=I.loc
 have vis:Vis X.env.scope x:=by rcases hx with k | k; exact .inl k; exact .inr (.inl k)
 obtain ⟨u,r,l⟩:=hl i x v hi e1 vis
 refine wpAny_AugAssign_Name ?_
 have go:wpAny (model X.prog X.w) X.A (eval e X.env) (fun w s₂=>wpAny (model X.prog X.w) X.A (inplaceOp op u w) (fun r s₃=>wpAny (model X.prog X.w) X.A (storeName X.env x r) (fun _=>SP X pins D .next) X.xe s₃) X.xe s₂) X.xe s:=by
  refine thn (he pins s σ H _ I h) fun w s1 zz9=>?_
  obtain ⟨y,H1,I1,r1,q1⟩:=zz9
  refine thn (ho pins s1 σ H1 v y u w _ I1 r r1 q1) fun z s2 zz9=>?_
  obtain ⟨zv,H2,I2,r2,q2⟩:=zz9
  exact Ja I2 hN hi hx r2 (fun s3 I3=>⟨_,H2,I3,q2⟩) hf
 rcases l with ⟨hk,hm⟩ | ⟨hk,c,hc,hcell⟩
 ·exact wpAny_loadName_local I.ok.kind hk hn hm go
 ·rcases hk with hk | hk
  ·exact wpAny_loadName_cell I.ok.kind hk hc hcell go
  ·rcases hx with k | k
   ·have:X.env.scope.names.lookup x=some .free:=hk
    rw [k] at this; cases this
   ·have:X.env.scope.names.lookup x=some .free:=hk
    rw [k] at this; cases this
end
section
variable {X:Cx} {pos:Pos}
noncomputable def Ug (c:TT) (tb:TS):TS:=fun D σ H=>∃ W:Nat→St→Hp→Prop,(∃ m,W m σ H)∧∀ m σ H,W m σ H →
 c σ H fun b H1=>if b=true then ∃ N:St→Hp→Prop,(∀ σ' H',N σ' H'→∃ m',m' < m∧W m' σ' H')∧tb { D with nx:=N,ct:=N,bk:=D.nx } σ H1 else D.nx σ H1
theorem Jg {c:Expr} {body:List Stmt} {tc:TT} {tb:TS} (hp:PassesOwn (model X.prog X.w) X.A X.env X.xe) (hc:PT X c tc) (hb:PSs X body tb):PS X (.While c body [] pos) (Ug tc tb):=by
 intro pins s σ H D I h
 obtain ⟨W,⟨m0,w0⟩,turn⟩:=h
 refine wpAny_While (codeAny_whileLoop (fun n s'=>∃ σ' H',Inv X pins σ' H' s'∧W n σ' H') ?_ m0 ⟨σ,H,I,w0⟩)
 rintro n s1 ⟨σ1,H1,I1,w1⟩
 refine wpAny_passesOwn hp (thn (hc pins s1 σ1 H1 _ I1 (turn n σ1 H1 w1)) fun b s2 zz9=>?_)
 obtain ⟨H2,I2,q2⟩:=zz9
 cases b with
 | true =>
  obtain ⟨N,hN,q2⟩:=q2
  rw [if_pos rfl]
  refine wpAny_passesOwn hp (thn (hb pins s2 σ1 H2 _ I2 q2) fun f s3 q3=>?_)
  cases f with
  | next =>
   obtain ⟨σ3,H3,I3,n3⟩:=q3
   obtain ⟨m',hm,w3⟩:=hN σ3 H3 n3
   exact ⟨m',hm,σ3,H3,I3,w3⟩
  | cont =>
   obtain ⟨σ3,H3,I3,n3⟩:=q3
   obtain ⟨m',hm,w3⟩:=hN σ3 H3 n3
   exact ⟨m',hm,σ3,H3,I3,w3⟩
  | brk=>exact q3
  | ret v=>exact q3
 | false =>
  rw [if_neg Bool.false_ne_true]
  exact wpAny_execs_nil ⟨σ1,H2,I2,q2⟩
end
structure It where
 go:Nat→Hp→Prop
 yld:Nat→Hp→V→Hp→Prop
 stop:Nat→Hp→Prop
noncomputable def FpOk (X:Cx) (pins:List (Addr × Obj)) (H:Hp) (b:Addr):Prop :=
 H b=none∧b≠X.env.locals∧b ∉ X.fs∧(b∈X.ex∨X.s₀.heap.objs.size≤b)∧(∀ x c,X.env.cells.lookup x=some c→c≠b)∧∀ p∈X.pn ++ pins,p.1≠b
theorem Inv.fpOk {X:Cx} {pins:List (Addr × Obj)} {σ:St} {H H':Hp} {s:Shared} {b:Addr} (I:Inv X pins σ H s) (hb:s.heap.objs.size≤b) (hn:H' b=none):FpOk X pins H' b:=by
 refine ⟨hn,Nat.ne_of_gt (Nat.lt_of_lt_of_le I.lt hb),I.nofs hb,.inr (Nat.le_trans I.sz hb),fun x c e z=>?_,fun p hp z=>?_⟩
 ·obtain ⟨v,q⟩:=I.cell x c e
  exact absurd (Nat.lt_of_lt_of_le q.lt (by rw [z]; exact hb)) (Nat.lt_irrefl _)
 ·exact absurd (Nat.lt_of_lt_of_le (Heap.lt_size (I.pin p hp).1) (by rw [z]; exact hb)) (Nat.lt_irrefl _)
structure Turn (P:Program) (w:World) (K:PySem.W.Frag) (tg:Expr) (J:It) (fp:List Addr) (it:Addr) (tn:Nat→Heap→Prop):Prop where
 mem:it∈fp
 obj:∀ i h,tn i h→∀ b∈fp,∃ o,h.get? b=some o∧∀ v,o.data≠.cell v
 keep:∀ i h h',tn i h→(∀ b∈fp,∀ o,h.get? b=some o→h'.get? b=some o)→tn i h'
 item:∀ (X:Cx),X.prog=P→X.w=w→X.K=K→X.calm=true→∀ (i:Nat) (pins:List (Addr × Obj)) (s:Shared) (σ:St) (H:Hp) (E:Value→Shared→Prop),Inv X pins σ H s→(∀ b∈fp,FpOk X pins H b)→tn i s.heap→J.go i H →
  wpAny (model P w) X.A (pyNext (.ref it)) (fun r s1=>∃ u,r=some u ∧
   wpAny (model P w) X.A (letOwnedTupleGo tg (.ref it) u) (fun _ s2=>∃ x H',Inv X pins σ H' s2∧RelV x u∧J.yld i H x H'∧tn (i + 1) s2.heap∧∀ b∈fp,H' b=none) E s1) E s
 done:∀ (X:Cx),X.prog=P→X.w=w→X.K=K→X.calm=true→∀ (i:Nat) (pins:List (Addr × Obj)) (s:Shared) (σ:St) (H:Hp) (E:Value→Shared→Prop),Inv X pins σ H s→(∀ b∈fp,FpOk X pins H b)→tn i s.heap→J.stop i H →
  wpAny (model P w) X.A (pyNext (.ref it)) (fun r s1=>r=none∧Inv X pins σ H s1) E s
 self:∀ (A:Around) (i:Nat) (s:Shared) (Q:Value→Shared→Prop) (E:Value→Shared→Prop),tn i s.heap→Q (.ref it) s→wpAny (model P w) A (pyIter (.ref it)) Q E s
noncomputable abbrev TI:=St→Hp→(It→Hp→Prop)→Prop
noncomputable def PIE (X:Cx) (pins:List (Addr × Obj)) (σ:St) (tg:Expr) (R:It→Hp→Prop) (itv:Value) (s2:Shared):Prop :=
 ∃ (it:Addr) (fp:List Addr) (tn:Nat→Heap→Prop) (J:It) (H':Hp),itv=.ref it∧Inv X pins σ H' s2∧Turn X.prog X.w X.K tg J fp it tn∧tn 0 s2.heap∧(∀ b∈fp,FpOk X pins H' b)∧R J H'
noncomputable def PI (X:Cx) (tg iter:Expr) (wi:TI):Prop :=
 ∀ (pins:List (Addr × Obj)) (s:Shared) (σ:St) (H:Hp) (R:It→Hp→Prop),Inv X pins σ H s→wi σ H R →
  wpAny (model X.prog X.w) X.A (eval iter X.env) (fun v s1=>wpAny (model X.prog X.w) X.A (pyIter v) (PIE X pins σ tg R) X.xe s1) X.xe s
theorem V1 {M:Model} {A:Around} {E:Value→Shared→Prop} {s:Shared} {tg:Expr} {it:Addr} {u:Value} {o:Obj} {n:String} {vs:Array Value} {Q:Unit→Shared→Prop} (ho:s.heap.get? it=some o) (hc:o.cls=.type n) (hd:o.data=.fields vs)
    (hn:["enumerate","zip","dict_itemiterator","dict_reverseitemiterator","odict_iterator","itertools.zip_longest","itertools.pairwise"].contains n=false) (hQ:Q () s):wpAny M A (letOwnedTupleGo tg (.ref it) u) Q E s:=by
  unfold letOwnedTupleGo
  cases tg <;> first
    | exact wpAny_pure hQ
    | (cases u <;> first
        | exact wpAny_pure hQ
        | (refine wpAny_bind (wpAny_load ho ?_)
           rw [hc,hd]
           show wpAny M A (if (["enumerate","zip","dict_itemiterator","dict_reverseitemiterator","odict_iterator","itertools.zip_longest","itertools.pairwise"].contains n && vs[0]? == some (rawInt _))=true then _ else _) Q E s
           rw [if_neg (by intro h; rw [hn,Bool.false_and] at h; cases h)]
           exact wpAny_pure hQ))
noncomputable def Itl (K:PySem.W.Frag) (a:Addr):It :=
 ⟨fun i H=>∃ xs x,SqL K H a xs∧xs[i]?=some x,fun i H x H'=>H'=H∧∀ xs,SqL K H a xs→xs[i]?=some x,fun i H=>∃ xs,SqL K H a xs∧xs.length≤i⟩
noncomputable def Itt (K:PySem.W.Frag) (a:Addr):It :=
 ⟨fun i H=>∃ xs x,SqT K H a xs∧xs[i]?=some x,fun i H x H'=>H'=H∧∀ xs,SqT K H a xs→xs[i]?=some x,fun i H=>∃ xs,SqT K H a xs∧xs.length≤i⟩
noncomputable def Itr (lo:Int) (n:Nat):It:=⟨fun i _=>i < n,fun i H x H'=>H'=H∧x=.int (lo + i),fun i _=>n≤i⟩
theorem Zfz {P:Program} {w:World} {K:PySem.W.Frag} {tg:Expr} (a it:Addr):Turn P w K tg (Itl K a) [it] it (fun i h=>h.IsListIter it a i) where
 mem:=by simp
 obj:=fun i h st b hb=>by
  have e:b=it:=by simpa using hb
  subst e
  obtain ⟨o,e,c,d⟩:=st
  exact ⟨o,e,fun v z=>by rw [d] at z; cases z⟩
 keep:=fun i h h' st k=>st.at fun o e=>k it (by simp) o e
 item:=by
  intro X hP hw hK hc i pins s σ H E I hf st hg
  subst hP hw hK
  obtain ⟨xs,x,hq,hx⟩:=hg
  obtain ⟨its,rv,p,hz⟩:=I.list hq
  obtain ⟨u,hu,ru⟩:=rv.get hx
  obtain ⟨f0,f1,f2,f3,f4,f5⟩:=hf it (by simp)
  refine wpAny_pyNext_list_item st p.isList (x:=u) (by simpa using hu) fun h' st' sb=>?_
  have I1:Inv X pins σ H { s with heap:=h' }:=I.turned (t':=s.toks) (fun b o hb e=>(sb.2 b hb).trans e) f0 f1 f3 f4 f5
  obtain ⟨o,e,c,d⟩:=id st'
  exact ⟨u,rfl,V1 (s:={ s with heap:=h' }) e c d (by decide) ⟨x,H,I1,ru,⟨rfl,fun ys hy=>by rw [I.list_inj hy hq]; exact hx⟩,st',fun b hb=>(hf b hb).1⟩⟩
 done:=by
  intro X hP hw hK hc i pins s σ H E I hf st hg
  subst hP hw hK
  obtain ⟨xs,hq,hx⟩:=hg
  obtain ⟨its,rv,p,hz⟩:=I.list hq
  obtain ⟨f0,f1,f2,f3,f4,f5⟩:=hf it (by simp)
  have hl:=rv.length
  exact wpAny_pyNext_list_end (I.ok.hd hc) st p.isList (by simp; omega) fun h' eb=>⟨rfl,I.turned (t':=s.toks) (fun b o hb e=>eb b o hb e) f0 f1 f3 f4 f5⟩
 self:=fun _ _ _ _ _ st h=>wpAny_pyIter_listiter st h
theorem Zem {P:Program} {w:World} {K:PySem.W.Frag} {tg:Expr} (a it:Addr):Turn P w K tg (Itt K a) [it] it (fun i h=>h.IsTupleIter it a i) where
 mem:=by simp
 obj:=fun i h st b hb=>by
  have e:b=it:=by simpa using hb
  subst e
  obtain ⟨o,e,c,d⟩:=st
  exact ⟨o,e,fun v z=>by rw [d] at z; cases z⟩
 keep:=fun i h h' st k=>st.at fun o e=>k it (by simp) o e
 item:=by
  intro X hP hw hK hc i pins s σ H E I hf st hg
  subst hP hw hK
  obtain ⟨xs,x,hq,hx⟩:=hg
  obtain ⟨its,rv,p,hz⟩:=I.tuple hq
  obtain ⟨u,hu,ru⟩:=rv.get hx
  obtain ⟨f0,f1,f2,f3,f4,f5⟩:=hf it (by simp)
  refine wpAny_pyNext_tuple_item st (show s.heap.IsTuple a its.toArray from p) (x:=u) (by simpa using hu) fun h' st' sb=>?_
  have I1:Inv X pins σ H { s with heap:=h' }:=I.turned (t':=s.toks) (fun b o hb e=>(sb.2 b hb).trans e) f0 f1 f3 f4 f5
  obtain ⟨o,e,c,d⟩:=id st'
  exact ⟨u,rfl,V1 (s:={ s with heap:=h' }) e c d (by decide) ⟨x,H,I1,ru,⟨rfl,fun ys hy=>by rw [I.tuple_inj hy hq]; exact hx⟩,st',fun b hb=>(hf b hb).1⟩⟩
 done:=by
  intro X hP hw hK hc i pins s σ H E I hf st hg
  subst hP hw hK
  obtain ⟨xs,hq,hx⟩:=hg
  obtain ⟨its,rv,p,hz⟩:=I.tuple hq
  obtain ⟨f0,f1,f2,f3,f4,f5⟩:=hf it (by simp)
  have hl:=rv.length
  exact wpAny_pyNext_tuple_end (I.ok.hd hc) st (show s.heap.IsTuple a its.toArray from p) (by simp; omega) fun h' eb=>⟨rfl,I.turned (t':=s.toks) (fun b o hb e=>eb b o hb e) f0 f1 f3 f4 f5⟩
 self:=fun _ _ _ _ _ st h=>wpAny_pyIter_tupleiter st h
theorem Zen {P:Program} {w:World} {K:PySem.W.Frag} {tg:Expr} (it:Addr) (lo:Int) (n:Nat):Turn P w K tg (Itr lo n) [it] it (fun i h=>IsRangeIter h it (lo + (i:Nat) * 1) ((n:Int) - (i:Nat)) 1) where
 mem:=by simp
 obj:=fun i h st b hb=>by
  have e:b=it:=by simpa using hb
  subst e
  exact ⟨_,st,fun v z=>by
   have z':Data.fields _=Data.cell v:=z
   cases z'⟩
 keep:=fun i h h' st k=>k it (by simp) _ st
 item:=by
  intro X hP hw hK hc i pins s σ H E I hf st hg
  subst hP hw hK
  obtain ⟨f0,f1,f2,f3,f4,f5⟩:=hf it (by simp)
  have W:=Walks.range (prog:=X.prog) (w:=X.w) (I.ok.hd hc) it lo 1 n
  refine W.item i s _ _ hg st fun v h' tk hv st' kk=>?_
  obtain ⟨t,rfl⟩:=hv
  have I1:Inv X pins σ H { s with heap:=h',toks:=tk }:=I.turned (fun b o hb e=>kk b o (by simpa using hb) e) f0 f1 f3 f4 f5
  refine ⟨_,rfl,V1 (s:={ s with heap:=h',toks:=tk }) (n:="range_iterator") st' rfl rfl (by decide) ⟨.int (lo + i),H,I1,⟨t,?_⟩,⟨rfl,rfl⟩,st',fun b hb=>(hf b hb).1⟩⟩
  rw [Int.mul_one]
 done:=by
  intro X hP hw hK hc i pins s σ H E I hf st hg
  subst hP hw hK
  obtain ⟨f0,f1,f2,f3,f4,f5⟩:=hf it (by simp)
  exact wpAny_pyNext_range_end (I.ok.hd hc) st (by have:n≤i:=hg; omega) fun h' eb=>⟨rfl,I.turned (t':=s.toks) (fun b o hb e=>eb b o hb e) f0 f1 f3 f4 f5⟩
 self:=fun _ _ _ _ _ st h=>wpAny_pyIter_rangeiter st h
end L2
namespace L2
open PySem PySem.Spec PyProof.Rows
section
variable {X:Cx} {tg:Expr}
noncomputable def Zmu (K:PySem.W.Frag) (tl:TE):TI:=fun σ H R=>tl σ H fun x H1=>∃ a,x=.ref a∧(∃ xs,SqL K H1 a xs)∧R (Itl K a) H1
noncomputable def iTup (K:PySem.W.Frag) (tl:TE):TI:=fun σ H R=>tl σ H fun x H1=>∃ a,x=.ref a∧(∃ xs,SqT K H1 a xs)∧R (Itt K a) H1
theorem X1 {l:Expr} {tl:TE} (hl:PE X l tl):PI X tg l (Zmu X.K tl):=by
 intro pins s σ H R I h
 refine thn (hl pins s σ H _ I h) fun v s1 zz9=>?_
 obtain ⟨x,H1,I1,r1,q1⟩:=zz9
 obtain ⟨a,e,⟨xs,hq⟩,q⟩:=q1
 subst e
 cases r1
 obtain ⟨its,rv,p,hz⟩:=I1.list hq
 refine wpAny_pyIter_list p.isList ?_
 refine ⟨s1.heap.objs.size,[s1.heap.objs.size],_,_,H1,rfl,I1.kept (t':=s1.toks) fun b o e=>Heap.get?_push_of_some _ e,Zfz a _,⟨_,Heap.get?_push_size _ rfl,rfl,rfl⟩,fun b hb=>?_,q⟩
 have e:b=s1.heap.objs.size:=by simpa using hb
 subst e
 exact I1.fpOk (Nat.le_refl _) (I1.hok.fresh (Nat.le_refl _))
theorem Zli {l:Expr} {tl:TE} (hl:PE X l tl):PI X tg l (iTup X.K tl):=by
 intro pins s σ H R I h
 refine thn (hl pins s σ H _ I h) fun v s1 zz9=>?_
 obtain ⟨x,H1,I1,r1,q1⟩:=zz9
 obtain ⟨a,e,⟨xs,hq⟩,q⟩:=q1
 subst e
 cases r1
 obtain ⟨its,rv,p,hz⟩:=I1.tuple hq
 refine wpAny_pyIter_tuple (show s1.heap.IsTuple a its.toArray from p) ?_
 refine ⟨s1.heap.objs.size,[s1.heap.objs.size],_,_,H1,rfl,I1.kept (t':=s1.toks) fun b o e=>Heap.get?_push_of_some _ e,Zem a _,⟨_,Heap.get?_push_size _ rfl,rfl,rfl⟩,fun b hb=>?_,q⟩
 have e:b=s1.heap.objs.size:=by simpa using hb
 subst e
 exact I1.fpOk (Nat.le_refl _) (I1.hok.fresh (Nat.le_refl _))
theorem Zb0 {pins:List (Addr × Obj)} {σ:St} {H:Hp} {s:Shared} {R:It→Hp→Prop} {E:Value→Shared→Prop} {lo hi:Int} {t u v:Tok} {tk:Nat} (I:Inv X pins σ H s) (h1:-(2 ^ 62)≤lo) (h2:lo < 2 ^ 62) (h3:-(2 ^ 62)≤hi) (h4:hi < 2 ^ 62)
  (q:R (Itr lo (hi - lo).toNat) H):wpAny (model X.prog X.w) X.A (pyIter (.ref s.heap.objs.size)) (PIE X pins σ tg R) E { s with heap:=s.heap.push { cls:=.type "range",data:=.fields #[.int lo t,.int hi u,.int 1 v] },toks:=tk }:=by
 refine wpAny_pyIter_range (IsRange.new ..) (small_one h1 h2 h3 h4) ?_
 have I1:Inv X pins σ H { s with heap:=s.heap.push { cls:=.type "range",data:=.fields #[.int lo t,.int hi u,.int 1 v] },toks:=tk }:=I.kept fun b o e=>Heap.get?_push_of_some _ e
 refine ⟨(s.heap.push { cls:=.type "range",data:=.fields #[.int lo t,.int hi u,.int 1 v] }).objs.size,[(s.heap.push { cls:=.type "range",data:=.fields #[.int lo t,.int hi u,.int 1 v] }).objs.size],_,_,H,rfl,
  I1.kept (t':=tk) fun b o e=>Heap.get?_push_of_some _ e,Zen _ lo (hi - lo).toNat,?_,fun b hb=>?_,q⟩
 ·have e1:lo + ((0:Nat):Int) * 1=lo:=by simp
  have e2:(((hi - lo).toNat:Nat):Int) - ((0:Nat):Int)=Builtin.Range.rangeSize lo hi 1:=by rw [rangeSize_one]; split <;> omega
  show IsRangeIter _ _ (lo + ((0:Nat):Int) * 1) ((((hi - lo).toNat:Nat):Int) - ((0:Nat):Int)) 1
  rw [e1,e2]
  exact Heap.get?_push_size _ rfl
 ·have e:b=(s.heap.push { cls:=.type "range",data:=.fields #[.int lo t,.int hi u,.int 1 v] }).objs.size:=by simpa using hb
  subst e
  exact I1.fpOk (Nat.le_refl _) (I1.hok.fresh (Nat.le_refl _))
noncomputable def Zms (ta:TA):TI:=fun σ H R=>ta σ H fun vs H1=>∃ j:Int,vs=[.int j]∧-(2 ^ 62)≤j∧j < 2 ^ 62∧R (Itr 0 j.toNat) H1
noncomputable def Zmr (ta:TA):TI:=fun σ H R=>ta σ H fun vs H1=>∃ i j:Int,vs=[.int i,.int j]∧(-(2 ^ 62)≤i∧i < 2 ^ 62∧-(2 ^ 62)≤j∧j < 2 ^ 62)∧R (Itr i (j - i).toNat) H1
theorem Xh {a:Expr} {ta:TA} {p pos:Pos} (hg:Gl X "range") (hm:X.mg "range"=none) (ha:PA X [a] ta) (hs:starEach [a] X.env=[(false,eval a X.env)]:=by rfl):PI X tg (.Call (.Name "range" p) [a] [] pos) (Zms ta):=by
 intro pins s σ H R I h
 refine Call_ (Xs I hg hm boot_range (PyProof.Rows.callWith_type1 (thn (ha pos pins s σ H _ I h) fun us s1 zz6=>?_) hs rfl))
 obtain ⟨vs,H1,I1,r1,q1⟩:=zz6
 obtain ⟨j,e,q1,q2,q⟩:=q1
 subst e
 cases r1 with
 | cons r rr =>
  cases rr
  obtain ⟨t,rfl⟩:=r
  exact call_range_1 (Zb0 I1 (by omega) (by omega) q1 q2 (by simpa using q))
theorem Zgp {a b:Expr} {ta:TA} {p pos:Pos} (hg:Gl X "range") (hm:X.mg "range"=none) (ha:PA X [a,b] ta) (hs:starEach [a,b] X.env=[(false,eval a X.env),(false,eval b X.env)]:=by rfl) (hs2:starEach [b] X.env=[(false,eval b X.env)]:=by rfl) :
  PI X tg (.Call (.Name "range" p) [a,b] [] pos) (Zmr ta):=by
 intro pins s σ H R I h
 refine Call_ (Xs I hg hm boot_range (PyProof.Rows.callWith_type1 (thn (ha pos pins s σ H _ I h) fun us s1 ⟨vs,H1,I1,r1,q1⟩=>?_) (by rw [hs,hs2]) (by rw [hs2]; rfl)))
 obtain ⟨i,j,e,⟨q1,q2,q3,q4⟩,q⟩:=q1
 subst e
 cases r1 with
 | cons r rr =>
  cases rr with
  | cons r' rr =>
   cases rr
   obtain ⟨t,rfl⟩:=r
   obtain ⟨t',rfl⟩:=r'
   exact call_range_2 (Zb0 I1 q1 q2 q3 q4 q)
noncomputable def tFor (wi:TI) (g:TG) (tb:TS):TS:=fun D σ H=>wi σ H fun J H1=>∃ W:Nat→Nat→St→Hp→Prop,(∃ m,W 0 m σ H1)∧∀ i m σ H,W i m σ H →
 (J.stop i H∧D.nx σ H)∨(J.go i H∧∃ N:St→Hp→Prop,(∀ σ' H',N σ' H'→∃ m',m' < m∧W (i + 1) m' σ' H')∧∀ x H',J.yld i H x H'→g x σ H' fun σ2 H2=>tb { D with nx:=N,ct:=N,bk:=D.nx } σ2 H2)
noncomputable def Ux (fp:List Addr) (h:Heap):List (Addr × Obj):=fp.filterMap fun b=>(h.get? b).map fun o=>(b,o)
theorem J7 {fp:List Addr} {h:Heap} {b:Addr} {o:Obj} (hb:b∈fp) (e:h.get? b=some o):(b,o)∈Ux fp h:=List.mem_filterMap.mpr ⟨b,hb,by rw [e]; rfl⟩
theorem Zg1 {fp:List Addr} {h:Heap} {p:Addr × Obj} (hp:p∈Ux fp h):p.1∈fp∧h.get? p.1=some p.2:=by
 obtain ⟨b,hb,e⟩:=List.mem_filterMap.mp hp
 cases q:h.get? b with
 | none=>rw [q] at e; cases e
 | some o =>
  rw [q] at e
  have e':(b,o)=p:=Option.some.inj e
  subst e'
  exact ⟨hb,q⟩
theorem Inv.pinned {pins:List (Addr × Obj)} {σ:St} {H:Hp} {s:Shared} {fp:List Addr} (I:Inv X pins σ H s) (hf:∀ b∈fp,FpOk X pins H b) (ho:∀ b∈fp,∃ o,s.heap.get? b=some o∧∀ v,o.data≠.cell v):Inv X (pins ++ Ux fp s.heap) σ H s :=
 I.pins_of fun p hp=>(List.mem_append.mp hp).elim (fun z=>I.pin p (List.mem_append_right _ z)) fun z=>by
  obtain ⟨hb,e⟩:=Zg1 z
  obtain ⟨f0,f1,f2,_⟩:=hf p.1 hb
  obtain ⟨o,e',d⟩:=ho p.1 hb
  rw [e] at e'; cases e'
  exact ⟨e,f0,f1,f2,d⟩
theorem Inv.unpinned {pins pl:List (Addr × Obj)} {σ:St} {H:Hp} {s:Shared} (I:Inv X (pins ++ pl) σ H s):Inv X pins σ H s:=I.pins_of fun p hp=>I.pin p (List.mem_append_right _ (List.mem_append_left _ hp))
theorem Wc {iter:Expr} {body:List Stmt} {wi:TI} {g:TG} {tb:TS} {pos:Pos} (hp:PassesOwn (model X.prog X.w) X.A X.env X.xe) (hc:X.calm=true) (hi:PI X tg iter wi) (hg:PG X tg g) (hb:PSs X body tb)
  (hs:∀ x,foldedSetIterable iter X.env x=pure x:=by intro _; rfl):PS X (.For tg iter body [] pos) (tFor wi g tb):=by
 intro pins s σ H D I h
 refine wpAny_For (thn (hi pins s σ H _ I h) fun v s1 h1=>thn h1 fun itv s2 h2=>?_) hs
 obtain ⟨it,fp,tn,J,H2,e,I2,T,st2,f2,W,⟨m0,w0⟩,turn⟩:=h2
 subst e
 have stat:∀ {H':Hp},(∀ b∈fp,H' b=none)→∀ b∈fp,FpOk X pins H' b:=fun hn b hb=>⟨hn b hb,(f2 b hb).2⟩
 refine codeAny_forLoop_any (fun n s'=>∃ i σ' H',Inv X pins σ' H' s'∧tn i s'.heap∧(∀ b∈fp,H' b=none)∧W i n σ' H') ?_ m0 ⟨0,σ,H2,I2,st2,fun b hb=>(f2 b hb).1,w0⟩
 rintro n s3 ⟨i,σ3,H3,I3,st3,fr3,w3⟩
 rcases turn i n σ3 H3 w3 with ⟨stop,qn⟩ | ⟨go,N,hN,step⟩
 ·refine wpAny_passesOwn hp (thn (T.done X rfl rfl rfl hc i pins s3 σ3 H3 X.xe I3 (stat fr3) st3 stop) fun r s4 ⟨hr,I4⟩=>?_)
  subst hr
  exact wpAny_execs_nil ⟨σ3,H3,I4,qn⟩
 ·refine wpAny_passesOwn hp (thn (T.item X rfl rfl rfl hc i pins s3 σ3 H3 X.xe I3 (stat fr3) st3 go) fun r s4 ⟨u,hr,h4⟩=>?_)
  subst hr
  refine wpAny_passesOwn hp (thn h4 fun _ s5 zz9=>?_)
  obtain ⟨x,H5,I5,r5,y5,st5,fr5⟩:=zz9
  have I5':=I5.pinned (stat fr5) (T.obj _ _ st5)
  refine wpAny_passesOwn hp (thn (hg _ s5 σ3 H5 x u _ I5' r5 (step x H5 y5)) fun _ s6 zz9=>?_)
  obtain ⟨σ6,H6,I6,q6⟩:=zz9
  refine wpAny_passesOwn hp (thn (hb _ s6 σ6 H6 _ I6 q6) fun f s7 q7=>?_)
  have again:∀ {σ7:St} {H7:Hp},Inv X (pins ++ Ux fp s5.heap) σ7 H7 s7→N σ7 H7→∃ m,m < n∧∃ i σ' H',Inv X pins σ' H' s7∧tn i s7.heap∧(∀ b∈fp,H' b=none)∧W i m σ' H':=fun {σ7 H7} I7 n7=>by
   obtain ⟨m',hm,w7⟩:=hN σ7 H7 n7
   refine ⟨m',hm,i + 1,σ7,H7,I7.unpinned,T.keep _ _ _ st5 fun b hb o e=>(I7.pin (b,o) (List.mem_append_right _ (List.mem_append_right _ (J7 hb e)))).1,fun b hb=>?_,w7⟩
   obtain ⟨o,e,d⟩:=T.obj _ _ st5 b hb
   exact (I7.pin (b,o) (List.mem_append_right _ (List.mem_append_right _ (J7 hb e)))).2.1
  cases f with
  | next=>obtain ⟨σ7,H7,I7,n7⟩:=q7; exact again I7 n7
  | cont=>obtain ⟨σ7,H7,I7,n7⟩:=q7; exact again I7 n7
  | brk=>obtain ⟨σ7,H7,I7,q7⟩:=q7; exact ⟨σ7,H7,I7.unpinned,q7⟩
  | ret v=>obtain ⟨x7,σ7,H7,I7,r7,q7⟩:=q7; exact ⟨x7,σ7,H7,I7.unpinned,r7,q7⟩
end
theorem Zct {K:PySem.W.Frag} {a:Addr} {xs:List V} {g:TG} {tb:TS} {D:Ends} {σ:St} {H:Hp} (Pv:Nat→St→Hp→Prop) (h0:Pv 0 σ H) (hl:∀ i σ H,i≤xs.length→Pv i σ H→SqL K H a xs)
  (hs:∀ i x σ H,xs[i]?=some x→Pv i σ H→g x σ H fun σ2 H2=>tb { D with nx:=Pv (i + 1),ct:=Pv (i + 1),bk:=D.nx } σ2 H2) (hd:∀ σ H,Pv xs.length σ H→D.nx σ H) :
  ∃ W:Nat→Nat→St→Hp→Prop,(∃ m,W 0 m σ H)∧∀ i m σ H,W i m σ H →
   ((Itl K a).stop i H∧D.nx σ H)∨((Itl K a).go i H∧∃ N:St→Hp→Prop,(∀ σ' H',N σ' H'→∃ m',m' < m∧W (i + 1) m' σ' H')∧∀ x H',(Itl K a).yld i H x H'→g x σ H' fun σ2 H2=>tb { D with nx:=N,ct:=N,bk:=D.nx } σ2 H2):=by
 refine ⟨fun i m σ H=>m=xs.length - i∧i≤xs.length∧Pv i σ H,⟨xs.length,by simp,Nat.zero_le _,h0⟩,?_⟩
 rintro i m σ H ⟨rfl,hi,p⟩
 have q:=hl i σ H hi p
 by_cases hlt:i < xs.length
 ·refine .inr ⟨⟨xs,xs[i],q,by simp [hlt]⟩,Pv (i + 1),fun σ' H' p'=>⟨xs.length - (i + 1),by omega,rfl,hlt,p'⟩,fun x H' y=>?_⟩
  obtain ⟨e,y⟩:=y
  subst e
  exact hs i x σ _ (y xs q) p
 ·have e:i=xs.length:=by omega
  subst e
  exact .inl ⟨⟨xs,q,Nat.le_refl _⟩,hd σ H p⟩
theorem Wy {lo:Int} {n:Nat} {g:TG} {tb:TS} {D:Ends} {σ:St} {H:Hp} (Pv:Nat→St→Hp→Prop) (h0:Pv 0 σ H)
  (hs:∀ i σ H,i < n→Pv i σ H→g (.int (lo + i)) σ H fun σ2 H2=>tb { D with nx:=Pv (i + 1),ct:=Pv (i + 1),bk:=D.nx } σ2 H2) (hd:∀ σ H,Pv n σ H→D.nx σ H) :
  ∃ W:Nat→Nat→St→Hp→Prop,(∃ m,W 0 m σ H)∧∀ i m σ H,W i m σ H →
   ((Itr lo n).stop i H∧D.nx σ H)∨((Itr lo n).go i H∧∃ N:St→Hp→Prop,(∀ σ' H',N σ' H'→∃ m',m' < m∧W (i + 1) m' σ' H')∧∀ x H',(Itr lo n).yld i H x H'→g x σ H' fun σ2 H2=>tb { D with nx:=N,ct:=N,bk:=D.nx } σ2 H2):=by
 refine ⟨fun i m σ H=>m=n - i∧i≤n∧Pv i σ H,⟨n,by simp,Nat.zero_le _,h0⟩,?_⟩
 rintro i m σ H ⟨rfl,hi,p⟩
 by_cases hlt:i < n
 ·refine .inr ⟨hlt,Pv (i + 1),fun σ' H' p'=>⟨n - (i + 1),by omega,rfl,hlt,p'⟩,fun x H' y=>?_⟩
  obtain ⟨e,y⟩:=y
  subst e y
  exact hs i σ _ hlt p
 ·have e:i=n:=by omega
  subst e
  exact .inl ⟨Nat.le_refl _,hd σ H p⟩
end L2
namespace L2
open PySem PySem.Spec PyProof.Rows
noncomputable abbrev R2:=V→V→Hp→VK→Prop
noncomputable def OpR (X:Cx) (f:Value→Value→Sem Value) (r:R2):Prop :=
 ∀ (pins:List (Addr × Obj)) (s:Shared) (σ:St) (H:Hp) (x y:V) (v u:Value) (Q:VK),Inv X pins σ H s→RelV x v→RelV y u→r x y H Q →
  wpAny (model X.prog X.w) X.A (f v u) (EP X pins σ Q) X.xe s
noncomputable def UnR (X:Cx) (f:Value→Sem Value) (r:V→Hp→VK→Prop):Prop :=
 ∀ (pins:List (Addr × Obj)) (s:Shared) (σ:St) (H:Hp) (x:V) (v:Value) (Q:VK),Inv X pins σ H s→RelV x v→r x H Q →
  wpAny (model X.prog X.w) X.A (f v) (EP X pins σ Q) X.xe s
noncomputable def Xt (X:Cx) (f:Value) (r:List V→Hp→VK→Prop):Prop :=
 ∀ (pins:List (Addr × Obj)) (s:Shared) (σ:St) (H:Hp) (xs:List V) (us:List Value) (Q:VK),Inv X pins σ H s→Vals xs us→r xs H Q →
  wpAny (model X.prog X.w) X.A (call f us) (EP X pins σ Q) X.xe s
noncomputable def TruR (X:Cx) (r:V→Hp→(Bool→Hp→Prop)→Prop):Prop :=
 ∀ (pins:List (Addr × Obj)) (s:Shared) (σ:St) (H:Hp) (x:V) (v:Value) (Q:Bool→Hp→Prop),Inv X pins σ H s→RelV x v→r x H Q →
  wpAny (model X.prog X.w) X.A (truthy v) (TP X pins σ Q) X.xe s
noncomputable def tOp (r:R2) (ta tb:TE):TE:=fun σ H Q=>ta σ H fun x H1=>tb σ H1 fun y H2=>r x y H2 Q
noncomputable def tUn (r:V→Hp→VK→Prop) (ta:TE):TE:=fun σ H Q=>ta σ H fun x H1=>r x H1 Q
noncomputable def rI (C:Int→Int→Prop) (g:Int→Int→V):R2:=fun x y H Q=>∃ i j,x=.int i∧y=.int j∧C i j∧Q (g i j) H
noncomputable def rI0 (g:Int→Int→V):R2:=fun x y H Q=>∃ i j,x=.int i∧y=.int j∧Q (g i j) H
noncomputable def rU (g:Int→V):V→Hp→VK→Prop:=fun x H Q=>∃ i,x=.int i∧Q (g i) H
section
variable {X:Cx} {a b c:Expr} {ta tb tc:TE} {pos:Pos}
theorem binT (ha:PE X a ta) (hb:PE X b tb) {pins:List (Addr × Obj)} {s:Shared} {σ:St} {H:Hp} {R:V→V→Hp→Prop} (I:Inv X pins σ H s)
  (h:ta σ H fun x H1=>tb σ H1 fun y H2=>R x y H2) {Q:Value→Shared→Prop} {f:Value→Value→Sem Value}
  (hf:∀ v u s2 x y H2,Inv X pins σ H2 s2→RelV x v→RelV y u→R x y H2→wpAny (model X.prog X.w) X.A (f v u) Q X.xe s2) :
  wpAny (model X.prog X.w) X.A (eval a X.env) (fun v s₁=>wpAny (model X.prog X.w) X.A (eval b X.env) (fun u s₂=>wpAny (model X.prog X.w) X.A (f v u) Q X.xe s₂) X.xe s₁) X.xe s:=by
 refine thn (ha pins s σ H _ I h) fun v s1 zz9=>?_
 obtain ⟨x,H1,I1,r1,q1⟩:=zz9
 refine thn (hb pins s1 σ H1 _ I1 q1) fun u s2 zz9=>?_
 obtain ⟨y,H2,I2,r2,q2⟩:=zz9
 exact hf v u s2 x y H2 I2 r1 r2 q2
theorem Zi {op:Operator} {r:R2} (ho:OpR X (binaryOp op) r) (ha:PE X a ta) (hb:PE X b tb):PE X (.BinOp a op b pos) (tOp r ta tb):=by
 intro pins s σ H Q I h
 exact wpAny_BinOp (binT ha hb I h fun v u s2 x y H2 I2 rx ry q=>ho pins s2 σ H2 x y v u Q I2 rx ry q)
theorem Zmm {op:UnaryOp} {r:V→Hp→VK→Prop} (ho:UnR X (unaryOp op) r) (ha:PE X a ta):PE X (.UnaryOp op a pos) (tUn r ta):=by
 intro pins s σ H Q I h
 refine UnaryOp_ (thn (ha pins s σ H _ I h) fun v s1 zz7=>?_)
 obtain ⟨x,H1,I1,r1,q1⟩:=zz7
 exact ho pins s1 σ H1 x v Q I1 r1 q1
theorem opI {f:Value→Value→Sem Value} {C:Int→Int→Prop} {g:Int→Int→Int}
  (rule:∀ (i j:Int) (t u:Tok) (s:Shared) (Q:Value→Shared→Prop) (E:Value→Shared→Prop),C i j→Q (.int (g i j) s.toks) { s with toks:=s.toks + 1 }→wpAny (model X.prog X.w) X.A (f (.int i t) (.int j u)) Q E s) :
  OpR X f (rI C fun i j=>.int (g i j)):=by
 intro pins s σ H x y v u Q I rx ry h
 obtain ⟨i,j,rfl,rfl,hc,q⟩:=h
 obtain ⟨t,rfl⟩:=rx
 obtain ⟨t',rfl⟩:=ry
 exact rule i j t t' s _ _ hc ⟨.int (g i j),H,I.tok _,⟨_,rfl⟩,q⟩
theorem opI0 {f:Value→Value→Sem Value} {g:Int→Int→Int}
  (rule:∀ (i j:Int) (t u:Tok) (s:Shared) (Q:Value→Shared→Prop) (E:Value→Shared→Prop),Q (.int (g i j) s.toks) { s with toks:=s.toks + 1 }→wpAny (model X.prog X.w) X.A (f (.int i t) (.int j u)) Q E s) :
  OpR X f (rI0 fun i j=>.int (g i j)):=by
 intro pins s σ H x y v u Q I rx ry h
 obtain ⟨i,j,rfl,rfl,q⟩:=h
 obtain ⟨t,rfl⟩:=rx
 obtain ⟨t',rfl⟩:=ry
 exact rule i j t t' s _ _ ⟨.int (g i j),H,I.tok _,⟨_,rfl⟩,q⟩
theorem opB0 {f:Value→Value→Sem Value} {g:Int→Int→Bool}
  (rule:∀ (i j:Int) (t u:Tok) (s:Shared) (Q:Value→Shared→Prop) (E:Value→Shared→Prop),Q (.bool (g i j)) s→wpAny (model X.prog X.w) X.A (f (.int i t) (.int j u)) Q E s) :
  OpR X f (rI0 fun i j=>.bl (g i j)):=by
 intro pins s σ H x y v u Q I rx ry h
 obtain ⟨i,j,rfl,rfl,q⟩:=h
 obtain ⟨t,rfl⟩:=rx
 obtain ⟨t',rfl⟩:=ry
 exact rule i j t t' s _ _ ⟨.bl (g i j),H,I,rfl,q⟩
noncomputable def CDiv (i j:Int):Prop:=0 < j∧j < 1073741824
noncomputable def CPow (i j:Int):Prop:=0≤j∧j≤1000000∧i.natAbs < 2 ^ 64
noncomputable def CMul (i j:Int):Prop:=(-(2 ^ 64) < i∧i < 2 ^ 64)∨(-(2 ^ 64) < j∧j < 2 ^ 64)
theorem CMul.ok {i j:Int} (h:CMul i j):IntMulOk i j:=by
 rcases h with ⟨h1,h2⟩ | ⟨h1,h2⟩
 ·exact .of_left (intBits_le_64 h1 h2)
 ·exact .of_right (intBits_le_64 h1 h2)
theorem Z0:OpR X (binaryOp .Add) (rI0 fun i j=>.int (i + j)):=opI0 fun _ _ _ _ _ _ _ q=>add_int q
theorem Uz:OpR X (binaryOp .Sub) (rI0 fun i j=>.int (i - j)):=opI0 fun _ _ _ _ _ _ _ q=>sub_int q
theorem Wt:OpR X (binaryOp .Mult) (rI CMul fun i j=>.int (i * j)):=opI fun _ _ _ _ _ _ _ hc q=>mul_int q hc.ok
theorem Yv:OpR X (binaryOp .FloorDiv) (rI CDiv fun i j=>.int (i / j)):=opI fun i j _ _ _ _ _ hc q=>by
 have h1:(0:Int) < j:=hc.1
 have h2:j < 1073741824:=hc.2
 exact floordiv_int (by omega) (by rw [Int.fdiv_eq_ediv_of_nonneg i (by omega)]; exact q) (.inl (PyProof.noPylong_small (by omega)))
theorem Zy:OpR X (binaryOp .Mod) (rI (fun _ j=>0 < j) fun i j=>.int (i % j)):=opI fun i j _ _ _ _ _ hc q=>by
 have h1:(0:Int) < j:=hc
 exact mod_int' (by omega) (by rw [Int.fmod_eq_emod_of_nonneg i (by omega)]; exact q)
theorem Zlm:OpR X (binaryOp .Pow) (rI CPow fun i j=>.int (i ^ j.toNat)):=opI fun _ _ _ _ _ _ _ hc q=>pow_int_small hc.1 hc.2.1 hc.2.2 q
theorem unI {f:Value→Sem Value} {g:Int→Int}
  (rule:∀ (i:Int) (t:Tok) (s:Shared) (Q:Value→Shared→Prop) (E:Value→Shared→Prop),Q (.int (g i) s.toks) { s with toks:=s.toks + 1 }→wpAny (model X.prog X.w) X.A (f (.int i t)) Q E s) :
  UnR X f (rU fun i=>.int (g i)):=by
 intro pins s σ H x v Q I rx h
 obtain ⟨i,rfl,q⟩:=h
 obtain ⟨t,rfl⟩:=rx
 exact rule i t s _ _ ⟨.int (g i),H,I.tok _,⟨_,rfl⟩,q⟩
theorem Zk1:UnR X (unaryOp .USub) (rU fun i=>.int (-i)):=unI fun _ _ _ _ _ q=>neg_int q
end
noncomputable def scal:V→V→Bool
 | .non,.non=>true | .non,.int _=>true | .int _,.non=>true | .non,.bl _=>true | .bl _,.non=>true | .non,.str _=>true | .str _,.non=>true
 | .int _,.int _=>true | .bl _,.bl _=>true | .str _,.str _=>true | .byt _,.byt _=>true
 | .int _,.str _=>true | .str _,.int _=>true | .bl _,.str _=>true | .str _,.bl _=>true
 | _,_=>false
noncomputable def rEq:R2:=fun x y H Q=>scal x y=true∧Q (.bl (decide (x=y))) H
noncomputable def rNe:R2:=fun x y H Q=>scal x y=true∧Q (.bl (!decide (x=y))) H
theorem Zeh {i j:Int}:decide (V.int i=V.int j)=(i == j):=by
 rw [Bool.eq_iff_iff]
 simp
theorem Zhe {i j:Bool}:decide (V.bl i=V.bl j)=(i == j):=by
 rw [Bool.eq_iff_iff]
 simp
theorem Zeg {i j:Str}:decide (V.str i=V.str j)=(i == j):=by
 rw [Bool.eq_iff_iff]
 simp
theorem Zei {i j:Array UInt8}:decide (V.byt i=V.byt j)=(i.toList == j.toList):=by
 rw [Bool.eq_iff_iff]
 cases i
 cases j
 simp
section
variable {X:Cx} {a b c:Expr} {ta tb tc:TE} {pos:Pos}
theorem Z6 {pins:List (Addr × Obj)} {σ:St} {H:Hp} {s:Shared} {Q:VK} {k k':Bool} (I:Inv X pins σ H s) (q:Q (.bl k) H) (e:k=k'):EP X pins σ Q (.bool k') s:=by
 subst e
 exact ⟨.bl k,H,I,rfl,q⟩
theorem Xq:OpR X (compareOp .Eq) rEq:=by
 intro pins s σ H x y v u Q I rx ry h
 obtain ⟨hs,q⟩:=h
 cases x with
 | non =>
  cases rx
  cases y with
  | non=>cases ry; exact PySem.EqNone.eq_none_none (Z6 I q (by simp))
  | bl j=>cases ry; exact PySem.EqNone.eq_none_bool (Z6 I q (by simp))
  | int j=>obtain ⟨t',rfl⟩:=ry; exact PySem.EqNone.eq_none_int (Z6 I q (by simp))
  | str j=>obtain ⟨t',rfl⟩:=ry; exact PySem.EqNone.eq_none_str (Z6 I q (by simp))
  | _=>exact absurd (show false=true from hs) Bool.false_ne_true
 | bl i =>
  cases rx
  cases y with
  | non=>cases ry; exact PySem.EqNone.eq_bool_none (Z6 I q (by simp))
  | bl j=>cases ry; exact eq_bool (Z6 I q Zhe)
  | str j=>obtain ⟨t',rfl⟩:=ry; exact PySem.EqMixed.eq_bool_str (Z6 I q (by simp))
  | _=>exact absurd (show false=true from hs) Bool.false_ne_true
 | int i =>
  obtain ⟨t,rfl⟩:=rx
  cases y with
  | non=>cases ry; exact PySem.EqNone.eq_int_none (Z6 I q (by simp))
  | int j=>obtain ⟨t',rfl⟩:=ry; exact eq_int (Z6 I q Zeh)
  | str j=>obtain ⟨t',rfl⟩:=ry; exact PySem.EqMixed.eq_int_str (Z6 I q (by simp))
  | _=>exact absurd (show false=true from hs) Bool.false_ne_true
 | str i =>
  obtain ⟨t,rfl⟩:=rx
  cases y with
  | non=>cases ry; exact PySem.EqNone.eq_str_none (Z6 I q (by simp))
  | bl j=>cases ry; exact PySem.EqMixed.eq_str_bool (Z6 I q (by simp))
  | int j=>obtain ⟨t',rfl⟩:=ry; exact PySem.EqMixed.eq_str_int (Z6 I q (by simp))
  | str j=>obtain ⟨t',rfl⟩:=ry; exact eq_str (Z6 I q Zeg)
  | _=>exact absurd (show false=true from hs) Bool.false_ne_true
 | byt i =>
  obtain ⟨t,rfl⟩:=rx
  cases y with
  | byt j=>obtain ⟨t',rfl⟩:=ry; exact PySem.W.eq_bytes (Z6 I q Zei)
  | _=>exact absurd (show false=true from hs) Bool.false_ne_true
 | _=>cases y <;> exact absurd (show false=true from hs) Bool.false_ne_true
theorem Ob:OpR X (compareOp .NotEq) rNe:=by
 intro pins s σ H x y v u Q I rx ry h
 obtain ⟨hs,q⟩:=h
 cases x with
 | non =>
  cases rx
  cases y with
  | non=>cases ry; exact PySem.EqNone.ne_none_none (Z6 I q (by simp))
  | bl j=>cases ry; exact PySem.EqNone.ne_none_bool (Z6 I q (by simp))
  | int j=>obtain ⟨t',rfl⟩:=ry; exact PySem.EqNone.ne_none_int (Z6 I q (by simp))
  | str j=>obtain ⟨t',rfl⟩:=ry; exact PySem.EqNone.ne_none_str (Z6 I q (by simp))
  | _=>exact absurd (show false=true from hs) Bool.false_ne_true
 | bl i =>
  cases rx
  cases y with
  | non=>cases ry; exact PySem.EqNone.ne_bool_none (Z6 I q (by simp))
  | bl j=>cases ry; exact ne_bool (Z6 I q (congrArg not Zhe))
  | str j=>obtain ⟨t',rfl⟩:=ry; exact PySem.EqMixed.ne_bool_str (Z6 I q (by simp))
  | _=>exact absurd (show false=true from hs) Bool.false_ne_true
 | int i =>
  obtain ⟨t,rfl⟩:=rx
  cases y with
  | non=>cases ry; exact PySem.EqNone.ne_int_none (Z6 I q (by simp))
  | int j=>obtain ⟨t',rfl⟩:=ry; exact ne_int (Z6 I q (congrArg not Zeh))
  | str j=>obtain ⟨t',rfl⟩:=ry; exact PySem.EqMixed.ne_int_str (Z6 I q (by simp))
  | _=>exact absurd (show false=true from hs) Bool.false_ne_true
 | str i =>
  obtain ⟨t,rfl⟩:=rx
  cases y with
  | non=>cases ry; exact PySem.EqNone.ne_str_none (Z6 I q (by simp))
  | bl j=>cases ry; exact PySem.EqMixed.ne_str_bool (Z6 I q (by simp))
  | int j=>obtain ⟨t',rfl⟩:=ry; exact PySem.EqMixed.ne_str_int (Z6 I q (by simp))
  | str j=>obtain ⟨t',rfl⟩:=ry; exact ne_str (Z6 I q (congrArg not Zeg))
  | _=>exact absurd (show false=true from hs) Bool.false_ne_true
 | byt i =>
  obtain ⟨t,rfl⟩:=rx
  cases y with
  | byt j=>obtain ⟨t',rfl⟩:=ry; exact PySem.W.ne_bytes (Z6 I q (congrArg not Zei))
  | _=>exact absurd (show false=true from hs) Bool.false_ne_true
 | _=>cases y <;> exact absurd (show false=true from hs) Bool.false_ne_true
theorem J5:OpR X (compareOp .Lt) (rI0 fun i j=>.bl (decide (i < j))):=opB0 fun _ _ _ _ _ _ _ q=>lt_int q
theorem Ze6:OpR X (compareOp .LtE) (rI0 fun i j=>.bl (decide (i≤j))):=opB0 fun _ _ _ _ _ _ _ q=>le_int q
theorem Q0:OpR X (compareOp .Gt) (rI0 fun i j=>.bl (decide (j < i))):=opB0 fun _ _ _ _ _ _ _ q=>gt_int q
theorem Zja:OpR X (compareOp .GtE) (rI0 fun i j=>.bl (decide (j≤i))):=opB0 fun _ _ _ _ _ _ _ q=>ge_int q
theorem Vl:OpR X (compareOp .IsNot) (fun x y H Q=>y=.non∧Q (.bl (!decide (x=.non))) H):=by
 intro pins s σ H x y v u Q I rx ry h
 obtain ⟨rfl,q⟩:=h
 cases ry
 refine isnot_none_gen (Z6 I q ?_)
 cases x <;> first
  | (cases rx; rfl)
  | (obtain ⟨t,rfl⟩:=rx; rfl)
theorem Zs (b:Expr) {op:CmpOp} (h:op≠.In:=by decide) (h2:op≠.NotIn:=by decide):behindInMarks op b=false:=by
 have e1:(op == CmpOp.In)=false:=by cases op <;> first | rfl | exact absurd rfl h
 have e2:(op == CmpOp.NotIn)=false:=by cases op <;> first | rfl | exact absurd rfl h2
 cases b <;> simp [behindInMarks,e1,e2]
theorem Wn {op:CmpOp} {r:R2} (ho:OpR X (compareOp op) r) (ha:PE X a ta) (hb:PE X b tb) (hm:behindInMarks op b=false):PE X (.Compare a [op] [b] pos) (tOp r ta tb):=by
 intro pins s σ H Q I h
 exact wpAny_Compare1 (binT ha hb I h fun v u s2 x y H2 I2 rx ry q=>ho pins s2 σ H2 x y v u Q I2 rx ry q) hm
noncomputable def Zl8 (t:TE):TT:=fun σ H Q=>t σ H fun x H'=>∃ k,x=.bl k∧Q k H'
theorem Zt {op:CmpOp} {r:R2} (ho:OpR X (compareOp op) r) (ha:PE X a ta) (hb:PE X b tb) (hm:behindInMarks op b=false):PT X (.Compare a [op] [b] pos) (Zl8 (tOp r ta tb)):=by
 intro pins s σ H Q I h
 refine wpAny_isTrue_Compare1 (thn (ha pins s σ H _ I h) fun v s1 ⟨x,H1,I1,r1,q1⟩=>thn (hb pins s1 σ H1 _ I1 q1) fun u s2 ⟨y,H2,I2,r2,q2⟩ =>
  thn (ho pins s2 σ H2 x y v u _ I2 r1 r2 q2) fun c s3 ⟨z,H3,I3,r3,k,e,q3⟩=>?_) hm
 subst e
 cases r3
 exact wpAny_truthy_bool ⟨H3,I3,q3⟩
noncomputable def Zla (r r':R2) (ta tb tc:TE):TE:=fun σ H Q=>ta σ H fun x H1=>tb σ H1 fun y H2=>r x y H2 fun z H3=>∃ k,z=.bl k ∧
 (if k=true then tc σ H3 fun w' H4=>r' y w' H4 Q else Q (.bl false) H3)
theorem Zb9 {op op':CmpOp} {r r':R2} (ho:OpR X (compareOp op) r) (ho':OpR X (compareOp op') r') (ha:PE X a ta) (hb:PE X b tb) (hc:PE X c tc)
  (hm:lastMarks [op,op'] [b,c]=false:=by with_unfolding_all rfl):PE X (.Compare a [op,op'] [b,c] pos) (Zla r r' ta tb tc):=by
 intro pins s σ H Q I h
 refine Compare_chain (thn (ha pins s σ H _ I h) fun v s1 ⟨x,H1,I1,r1,q1⟩=>chain_link (thn (hb pins s1 σ H1 _ I1 q1) fun u s2 ⟨y,H2,I2,r2,q2⟩ =>
  thn (ho pins s2 σ H2 x y v u _ I2 r1 r2 q2) fun d s3 ⟨z,H3,I3,r3,k,e,q3⟩=>?_)) hm
 subst e
 cases r3
 refine wpAny_truthy_bool ?_
 cases k with
 | false=>exact ite_ff ⟨.bl false,H3,I3,rfl,q3⟩
 | true=>exact ite_tt (chain_last (thn (hc pins s3 σ H3 _ I3 q3) fun w' s4 ⟨z',H4,I4,r4,q4⟩=>ho' pins s4 σ H4 y z' u w' Q I4 r2 r4 q4))
noncomputable def TruV (K:PySem.W.Frag) (x:V) (H:Hp) (k:Bool):Prop :=
 match x with
 | .non=>k=false
 | .bl b=>k=b
 | .int i=>k=(i != 0)
 | .str y=>y.length≤sizeLine∧k=((y.length:Int) != 0)
 | .byt y=>y.size≤sizeLine∧k=((y.size:Int) != 0)
 | .ref p=>(∃ xs,SqL K H p xs∧k=!xs.isEmpty)∨(∃ xs,SqT K H p xs∧k=!xs.isEmpty)∨∃ kvs,H p=some (.dK kvs)∧k=!kvs.isEmpty
 | _=>False
theorem Zfg {κ:Type} {kvs:List (κ × V)} {vs:List (κ × Value)} (r:KV kvs vs):(!vs.isEmpty)=!kvs.isEmpty:=by
 cases r <;> rfl
theorem Gj {xs:List V} {its:List Value} (r:Vals xs its):(!its.toArray.isEmpty)=!xs.isEmpty:=by
 cases r <;> simp
theorem Vm:(sizeLine:Nat) < 2 ^ 63:=by rw [sizeLine_eq]; decide
theorem Zk2:TruR X (fun x H Q=>∃ k,TruV X.K x H k∧Q k H):=by
 intro pins s σ H x v Q I rx h
 obtain ⟨k,e,q⟩:=h
 have hl:=Vm
 have hs:sizeLine=16777216:=sizeLine_eq
 cases x with
 | non =>
  cases rx
  have e':k=false:=e
  subst e'
  exact truthy_none ⟨H,I,q⟩
 | bl b =>
  cases rx
  have e':k=b:=e
  subst e'
  exact wpAny_truthy_bool ⟨H,I,q⟩
 | int i =>
  obtain ⟨t,rfl⟩:=rx
  have e':k=(i != 0):=e
  subst e'
  exact PySem.P.truthy_int ⟨H,I,q⟩
 | str y =>
  obtain ⟨t,rfl⟩:=rx
  obtain ⟨hy,e'⟩:y.length≤sizeLine∧k=((y.length:Int) != 0):=e
  subst e'
  exact PySem.P.truthy_str (by omega) ⟨H,I.tok _,q⟩
 | byt y =>
  obtain ⟨t,rfl⟩:=rx
  obtain ⟨hy,e'⟩:y.size≤sizeLine∧k=((y.size:Int) != 0):=e
  subst e'
  exact PySem.W.truthy_bytes (by omega) ⟨H,I.tok _,q⟩
 | ref p =>
  cases rx
  have e':(∃ xs,SqL X.K H p xs∧k=!xs.isEmpty)∨(∃ xs,SqT X.K H p xs∧k=!xs.isEmpty)∨∃ kvs,H p=some (.dK kvs)∧k=!kvs.isEmpty:=e
  rcases e' with ⟨xs,hx,e'⟩ | ⟨xs,hx,e'⟩ | ⟨kvs,hx,e'⟩
  ·subst e'
   obtain ⟨its,r,pl,hz⟩:=I.list hx
   have hlen:=r.length
   exact wpAny_truthy_list pl.isList (by simp only [List.size_toArray]; omega) ⟨H,I.tok _,by rw [Gj r]; exact q⟩
  ·subst e'
   obtain ⟨its,r,pl,hz⟩:=I.tuple hx
   have hlen:=r.length
   exact truthy_tuple pl (by simp only [List.size_toArray]; omega) ⟨H,I.tok _,by rw [Gj r]; exact q⟩
  ·subst e'
   obtain ⟨hz,hS,vs,r,m⟩:kvs.length≤sizeLine∧(p == sysModules)=false∧∃ vs,KV kvs vs∧s.heap.DictOf (Z9 X.prog X.w) p vs:=I.hok p _ hx
   have hlen:kvs.length=vs.length:=Paired.length r
   exact wpAny_truthy_dict hS m (by omega) ⟨H,I.tok _,by rw [Zfg r]; exact q⟩
 | _=>exact (show False from e).elim
theorem Jf (ha:PE X a ta) (he:∀ whole,isTrue a X.env whole=(do let v ← whole; standAt a.pos; holding [v] (truthy v))) :
  PT X a (fun σ H Q=>ta σ H fun x H'=>∃ k,TruV X.K x H' k∧Q k H'):=by
 intro pins s σ H Q I h
 refine isTrue_plain (thn (ha pins s σ H _ I h) fun v s1 zz8=>?_) (he _)
 obtain ⟨x,H1,I1,r1,q1⟩:=zz8
 exact Zk2 pins s1 σ H1 x v Q I1 r1 q1
theorem Xw {x:V} {us:List Value} (r:Vals [x] us):∃ u,us=[u]∧RelV x u:=by
 cases r with
 | cons r1 r2=>cases r2; exact ⟨_,rfl,r1⟩
theorem Zl6 {x y:V} {us:List Value} (r:Vals [x,y] us):∃ u w',us=[u,w']∧RelV x u∧RelV y w':=by
 cases r with
 | cons r1 r2 =>
  cases r2 with
  | cons r3 r4=>cases r4; exact ⟨_,_,rfl,r1,r3⟩
theorem Zc1:Xt X (.type "str") (fun xs H Q=>∃ i,xs=[.int i]∧i.natAbs.log2 < 1920∧Q (.str (toString i)) H):=by
 intro pins s σ H xs us Q I r h
 obtain ⟨i,rfl,hz,q⟩:=h
 obtain ⟨u,rfl,t,rfl⟩:=Xw r
 exact PySem.P.str_of_int hz ⟨.str _,H,I.tok _,⟨_,rfl⟩,q⟩
end
end L2
namespace L2
open PySem PySem.Spec PyProof.Rows
structure ObjM (h:Heap) (x dx C:Addr) (mA:Str→Option Value):Prop where
 obj:h.get? x=some (PySem.W.instObj C dx)
 ns:h.Ns1 dx mA
 ne:dx≠x
theorem Zg4 {h:Heap} {dx:Addr} {mA:Str→Option Value} (n:h.Ns1 dx mA):∃ od,h.get? dx=some od∧∀ name,PySem.W.lookIn name od=some (mA name):=by
 obtain ⟨o,es,ep,ho,hd,hk,_,hm⟩:=n
 refine ⟨o,ho,fun name=>?_⟩
 have e:=hm name
 unfold nsFind findBy at e
 rw [← Array.find?_toList] at e
 unfold PySem.W.lookIn
 rw [hd]
 dsimp only
 split
 ·rename_i y q
  rw [q] at e
  exact congrArg some e
 ·rename_i q
  rw [q] at e
  have a:es.toList.any (·.refKey)=false:=by
   rw [List.any_eq_false]
   intro y hy
   obtain ⟨z,t,hkey⟩:=hk y (Array.mem_toList_iff.mp hy)
   simp [DictEntry.refKey,hkey]
  have a':¬ es.toList.any (·.refKey)=true:=by rw [a]; exact Bool.false_ne_true
  rw [if_neg a']
  exact congrArg some e
theorem ObjM.look {h:Heap} {x dx C:Addr} {mA:Str→Option Value} (I:ObjM h x dx C mA):∃ od,PySem.W.InstAt h x (PySem.W.instObj C dx) C (some od)∧∀ name,PySem.W.lookIn name od=some (mA name) :=
 let ⟨od,ho,hl⟩:=Zg4 I.ns
 ⟨od,⟨I.obj,rfl,rfl,ho⟩,hl⟩
section
variable {prog:Program} {w:World} {A:Around} {E:Value→Shared→Prop} {s:Shared} {K:PySem.W.Frag} {x dx C f:Addr} {mA:Str→Option Value} {name:Str} {v:Value}
theorem Zkq {expr:Bool} {Q:Value→Shared→Prop} (X:K.In s.heap) (I:ObjM s.heap x dx C mA) (hg:PySem.W.plainGet K C name=true) (hh:PySem.W.hasDictIn K C=true)
  (ha:PySem.W.findIn K (.ref C) name=some none) (hv:mA name=some v) (hv':PySem.W.handedIn v=true) (h:Q v { s with toks:=s.toks + 1 }) :
  wpAny (model prog w) A (getAttr (.ref x) name expr) Q E s:=by
 obtain ⟨od,J,hl⟩:=I.look
 exact PySem.W.get_value X J (PySem.W.plainGet_of hg).1 (PySem.W.findObj_own hh ha rfl (by rw [hl,hv])) hv' h
theorem Zix {pl:Sem Bool} {Q:Value × List Value→Shared→Prop} (X:K.In s.heap) (I:ObjM s.heap x dx C mA) (hg:PySem.W.plainGet K C name=true)
  (hf:PySem.W.findIn K (.ref C) name=some (some (.ref f))) (ht:PySem.W.isFn K (.ref f)=true) (hv:mA name=none) (h:Q (.ref f,[.ref x]) s) :
  wpAny (model prog w) A (getMethod (.ref x) name pl) Q E s:=by
 obtain ⟨od,J,hl⟩:=I.look
 exact PySem.W.method_fn X J (PySem.W.plainGet_of hg).1 (PySem.W.plainGet_of hg).2 hf (beq_iff_eq.mp ht) (by show (PySem.W.lookIn name od).map (·.isSome)=some false; rw [hl,hv]; rfl) h
theorem Zj3 {ns:List Str} {Q:Unit→Shared→Prop} (X:K.In s.heap) (I:ObjM s.heap x dx C mA)
  (hs:PySem.W.findIn K (.ref C) "__setattr__"=some (some (.builtin "object.__setattr__"))) (hp:PySem.W.plainOver K C=true) (ht:PySem.W.takerIn K C name=some none) (hh:PySem.W.hasDictIn K C=true)
  (hw:PySem.Within mA ns) (hsz:ns.length≤sizeLine)
  (h:∀ h',ObjM h' x dx C (fun y=>if y=name then some v else mA y)→Heap.SameBut dx s.heap h'→Q () { s with heap:=h',toks:=s.toks + 2 }) :
  wpAny (model prog w) A (setAttr (.ref x) name v) Q E s:=by
 obtain ⟨od,J,hl⟩:=I.look
 refine PySem.W.set_plain X J hs (PySem.W.osa_open (s:={ s with toks:=s.toks + 1 }) (r:=none) X J hp ht fun b=>?_)
 obtain ⟨cd,hc,hd'⟩:=PySem.W.any_some hh
 have hx:s.heap.get? x=some ⟨.ref C,some dx,.plain,#[]⟩:=I.obj
 refine wpAny_bind (wpAny_pure (wpAny_bind (wpAny_bind (wpAny_loadPart hx (wpAny_bind (PySem.W.Looks.here (s:={ s with toks:=s.toks + 1 }) (PySem.W.looks_clsIn X hc) ?_))))))
 rw [hd']
 refine wpAny_pure (a:=some dx) (wpAny_bind (wpAny_pure (wpAny_bind ?_)))
 refine wpAny_nsSet1 (s:={ s with toks:=s.toks + 1 }) I.ns fun h' hn2 hs2=>?_
 obtain ⟨oD,esD,epD,hoD,hdD,hcD⟩:=hn2.count (PySem.Within.cons name v hw)
 refine wpAny_bind (wpAny_lookBehind hoD (by rw [hdD]; exact pastItsLine_dict (Nat.le_trans hcD (by rw [List.length_cons]; omega))) ?_)
 exact wpAny_pure (h _ ⟨(hs2.2 _ (Ne.symm I.ne)).trans I.obj,hn2,I.ne⟩ hs2)
theorem Zil {R:Result→Shared→Prop} {vs:List Value} {kw:List (Str × Value)} (X:K.In s.heap) (hm:PySem.W.makesIn K C=true)
  (hi:PySem.W.findIn K (.ref C) "__init__"=some (some (.ref f))) (hf:PySem.W.typeIn K (.ref f)=some (.type "function"))
  (h:codeAny (model prog w) (A.under (.builtin "type.__call__" ⟨.ref C :: vs,kw⟩)) (.call (.ref f) ⟨.ref (s.heap.objs.size + 1) :: vs,kw⟩) (PySem.W.InitBack (s.heap.objs.size + 1) R)
   { s with heap:=(s.heap.push PySem.W.emptyDict).push (PySem.W.instObj C s.heap.objs.size) }) :
  codeAny (model prog w) A (.call (.ref C) ⟨vs,kw⟩) R s:=by
 obtain ⟨hh,g,d,t,os⟩:=s
 exact PySem.W.make_core (PySem.W.makes_of X hm) (PySem.W.looks_findIn X hi) (fun self=>PySem.W.bind_fn X self hf) (.inl rfl) h
end
noncomputable def putF (f:Str) (v:V):List (Str × V)→List (Str × V)
 | []=>[(f,v)]
 | (g,x) :: r=>if g=f then (g,v) :: r else (g,x) :: putF f v r
theorem Z5 (f g:Str) (v:V):∀ fs:List (Str × V),(putF f v fs).lookup g=if g=f then some v else fs.lookup g
 | []=>by
  show List.lookup g [(f,v)]=_
  by_cases h:g=f
  ·have hb:(g == f)=true:=beq_iff_eq.mpr h
   simp only [List.lookup,hb,if_pos h]
  ·have hb:(g == f)=false:=beq_eq_false_iff_ne.mpr h
   simp only [List.lookup,hb,if_neg h]
 | (k,x) :: r=>by
  have ih:=Z5 f g v r
  rw [show putF f v ((k,x) :: r)=(if k=f then (k,v) :: r else (k,x) :: putF f v r) from rfl]
  by_cases hk:k=f
  ·rw [if_pos hk]
   by_cases h:g=k
   ·have hb:(g == k)=true:=beq_iff_eq.mpr h
    simp only [List.lookup,hb,if_pos (h.trans hk)]
   ·have hb:(g == k)=false:=beq_eq_false_iff_ne.mpr h
    simp only [List.lookup,hb,if_neg (fun e:g=f=>h (e.trans hk.symm))]
  ·rw [if_neg hk]
   by_cases h:g=k
   ·have hb:(g == k)=true:=beq_iff_eq.mpr h
    simp only [List.lookup,hb,if_neg (fun e:g=f=>hk (h.symm.trans e))]
   ·have hb:(g == k)=false:=beq_eq_false_iff_ne.mpr h
    simp only [List.lookup,hb]
    exact ih
theorem U4 (f:Str) (v:V):∀ fs:List (Str × V),f∈(putF f v fs).map (·.1)∧∀ g,g∈fs.map (·.1)→g∈(putF f v fs).map (·.1)
 | []=>⟨by simp [putF],fun g h=>by simp at h⟩
 | (k,x) :: r=>by
  obtain ⟨i1,i2⟩:=U4 f v r
  rw [show putF f v ((k,x) :: r)=(if k=f then (k,v) :: r else (k,x) :: putF f v r) from rfl]
  by_cases hk:k=f
  ·rw [if_pos hk]
   subst hk
   exact ⟨by simp,fun g h=>by simpa using h⟩
  ·rw [if_neg hk]
   refine ⟨?_,fun g h=>?_⟩
   ·rw [List.map_cons]
    exact List.mem_cons_of_mem _ i1
   ·rw [List.map_cons] at h ⊢
    rcases List.mem_cons.mp h with e | e
    ·exact List.mem_cons.mpr (.inl e)
    ·exact List.mem_cons_of_mem _ (i2 g e)
theorem O4 (f:Str) (v:V):∀ fs:List (Str × V),(putF f v fs).length≤fs.length + 1
 | []=>by simp [putF]
 | (k,x) :: r=>by
  have ih:=O4 f v r
  rw [show putF f v ((k,x) :: r)=(if k=f then (k,v) :: r else (k,x) :: putF f v r) from rfl]
  by_cases hk:k=f
  ·rw [if_pos hk,List.length_cons,List.length_cons]; omega
  ·rw [if_neg hk,List.length_cons,List.length_cons]; omega
theorem RelO.some_of {v:V} {o:Option Value} (r:RelO (some v) o):∃ u,o=some u∧RelV v u:=by
 cases o with
 | none=>exact (show False from r).elim
 | some u=>exact ⟨u,rfl,r⟩
theorem RelO.none_of {o:Option Value} (r:RelO none o):o=none:=by
 cases o with
 | none=>rfl
 | some u=>exact (show False from r).elim
theorem Zha {v:V} {u:Value} (r:RelV v u):PySem.W.handedIn u=true:=by
 cases v with
 | non=>cases (show u=Value.none from r); rfl
 | bl b=>cases (show u=Value.bool b from r); rfl
 | int i=>obtain ⟨t,e⟩:=(show ∃ t,u=Value.int i t from r); cases e; rfl
 | str x=>obtain ⟨t,e⟩:=(show ∃ t,u=Value.str x t from r); cases e; rfl
 | byt b=>obtain ⟨t,e⟩:=(show ∃ t,u=Value.bytes b t from r); cases e; rfl
 | flt b=>obtain ⟨t,e⟩:=(show ∃ t,u=Value.float b t from r); cases e; rfl
 | ref a=>cases (show u=Value.ref a from r); rfl
 | ty n=>cases (show u=Value.type n from r); rfl
section
variable {P:Program} {w:World} {H H':Hp} {h h':Heap} {a C dx:Addr} {fs fs':List (Str × V)}
theorem Of (hok:HOk P w H h) (e:H a=some (.ins C dx fs)):∃ mA,ObjM h a dx C mA∧(∀ f,RelO (fs.lookup f) (mA f))∧PySem.Within mA (fs.map (·.1))∧fs.length≤1000∧H dx=some (.own a):=by
 obtain ⟨d,z,ne,ob,mA,n,r,q⟩:=(show Ye P w H h a (.ins C dx fs) from hok a _ e)
 exact ⟨mA,⟨ob,n,ne⟩,r,q,z,d⟩
end
structure Cls (K:PySem.W.Frag) (C:Addr):Prop where
 pg:PySem.W.plainGet K C Str.empty=true
 hd:PySem.W.hasDictIn K C=true
 po:PySem.W.plainOver K C=true
 sa:PySem.W.findIn K (.ref C) "__setattr__"=some (some (.builtin "object.__setattr__"))
theorem Cls.get {K:PySem.W.Frag} {C:Addr} (c:Cls K C) (f:Str):PySem.W.plainGet K C f=true:=c.pg
noncomputable def Y1 (K:PySem.W.Frag) (C:Addr) (f:Str):Prop:=PySem.W.findIn K (.ref C) f=some none
theorem Y1.taker {K:PySem.W.Frag} {C:Addr} {f:Str} (n:Y1 K C f):PySem.W.takerIn K C f=some none:=by
 unfold PySem.W.takerIn
 rw [show PySem.W.findIn K (.ref C) f=some none from n]
 rfl
structure Meth (K:PySem.W.Frag) (C:Addr) (m:Str) (f:Addr):Prop where
 at_:PySem.W.findIn K (.ref C) m=some (some (.ref f))
 fn:PySem.W.isFn K (.ref f)=true
 kp:PySem.W.keepIn K (.ref f)=true
section
variable {X:Cx} {pins:List (Addr × Obj)} {σ:St} {H:Hp} {s:Shared} {a C dx:Addr} {fs:List (Str × V)} {f:Str} {v:V} {A:Around} {E:Value→Shared→Prop}
theorem Zfi {b:Bool} {Q:Value→Shared→Prop} (I:Inv X pins σ H s) (e:H a=some (.ins C dx fs)) (c:Cls X.K C) (n:Y1 X.K C f) (l:fs.lookup f=some v)
  (h:∀ u s',Inv X pins σ H s'→RelV v u→Q u s'):wpAny (model X.prog X.w) A (getAttr (.ref a) f b) Q E s:=by
 obtain ⟨mA,O,r,_,_,_⟩:=Of I.hok e
 obtain ⟨u,hu,ru⟩:=RelO.some_of (v:=v) (o:=mA f) (by rw [← l]; exact r f)
 exact Zkq I.kIn O (c.get f) c.hd n hu (Zha ru) (h u _ (I.tok _) ru)
theorem V2 {m:Str} {g:Addr} {pl:Sem Bool} {Q:Value × List Value→Shared→Prop} (I:Inv X pins σ H s) (e:H a=some (.ins C dx fs)) (c:Cls X.K C) (k:Meth X.K C m g) (l:fs.lookup m=none)
  (h:Q (.ref g,[.ref a]) s):wpAny (model X.prog X.w) A (getMethod (.ref a) m pl) Q E s:=by
 obtain ⟨mA,O,r,_,_,_⟩:=Of I.hok e
 have hn:mA m=none:=RelO.none_of (by rw [← l]; exact r m)
 exact Zix I.kIn O (c.get m) k.at_ k.fn hn h
theorem Zez {y:V} {u:Value} {Q:Unit→Shared→Prop} (I:Inv X pins σ H s) (e:H a=some (.ins C dx fs)) (c:Cls X.K C) (n:Y1 X.K C f) (hl:fs.length < 1000) (ry:RelV y u)
  (h:∀ s',Inv X pins σ (upd H a (.ins C dx (putF f y fs))) s'→Q () s'):wpAny (model X.prog X.w) A (setAttr (.ref a) f u) Q E s:=by
 obtain ⟨mA,O,r,wi,_,ho⟩:=Of I.hok e
 have hz:(fs.map (·.1)).length≤sizeLine:=by rw [List.length_map,sizeLine_eq]; omega
 refine Zj3 I.kIn O c.sa c.po n.taker c.hd wi hz fun h' O' sb=>h _ ?_
 have hd:∃ o,h'.get? dx=some o:=let ⟨o,_,_,e',_⟩:=O'.ns; ⟨o,e'⟩
 refine I.write (x:=a) (e:=dx) (by rw [e]; exact True.intro) (.inr ho) (fun b q hb z=>(sb.2 b hb).trans z) hd ?_
 refine ⟨by rw [Ze O.ne]; exact ho,?_,O.ne,O'.obj,_,O'.ns,fun g=>?_,fun g hg=>?_⟩
 ·have:=O4 f y fs; omega
 ·show RelO ((putF f y fs).lookup g) (if g=f then some u else mA g)
  rw [Z5]
  by_cases q:g=f
  ·rw [if_pos q,if_pos q]; exact ry
  ·rw [if_neg q,if_neg q]; exact r g
 ·by_cases q:g=f
  ·rw [q]; exact (U4 f y fs).1
  ·refine (U4 f y fs).2 g (wi g fun z=>hg ?_)
   show (if g=f then some u else mA g)=none
   rw [if_neg q]; exact z
theorem Inv.made (I:Inv X pins σ H s):Inv X pins σ (upd (upd H s.heap.objs.size (.own (s.heap.objs.size + 1))) (s.heap.objs.size + 1) (.ins C s.heap.objs.size []))
  { s with heap:=(s.heap.push PySem.W.emptyDict).push (PySem.W.instObj C s.heap.objs.size) }:=by
 have e1:(s.heap.push PySem.W.emptyDict).get? s.heap.objs.size=some PySem.W.emptyDict:=Heap.get?_push_size s.heap rfl
 have e2:((s.heap.push PySem.W.emptyDict).push (PySem.W.instObj C s.heap.objs.size)).get? (s.heap.objs.size + 1)=some (PySem.W.instObj C s.heap.objs.size):=by
  have:=Heap.get?_push_size (s.heap.push PySem.W.emptyDict) (o:=PySem.W.instObj C s.heap.objs.size) rfl
  rwa [Heap.size_push] at this
 have e3:(s.heap.push PySem.W.emptyDict).Ns s.heap.objs.size (fun _=>none):=⟨PySem.W.emptyDict,#[],_,e1,rfl,(fun e he=>absurd he (by simp)),fun _=>rfl⟩
 have I1:=I.laid (a:=s.heap.objs.size) (o:=.own (s.heap.objs.size + 1)) (h':=s.heap.push PySem.W.emptyDict) (t':=s.toks) (fun b u q=>Heap.get?_push_of_some _ q) (Nat.le_refl _) ⟨_,e1⟩
 refine I1.laid (a:=s.heap.objs.size + 1) (o:=.ins C s.heap.objs.size []) (t':=s.toks) (fun b u q=>Heap.get?_push_of_some _ q) (Nat.le_of_eq (Heap.size_push _ _)) ?_
 have ne:s.heap.objs.size≠s.heap.objs.size + 1:=Nat.ne_of_lt (Nat.lt_succ_self _)
 refine ⟨by rw [Ze ne,Zc],Nat.zero_le _,ne,e2,fun _=>none,(Heap.Ns1.of_empty e3).at fun o q=>Heap.get?_push_of_some _ q,fun _=>True.intro,fun y hy=>absurd rfl hy⟩
theorem Zkv {prog:Program} {w:World} {env:Env} {e:Expr} {f:Str} {pos:Pos} {s:Shared} {Q:Value→Shared→Prop} (hb:attributeBase e f env (eval e env)=eval e env)
  (h:wpAny (model prog w) A (eval e env) (fun o s₁=>wpAny (model prog w) A (getAttr o f true) Q E s₁) E s):wpAny (model prog w) A (eval (.Attribute e f pos) env) Q E s :=
 Attribute_any_ h (by rw [arm_eval_Attribute,hb])
end
noncomputable def tFld (K:PySem.W.Frag) (ta:TE) (f:Str):TE:=fun σ H Q=>ta σ H fun x H1=>∃ a C dx fs v,x=.ref a∧H1 a=some (.ins C dx fs)∧Cls K C∧Y1 K C f∧fs.lookup f=some v∧Q v H1
noncomputable def sFld (K:PySem.W.Frag) (ta tv:TE) (f:Str):TS:=fun D σ H=>tv σ H fun y H1=>ta σ H1 fun x H2=>∃ a C dx fs,x=.ref a∧H2 a=some (.ins C dx fs)∧Cls K C∧Y1 K C f∧fs.length < 1000 ∧
 D.nx σ (upd H2 a (.ins C dx (putF f y fs)))
section
variable {X:Cx} {o e value:Expr} {f:Str} {pos pos' tpos:Pos} {ta tv:TE}
theorem Zr (he:PE X e ta) (hb:attributeBase e f X.env (eval e X.env)=eval e X.env):PE X (.Attribute e f pos) (tFld X.K ta f):=by
 intro pins s σ H Q I h
 refine Zkv hb (thn (he pins s σ H _ I h) fun u s1 zz9=>?_)
 obtain ⟨x,H1,I1,rx,a,C,dx,fs,v,ex,ea,c,n,l,q⟩:=zz9
 subst ex
 obtain rfl:u=Value.ref a:=rx
 exact Zfi I1 ea c n l fun u' s2 I2 ru=>⟨v,H1,I2,ru,q⟩
theorem Xe (ha:PE X o ta) (hv:PE X value tv) (hs:swapsWith value (some (.Attribute o f pos')) pos.line X.env=pure false):PS X (.Assign [.Attribute o f pos'] value pos) (sFld X.K ta tv f):=by
 intro pins s σ H D I h
 refine plainObj_wpAny_Assign_Attribute (thn (hv pins s σ H _ I h) fun u s1 zz9=>?_) hs
 obtain ⟨y,H1,I1,ry,q⟩:=zz9
 refine thn (ha pins s1 σ H1 _ I1 q) fun ov s2 zz10=>?_
 obtain ⟨x,H2,I2,rx,a,C,dx,fs,ex,ea,c,n,l,q2⟩:=zz10
 subst ex
 obtain rfl:ov=Value.ref a:=rx
 exact Zez I2 ea c n l ry fun s3 I3=>⟨σ,_,I3,q2⟩
end
section
variable {X:Cx} {pins:List (Addr × Obj)} {σ:St} {H:Hp} {s:Shared} {A:Around} {E:Value→Shared→Prop} {Q:Value→Shared→Prop} {c:Value} {b:Bool}
inductive TyOf (K:PySem.W.Frag) (H:Hp):V→Value→Prop where
 | non:TyOf K H .non (.type "NoneType")
 | bl (x:Bool):TyOf K H (.bl x) (.type "bool")
 | int (i:Int):TyOf K H (.int i) (.type "int")
 | str (x:Str):TyOf K H (.str x) (.type "str")
 | flt (x:UInt64):TyOf K H (.flt x) (.type "float")
 | lst {a:Addr} {xs:List V} (e:H a=some (.lst xs)):TyOf K H (.ref a) (.type "list")
 | frz {a:Addr} {o:Obj} {xs:List V} (e:H a=some (.frz o (.lst xs))):TyOf K H (.ref a) (.type "list")
 | tup {a:Addr} {xs:List V} (e:H a=some (.tup xs)):TyOf K H (.ref a) (.type "tuple")
 | dK {a:Addr} {kvs:List (Key × V)} (e:H a=some (.dK kvs)):TyOf K H (.ref a) (.type "dict")
 | dT {a:Addr} {kvs:List (List Key × V)} (e:H a=some (.dT kvs)):TyOf K H (.ref a) (.type "dict")
 | ins {a C dx:Addr} {fs:List (Str × V)} (e:H a=some (.ins C dx fs)) (cl:Cls K C) (ha:PySem.W.findIn K (.ref C) "__class__"=some (some (.builtin "object.__class__")))
   (hn:PySem.W.specialIn K (.builtin "object.__class__") "__get__"=some (some (.builtin "getset_descriptor.__get__"))) (htk:PySem.W.takesIn K (.builtin "object.__class__")=some true)
   (hm:PySem.W.mroIn K C (.type "object")=some true):TyOf K H (.ref a) (.ref C)
theorem Zg7 {x:V} {u t:Value} (I:Inv X pins σ H s) (rx:RelV x u) (ty:TyOf X.K H x t) (e:PySem.W.kitOne X.K t c=some b) (h:∀ tk,Q (.bool b) { s with toks:=tk }) :
  wpAny (model X.prog X.w) A (call (.builtin "isinstance") [u,c]) Q E s:=by
 cases ty with
 | non=>cases (show u=Value.none from rx); exact PySem.W.kia_one PySem.W.kitx_none I.kIn True.intro e (fun z=>nomatch z) h
 | bl y=>cases (show u=Value.bool y from rx); exact PySem.W.kia_one PySem.W.kitx_bool I.kIn True.intro e (fun z=>nomatch z) h
 | int i=>obtain ⟨t,q⟩:=(show ∃ t,u=Value.int i t from rx); cases q; exact PySem.W.kia_one PySem.W.kitx_int I.kIn True.intro e (fun z=>nomatch z) h
 | str y=>obtain ⟨t,q⟩:=(show ∃ t,u=Value.str y t from rx); cases q; exact PySem.W.kia_one PySem.W.kitx_str I.kIn True.intro e (fun z=>nomatch z) h
 | flt y=>obtain ⟨t,q⟩:=(show ∃ t,u=Value.float y t from rx); cases q; exact PySem.W.kia_one PySem.W.kitx_float I.kIn True.intro e (fun z=>nomatch z) h
 | @lst a xs ea =>
  cases (show u=Value.ref a from rx)
  obtain ⟨_,_,n,_,h1⟩:=(show Ye X.prog X.w H s.heap a (.lst xs) from I.hok a _ ea)
  exact PySem.W.kia_one PySem.W.kitx_list I.kIn ⟨_,h1,rfl⟩ e (fun z=>nomatch z) h
 | @frz a ob xs ea =>
  cases (show u=Value.ref a from rx)
  obtain ⟨_,_,_,n,_,h1⟩:=(show Ye X.prog X.w H s.heap a (.frz ob (.lst xs)) from I.hok a _ ea)
  exact PySem.W.kia_one PySem.W.kitx_list I.kIn ⟨_,h1,rfl⟩ e (fun z=>nomatch z) h
 | @tup a xs ea =>
  cases (show u=Value.ref a from rx)
  obtain ⟨_,_,_,p⟩:=(show Ye X.prog X.w H s.heap a (.tup xs) from I.hok a _ ea)
  obtain ⟨o,h1,h2,_⟩:=p
  exact PySem.W.kia_one PySem.W.kitx_tuple I.kIn ⟨o,h1,h2⟩ e (fun z=>nomatch z) h
 | @dK a kvs ea =>
  cases (show u=Value.ref a from rx)
  obtain ⟨_,_,vs,_,p⟩:=(show Ye X.prog X.w H s.heap a (.dK kvs) from I.hok a _ ea)
  obtain ⟨o,es,ep,h1,h2,_⟩:=p
  exact PySem.W.kia_one PySem.W.kitx_dict I.kIn ⟨o,h1,h2.1⟩ e (fun z=>nomatch z) h
 | @dT a kvs ea =>
  cases (show u=Value.ref a from rx)
  obtain ⟨_,_,xs,_,o,es,ep,h1,h2,_⟩:=(show Ye X.prog X.w H s.heap a (.dT kvs) from I.hok a _ ea)
  exact PySem.W.kia_one PySem.W.kitx_dict I.kIn ⟨o,h1,h2.1⟩ e (fun z=>nomatch z) h
 | @ins a C dx fs ea cl ha hn htk hm =>
  cases (show u=Value.ref a from rx)
  obtain ⟨mA,O,_⟩:=Of I.hok ea
  obtain ⟨od,J,_⟩:=O.look
  exact PySem.W.kia_one (PySem.W.kitx_own (cl.get _) cl.hd ha hn htk hm) I.kIn J e (fun z=>nomatch z) h
end
end L2
namespace L2
open PySem PySem.Spec PyProof.Rows
structure Room (k:Nat) (A:Around):Prop where
 hd:A.handled=none
 dp:A.depth + 3 * k + 5 < recursionLimit
 un:A.units + 16 * k + 200 < cLine
theorem Room.mono {j k:Nat} {A:Around} (r:Room k A) (h:j≤k):Room j A:=⟨r.hd,by have:=r.dp; omega,by have:=r.un; omega⟩
theorem Room.deeper {k:Nat} {A:Around} (r:Room (k + 1) A) (env:Env):Room k (A.deeper env) :=
 ⟨r.hd,by have:=r.dp; show A.depth + 1 + 3 * k + 5 < _; omega,by have:=r.un; show A.units + 3 + 16 * k + 200 < _; omega⟩
theorem Zfe {A:Around} {C:Addr} {us:List Value} {kw:List (Str × Value)}:(A.under (.builtin "type.__call__" ⟨.ref C :: us,kw⟩)).depth=A.depth + 1:=by
 first | rfl | simp [Around.under,Code.weight,Code.isCreation,Code.isGuard,Code.isCaller,Code.frames,Code.isFrame,guardIds]
theorem Zfd {A:Around} {C:Addr} {us:List Value} {kw:List (Str × Value)}:(A.under (.builtin "type.__call__" ⟨.ref C :: us,kw⟩)).units=A.units + 1:=by
 first | rfl | simp [Around.under,Code.cUnits,Code.frames,Code.isFrame]
theorem Room.make {k:Nat} {A:Around} (r:Room (k + 1) A) (C:Addr) (us:List Value) (kw:List (Str × Value)):Room k (A.under (.builtin "type.__call__" ⟨.ref C :: us,kw⟩)) :=
 ⟨r.hd,by have:=r.dp; rw [Zfe]; omega,by have:=r.un; rw [Zfd]; omega⟩
theorem Room.depth {k:Nat} {A:Around} (r:Room k A):A.depth < recursionLimit:=by have:=r.dp; omega
theorem Room.units {k:Nat} {A:Around} (r:Room k A):A.units + 64 < cLine:=by have:=r.un; omega
noncomputable def tNil:TA:=fun _ H Q=>Q [] H
noncomputable def Zmf (ta:TE) (tr:TA):TA:=fun σ H Q=>ta σ H fun x H1=>tr σ H1 fun xs H2=>Q (x :: xs) H2
section
variable {X:Cx} {e:Expr} {es:List Expr} {te:TE} {t:TA} {pos:Pos}
theorem Zb:PA X [] tNil:=fun _ _ _ _ H Q I h=>Calls.spliced_nil ⟨[],H,I,.nil,h⟩
theorem Za (ha:PE X e te) (hr:PA X es t) (hs:starEach (e :: es) X.env=(false,eval e X.env) :: starEach es X.env:=by rfl):PA X (e :: es) (Zmf te t):=by
 intro pos pins s σ H Q I h
 rw [hs]
 show wpAny _ _ (spliced ((false,eval e X.env) :: backTo pos (starEach es X.env))) _ _ s
 refine Calls.spliced_cons (thn (ha pins s σ H _ I h) fun u s1 zz9=>?_)
 obtain ⟨x,H1,I1,r1,q1⟩:=zz9
 refine thn (hr pos pins s1 σ H1 _ I1 q1) fun us s2 zz11=>?_
 obtain ⟨xs,H2,I2,r2,q2⟩:=zz11
 exact ⟨x :: xs,H2,I2,.cons r1 r2,q2⟩
noncomputable def tTup (t:TA):TE:=fun σ H Q=>t σ H fun xs H1=>xs.length≤sizeLine∧∀ p,H1 p=none→Q (.ref p) (upd H1 p (.tup xs))
noncomputable def tLst (t:TA):TE:=fun σ H Q=>t σ H fun xs H1=>xs.length≤sizeLine∧∀ p,H1 p=none→Q (.ref p) (upd H1 p (.lst xs))
theorem Xn {x1} (h:PA X es t):PE X (.Tuple es x1 pos) (tTup t):=by
 intro pins s σ H Q I hq
 refine wpAny_Tuple_spliced (thn (h pos pins s σ H _ I hq) fun us s1 zz7=>?_)
 obtain ⟨xs,H1,I1,r,z,q⟩:=zz7
 refine ⟨by rw [← r.length]; exact z,?_⟩
 have hf:H1 s1.heap.objs.size=none:=I1.hok.fresh (Nat.le_refl _)
 refine ⟨.ref s1.heap.objs.size,upd H1 s1.heap.objs.size (.tup xs),I1.laid (t':=s1.toks) (fun b u e=>Heap.get?_push_of_some _ e) (Nat.le_refl _) ?_,rfl,q _ hf⟩
 exact ⟨z,us,r,⟨_,Heap.get?_push_size _ rfl,rfl,_,rfl⟩⟩
theorem Y8 (h:PA X es t):PE X (.List es pos) (tLst t):=by
 intro pins s σ H Q I hq
 refine wpAny_List_spliced (thn (h pos pins s σ H _ I hq) fun us s1 zz7=>?_)
 obtain ⟨xs,H1,I1,r,z,q⟩:=zz7
 refine ⟨by rw [← r.length]; exact z,?_⟩
 have hf:H1 s1.heap.objs.size=none:=I1.hok.fresh (Nat.le_refl _)
 refine ⟨.ref s1.heap.objs.size,upd H1 s1.heap.objs.size (.lst xs),I1.laid (t':=s1.toks) (fun b u e=>Heap.get?_push_of_some _ e) (Nat.le_refl _) ?_,rfl,q _ hf⟩
 exact ⟨z,us,0,r,Heap.get?_push_size _ rfl⟩
end
noncomputable abbrev Sp:=List V→Hp→VK→XK→Prop
noncomputable abbrev CXT:=List Env→Hp→Shared→XK→Value→Shared→Prop
structure Env0 (P:Program) (w:World) (K:PySem.W.Frag) (mg:Str→Option Value) (base:Heap) (A:Around) (outer:List Env) (s:Shared) (H:Hp):Prop where
 frames:A.frames=some outer
 mod:Mod K mg base
 bs:∀ b o,base.get? b=some o→s.heap.get? b=some o∧H b=none
 bsz:base.objs.size≤s.heap.objs.size
 funs:s.heap.FunFrames base outer
 frf:∀ b∈frs outer,H b=none
 hok:HOk P w H s.heap
 bare:AllBare s.gens
noncomputable def CE (outer:List Env) (P:Program) (w:World) (H:Hp) (s:Shared) (Q:VK) (u:Value) (s':Shared):Prop :=
 ∃ v H',s'.os=s.os∧AllBare s'.gens∧Un (frs outer) [] H H' s.heap s'.heap∧HOk P w H' s'.heap∧RelV v u∧Q v H'
noncomputable def CR (CX:CXT) (outer:List Env) (P:Program) (w:World) (H:Hp) (s:Shared) (Q:VK) (E:XK) (r:Result) (s':Shared):Prop :=
 match r with
 | .ok (.ret u)=>CE outer P w H s Q u s'
 | .ok _=>False
 | .error e=>CX outer H s E e s'
structure FnOk (P:Program) (w:World) (K:PySem.W.Frag) (mg:Str→Option Value) (base:Heap) (CX:CXT) (k:Nat) (f:Addr) (fd:FuncData) (ps:List Str) (sp:Sp):Prop where
 len:∀ vs H Q E,sp vs H Q E→vs.length=ps.length
 run:∀ (A:Around) (outer:List Env) (s:Shared) (H:Hp) (args:Args) (us:List Value) (vs:List V) (Q:VK) (E:XK),Room k A→Env0 P w K mg base A outer s H→BindsTo s fd args (ps.zip us)→Vals vs us→sp vs H Q E →
  codeAny (model P w) A (.call (.ref f) args) (CR CX outer P w H s Q E) s
theorem Env0.make {P:Program} {w:World} {K:PySem.W.Frag} {mg:Str→Option Value} {base:Heap} {A:Around} {outer:List Env} {s:Shared} {H:Hp} (e:Env0 P w K mg base A outer s H) (C:Addr) (us:List Value) (kw:List (Str × Value)) :
  Env0 P w K mg base (A.under (.builtin "type.__call__" ⟨.ref C :: us,kw⟩)) outer s H:=⟨by first | exact e.frames | (simpa [Around.under,Code.envs,Code.isFrame,pushEnvs] using e.frames),e.mod,e.bs,e.bsz,e.funs,e.frf,e.hok,e.bare⟩
section
variable {X:Cx} {pins:List (Addr × Obj)} {σ:St} {H:Hp} {s s':Shared}
theorem Inv.env0 (I:Inv X pins σ H s):Env0 X.prog X.w X.K X.mg X.base X.A X.stack s H :=
 ⟨I.ok.frames,I.ok.mod,I.bs,Nat.le_trans I.ok.bsz I.sz,I.stack,I.stkFree,I.hok,I.bare⟩
theorem Inv.after {Q:VK} {u:Value} (I:Inv X pins σ H s) (h:CE X.stack X.prog X.w H s Q u s'):EP X pins σ Q u s':=by
 obtain ⟨v,H',os,bare,un,hok,r,q⟩:=h
 obtain ⟨hh,g,d,t,os'⟩:=s'
 obtain rfl:os'=s.os:=os
 exact ⟨v,H',I.call (h':=hh) (g':=g) (d':=d) (t':=t) (ch:=[]) un hok bare (fun b z=>absurd z (by simp)),r,q⟩
end
noncomputable def Zi7 (sp:Sp) (dvs:List V) (E:XK) (t:TA):TE:=fun σ H Q=>t σ H fun vs H1=>sp (vs ++ dvs) H1 Q E
noncomputable def Zi4 (C:Addr) (m:Str) (sp:Sp) (dvs:List V) (E:XK) (ta:TE) (t:TA):TE:=fun σ H Q=>ta σ H fun x H1=>∃ a dx fs,x=.ref a∧H1 a=some (.ins C dx fs)∧fs.lookup m=none ∧
 t σ H1 fun vs H2=>sp (x :: (vs ++ dvs)) H2 Q E
noncomputable def Zmd (C:Addr) (sp:Sp) (dvs:List V) (E:XK) (t:TA):TE:=fun σ H Q=>t σ H fun vs H1=>∀ x dx,H1 x=none→H1 dx=none→dx≠x →
 sp (.ref x :: (vs ++ dvs)) (upd (upd H1 dx (.own x)) x (.ins C dx [])) (fun v H2=>v=.non∧Q (.ref x) H2) E
noncomputable def Wh (K:PySem.W.Frag) (fd:FuncData) (ps:List Str) (ds:List Value):Prop :=
 ∀ (s:Shared) (us:List Value),K.In s.heap→(us ++ ds).length=ps.length→BindsTo s fd ⟨us,[]⟩ (ps.zip (us ++ ds))
theorem Wh.all {K:PySem.W.Frag} {fd:FuncData} {ps:List Str} (h:∀ us:List Value,us.length=ps.length→bindArgs fd ⟨us,[]⟩=pure (ps.zip us)):Wh K fd ps []:=fun s us _ hl=>by
 rw [List.append_nil] at hl ⊢
 exact .of_eq (h us hl)
noncomputable def Qr (CX:CXT) (X:Cx) (E:XK):Prop:=∀ (pins:List (Addr × Obj)) (σ:St) (H:Hp) (s:Shared) (e:Value) (s':Shared),Inv X pins σ H s→CX X.stack H s E e s'→X.xe e s'
section
variable {X:Cx} {CX:CXT} {k:Nat} {f C:Addr} {fd:FuncData} {ps:List Str} {sp:Sp} {dvs:List V} {ds:List Value} {E:XK} {x m:Str} {p pos apos:Pos} {e o:Expr} {es:List Expr} {ta:TE} {t:TA}
theorem Zbx {pins:List (Addr × Obj)} {σ:St} {H:Hp} {s:Shared} {Q:VK} {us:List Value} {vs:List V} (F:FnOk X.prog X.w X.K X.mg X.base CX k f fd ps sp) (hr:Room k X.A) (hb:Wh X.K fd ps ds) (hd:Vals dvs ds) (hx:Qr CX X E)
  (I:Inv X pins σ H s) (r:Vals vs us) (h:sp (vs ++ dvs) H Q E):wpAny (model X.prog X.w) X.A (call (.ref f) us) (EP X pins σ Q) X.xe s:=by
 have r2:Vals (vs ++ dvs) (us ++ ds):=r.append hd
 have hl:(us ++ ds).length=ps.length:=by rw [← r2.length]; exact F.len _ _ _ _ h
 refine wpAny_call (codeAny_mono (F.run X.A X.stack s H ⟨us,[]⟩ (us ++ ds) (vs ++ dvs) Q E hr I.env0 (hb s us I.kIn hl) r2 h) fun r s' hq=>?_)
 cases r with
 | error e=>exact hx pins σ H s e s' I hq
 | ok fl =>
  cases fl with
  | ret u=>exact I.after hq
  | next=>exact False.elim hq
  | brk=>exact False.elim hq
  | cont=>exact False.elim hq
theorem Zke (F:FnOk X.prog X.w X.K X.mg X.base CX k f fd ps sp) (hr:Room k X.A) (hg:Gl X x) (hm:X.mg x=some (.ref f)) (hk:PySem.W.keepIn X.K (.ref f)=true) (hb:Wh X.K fd ps ds) (hd:Vals dvs ds) (hx:Qr CX X E)
  (ha:PA X (e :: es) t) (hdb:(x == ("__debug__":Str))=false:=by decide) (he:starEach (e :: es) X.env=(false,eval e X.env) :: starEach es X.env:=by rfl) (hpl:(backTo pos (starEach es X.env)).any (·.1)=false:=by rfl) :
  PE X (.Call (.Name x p) (e :: es) [] pos) (Zi7 sp dvs E t):=by
 intro pins s σ H Q I h
 refine wpAny_Call_Name_kw (Vn I hg hm ?_ hdb)
 refine PySem.W.callWith_K (h₀:=X.base) I.ok.mod.kin hk (thn (ha pos pins s σ H _ I h) fun us s1 zz12=>?_) he hpl
 obtain ⟨vs,H1,I1,r,q⟩:=zz12
 refine ⟨I1.kIn,?_⟩
 exact Zbx F hr hb hd hx I1 r q
theorem Z3 {pl:Sem Bool} (he:PE X o ta) (c:Cls X.K C) (hm:Meth X.K C m f) (F:FnOk X.prog X.w X.K X.mg X.base CX k f fd ps sp) (hr:Room k X.A) (hb:Wh X.K fd ps ds) (hd:Vals dvs ds) (hx:Qr CX X E) (ha:PA X (e :: es) t)
  (hst:starEach (e :: es) X.env=(false,eval e X.env) :: starEach es X.env:=by rfl) (hpl:(backTo pos (starEach es X.env)).any (·.1)=false:=by rfl)
  (ht:eval (.Call (.Attribute o m apos) (e :: es) [] pos) X.env=(do
   let ov ← eval o X.env
   standAt apos.atName
   let (f,first) ← holding [ov] (getMethod ov m pl)
   callWith pos f first (backTo pos (starEach (e :: es) X.env)) (backToKw pos (keywordEach [] X.env))):=by rfl) :
  PE X (.Call (.Attribute o m apos) (e :: es) [] pos) (Zi4 C m sp dvs E ta t):=by
 intro pins s σ H Q I h
 refine PySem.W.methodCall_KW (pl:=pl) (thn (he pins s σ H _ I h) fun u s1 zz13=>?_) ht
 obtain ⟨x,H1,I1,rx,a,dx,fs,ex,ea,l,q⟩:=zz13
 subst ex
 obtain rfl:u=Value.ref a:=rx
 refine V2 I1 ea c hm l ?_
 refine PySem.W.callWith_K (first:=[.ref a]) (h₀:=X.base) I.ok.mod.kin hm.kp (thn (ha pos pins s1 σ H1 _ I1 q) fun us s2 zz14=>?_) hst hpl
 obtain ⟨vs,H2,I2,r,q2⟩:=zz14
 refine ⟨I2.kIn,?_⟩
 exact Zbx (us:=.ref a :: us) (vs:=.ref a :: vs) F hr hb hd hx I2 (.cons rfl r) q2
theorem Jh {pl:Sem Bool} (he:PE X o ta) (c:Cls X.K C) (hm:Meth X.K C m f) (F:FnOk X.prog X.w X.K X.mg X.base CX k f fd ps sp) (hr:Room k X.A) (hb:Wh X.K fd ps ds) (hd:Vals dvs ds) (hx:Qr CX X E)
  (ht:eval (.Call (.Attribute o m apos) [] [] pos) X.env=(do
   let ov ← eval o X.env
   standAt apos.atName
   let (f,first) ← holding [ov] (getMethod ov m pl)
   callWith pos f first (backTo pos (starEach [] X.env)) (backToKw pos (keywordEach [] X.env))):=by rfl) :
  PE X (.Call (.Attribute o m apos) [] [] pos) (Zi4 C m sp dvs E ta tNil):=by
 intro pins s σ H Q I h
 refine PySem.W.methodCall_KW (pl:=pl) (thn (he pins s σ H _ I h) fun u s1 zz15=>?_) ht
 obtain ⟨x,H1,I1,rx,a,dx,fs,ex,ea,l,q⟩:=zz15
 subst ex
 obtain rfl:u=Value.ref a:=rx
 refine V2 I1 ea c hm l ?_
 exact PySem.W.callWith_K0 (first:=[.ref a]) I1.kIn hm.kp (Zbx (us:=[.ref a]) (vs:=[.ref a]) F hr hb hd hx I1 (.cons rfl .nil) q)
structure Mk (K:PySem.W.Frag) (C f:Addr):Prop where
 makes:PySem.W.makesIn K C=true
 init:PySem.W.findIn K (.ref C) "__init__"=some (some (.ref f))
 fn:PySem.W.isFn K (.ref f)=true
 kp:PySem.W.keepIn K (.ref C)=true
theorem Zh3 {pins:List (Addr × Obj)} {σ:St} {H:Hp} {s:Shared} {Q:VK} {us:List Value} {vs:List V} (M:Mk X.K C f) (F:FnOk X.prog X.w X.K X.mg X.base CX k f fd ps sp) (hr:Room (k + 1) X.A) (hb:Wh X.K fd ps ds) (hd:Vals dvs ds)
  (hx:Qr CX X E) (I:Inv X pins σ H s) (r:Vals vs us)
  (h:∀ x dx,H x=none→H dx=none→dx≠x→sp (.ref x :: (vs ++ dvs)) (upd (upd H dx (.own x)) x (.ins C dx [])) (fun v H2=>v=.non∧Q (.ref x) H2) E) :
  wpAny (model X.prog X.w) X.A (call (.ref C) us) (EP X pins σ Q) X.xe s:=by
 have hq:=h (s.heap.objs.size + 1) s.heap.objs.size (I.hok.fresh (Nat.le_succ _)) (I.hok.fresh (Nat.le_refl _)) (Nat.ne_of_lt (Nat.lt_succ_self _))
 have I2:=Inv.made (C:=C) I
 have r2:Vals (V.ref (s.heap.objs.size + 1) :: (vs ++ dvs)) (Value.ref (s.heap.objs.size + 1) :: (us ++ ds)):=.cons rfl (r.append hd)
 have hl:(Value.ref (s.heap.objs.size + 1) :: us ++ ds).length=ps.length:=by
  have e:=r2.length
  rw [F.len _ _ _ _ hq] at e
  exact e.symm
 refine wpAny_call (Zil (f:=f) I.kIn M.makes M.init (beq_iff_eq.mp M.fn) (codeAny_mono (F.run _ X.stack _ _ ⟨Value.ref (s.heap.objs.size + 1) :: us,[]⟩ (Value.ref (s.heap.objs.size + 1) :: (us ++ ds)) _ _ E (hr.make C us [])
  (I2.env0.make C us []) (hb _ (Value.ref (s.heap.objs.size + 1) :: us) I2.kIn hl) r2 hq) fun r s' hq'=>?_))
 cases r with
 | error e=>exact hx pins σ _ _ e s' I2 hq'
 | ok fl =>
  cases fl with
  | ret u =>
   obtain ⟨v,H',I3,rv,ev,q3⟩:=I2.after hq'
   subst ev
   exact ⟨rv,⟨V.ref (s.heap.objs.size + 1),H',I3,rfl,q3⟩⟩
  | next=>exact False.elim hq'
  | brk=>exact False.elim hq'
  | cont=>exact False.elim hq'
theorem Qa (M:Mk X.K C f) (F:FnOk X.prog X.w X.K X.mg X.base CX k f fd ps sp) (hr:Room (k + 1) X.A) (hg:Gl X x) (hm:X.mg x=some (.ref C)) (hb:Wh X.K fd ps ds) (hd:Vals dvs ds) (hx:Qr CX X E)
  (ha:PA X (e :: es) t) (hdb:(x == ("__debug__":Str))=false:=by decide) (he:starEach (e :: es) X.env=(false,eval e X.env) :: starEach es X.env:=by rfl) (hpl:(backTo pos (starEach es X.env)).any (·.1)=false:=by rfl) :
  PE X (.Call (.Name x p) (e :: es) [] pos) (Zmd C sp dvs E t):=by
 intro pins s σ H Q I h
 refine wpAny_Call_Name_kw (Vn I hg hm ?_ hdb)
 refine PySem.W.callWith_K (h₀:=X.base) I.ok.mod.kin M.kp (thn (ha pos pins s σ H _ I h) fun us s1 zz16=>?_) he hpl
 obtain ⟨vs,H1,I1,r,q⟩:=zz16
 refine ⟨I1.kIn,?_⟩
 exact Zh3 M F hr hb hd hx I1 r q
end
structure FnScope (N P:List Str) (sc:Scope):Prop where
 kind:sc.kind=.function
 co:sc.isCoroutine=false
 gen:sc.isGenerator=false
 nd:N.Nodup
 pre:N.take P.length=P
 par:∀ x∈P,sc.names.lookup x=some .local∨sc.names.lookup x=some .cell
 nofree:∀ y∈sc.names,y.2≠.free
theorem F7 {kindOf:Str→Option NameKind} {x:Str}:∀ {binds:List (Str × Value)} {m:Str→Option Value},(∀ v,(x,v) ∉ binds)→bindL kindOf binds m x=m x
 | [],_,_=>rfl
 | (n,v) :: r,m,h=>by
  unfold bindL
  rw [F7 fun w hw=>h w (List.mem_cons_of_mem _ hw)]
  split
  ·have:x≠n:=by rintro rfl; exact h v List.mem_cons_self
   simp [this]
  ·rfl
theorem F9 {kindOf:Str→Option NameKind} {x:Str}:∀ {binds:List (Str × Value)} {m:Str→Option Value},(∀ v,(x,v) ∉ binds)→bindC kindOf binds m x=m x
 | [],_,_=>rfl
 | (n,v) :: r,m,h=>by
  unfold bindC
  rw [F9 fun w hw=>h w (List.mem_cons_of_mem _ hw)]
  split
  ·rfl
  ·have:x≠n:=by rintro rfl; exact h v List.mem_cons_self
   simp [this]
theorem F8 {kindOf:Str→Option NameKind} {x:Str} {v:Value}:∀ {P:List Str} {vs:List Value} {i:Nat} {m:Str→Option Value},P.Nodup→P[i]?=some x→vs[i]?=some v→kindOf x=some .local →
  bindL kindOf (P.zip vs) m x=some v
 | [],_,_,_,_,h,_,_=>by simp at h
 | _ :: _,[],_,_,_,_,h,_=>by simp at h
 | p :: P,w :: vs,0,m,nd,h1,h2,hk=>by
  simp at h1 h2; subst h1; subst h2
  show bindL kindOf ((p,w) :: P.zip vs) m p=_
  unfold bindL
  rw [F7 fun v hv=>(List.nodup_cons.mp nd).1 (List.of_mem_zip hv).1,if_pos hk]
  simp
 | p :: P,w :: vs,i + 1,m,nd,h1,h2,hk=>by
  show bindL kindOf ((p,w) :: P.zip vs) m x=_
  unfold bindL
  exact F8 (i:=i) (List.nodup_cons.mp nd).2 (by simpa using h1) (by simpa using h2) hk
theorem Zaa {kindOf:Str→Option NameKind} {x:Str} {v:Value}:∀ {P:List Str} {vs:List Value} {i:Nat} {m:Str→Option Value},P.Nodup→P[i]?=some x→vs[i]?=some v→kindOf x≠some .local →
  bindC kindOf (P.zip vs) m x=some v
 | [],_,_,_,_,h,_,_=>by simp at h
 | _ :: _,[],_,_,_,_,h,_=>by simp at h
 | p :: P,w :: vs,0,m,nd,h1,h2,hk=>by
  simp at h1 h2; subst h1; subst h2
  show bindC kindOf ((p,w) :: P.zip vs) m p=_
  unfold bindC
  rw [F9 fun v hv=>(List.nodup_cons.mp nd).1 (List.of_mem_zip hv).1,if_neg hk]
  simp
 | p :: P,w :: vs,i + 1,m,nd,h1,h2,hk=>by
  show bindC kindOf ((p,w) :: P.zip vs) m x=_
  unfold bindC
  exact Zaa (i:=i) (List.nodup_cons.mp nd).2 (by simpa using h1) (by simpa using h2) hk
noncomputable def start (N:List Str) (vs:List V):St:=vs.map some ++ List.replicate (N.length - vs.length) none
noncomputable def cxOf (CX:CXT) (P:Program) (w:World) (K:PySem.W.Frag) (mg:Str→Option Value) (base:Heap) (N:List Str) (qual:Str) (scope:Scope) (f:Addr) (cd:Value) (A:Around) (outer:List Env) (s:Shared) (H:Hp) (E:XK):Cx where
 prog:=P
 w:=w
 K:=K
 mg:=mg
 base:=base
 A:=A.deeper (envOfC qual scope s.heap.objs.size f cd)
 N:=N
 s₀:=s
 H₀:=H
 env:=envOfC qual scope s.heap.objs.size f cd
 outer:=outer
 stack:=envOfC qual scope s.heap.objs.size f cd :: outer
 ex:=[]
 calm:=true
 fn:=fun _=>true
 pn:=[]
 xe:=fun e s'=>wpAny (model P w) (A.deeper (envOfC qual scope s.heap.objs.size f cd)) (leaving (envOfC qual scope s.heap.objs.size f cd) e) (fun _ s''=>CX outer H s E e s'') (fun e' s''=>CX outer H s E e' s'') s'
theorem Zc0 {sc:Scope} {n:Nat} {x:Str} (h:sc.names.lookup x=some .cell):∃ c,(cellsFrom n sc.names []).lookup x=some c:=by
 have q:=PySem.W.cellsFrom_some sc.names n [] (.inl h)
 exact Option.isSome_iff_exists.mp q
theorem Zg8 {CX:CXT} {P:Program} {w:World} {K:PySem.W.Frag} {mg:Str→Option Value} {base:Heap} {N ps:List Str} {qual:Str} {scope:Scope} {f:Addr} {cd:Value} {A:Around} {outer:List Env} {s s1:Shared} {H:Hp} {E:XK} {us:List Value} {vs:List V}
  (S:FnScope N ps scope) (hd:A.handled=none) (e0:Env0 P w K mg base A outer s H) (hl:vs.length=ps.length) (r:Vals vs us)
  (x:InCallC s s.heap.objs.size (bindL (envOfC qual scope s.heap.objs.size f cd).kindOf (ps.zip us) fun _=>none) (cellsFrom (s.heap.objs.size + 1) scope.names []) (bindC (envOfC qual scope s.heap.objs.size f cd).kindOf (ps.zip us) fun _=>none) s1) :
  Inv (cxOf CX P w K mg base N qual scope f cd A outer s H E) [] (start N vs) H s1:=by
 have hpl:ps.length≤N.length:=by have:=congrArg List.length S.pre; rw [List.length_take] at this; omega
 obtain ⟨h1,tk,rfl,hk⟩:=x.done
 have noA:∀ b:Addr,b ∉ (cxOf CX P w K mg base N qual scope f cd A outer s H E).ex:=fun b z=>absurd (show b∈([]:List Addr) from z) (by simp)
 refine ⟨⟨e0.mod,S.kind,rfl,rfl,Nat.le_refl _,fun y z c h1 h2=>?_,fun y hy=>?_,fun y c _ h=>?_,fun _=>hd,Around.frames_deeper e0.frames,.inr ⟨rfl,rfl⟩,fun b z=>absurd z (noA b),e0.bs,e0.bsz,fun b _ _=>noA b,fun b z=>absurd z (noA b),e0.funs,e0.frf⟩,
  rfl,e0.bare,Un.kept hk,⟨_,x.toInCall.ns,fun i y v h1 h2 h3=>?_⟩,fun y c h=>⟨_,x.cell y c h⟩,e0.hok.fresh (Nat.le_refl _),fun y c h=>?_,fun p hp=>absurd (show p∈([]:List (Addr × Obj)) from hp) (by simp),e0.hok.kept hk,?_⟩
 ·exact name_of_addr x.apart (PySem.mem_of_lookup h1) (PySem.mem_of_lookup h2)
 ·have hy:scope.names.lookup y=some .cell∨scope.names.lookup y=some .free:=hy
  rcases hy with hy | hy
  ·exact Zc0 hy
  ·exact absurd rfl (S.nofree _ (PySem.mem_of_lookup hy))
 ·exact Nat.le_of_lt (x.above y c (PySem.mem_of_lookup h))
 ·have hi:i < vs.length:=by
   unfold start at h2
   by_cases hi:i < vs.length
   ·exact hi
   ·rw [List.getElem?_append_right (by simpa using hi)] at h2
    rw [List.getElem?_replicate] at h2
    split at h2 <;> cases h2
  have ha:vs[i]?=some v:=by
   unfold start at h2
   rw [List.getElem?_append_left (by simpa using hi),List.getElem?_map] at h2
   cases e:vs[i]? with
   | none=>rw [e] at h2; cases h2
   | some a=>rw [e] at h2; cases h2; rfl
  obtain ⟨u,hu,rv⟩:=r.get ha
  have hp:ps[i]?=some y:=by
   rw [← S.pre,List.getElem?_take_of_lt (by omega)]; exact h1
  have ndP:ps.Nodup:=by rw [← S.pre]; exact S.nd.sublist (List.take_sublist _ _)
  refine ⟨u,rv,?_⟩
  rcases S.par y (List.mem_of_getElem? hp) with k | k
  ·exact .inl ⟨k,F8 ndP hp hu k⟩
  ·obtain ⟨c,e⟩:=Zc0 (n:=s.heap.objs.size + 1) k
   refine .inr ⟨.inl k,c,e,?_⟩
   have q:=x.cell y c e
   rw [Zaa ndP hp hu (by show scope.names.lookup y≠_; rw [k]; decide)] at q
   exact q
 ·exact e0.hok.fresh (Nat.le_of_lt (x.above y c (PySem.mem_of_lookup h)))
 ·unfold start
  show _=N.length
  rw [List.length_append,List.length_map,List.length_replicate]
  omega
theorem Zjc {CX:CXT} {P:Program} {w:World} {K:PySem.W.Frag} {mg:Str→Option Value} {base:Heap} {k:Nat} {f:Addr} {name qual:Str} {params:Arguments} {body:List Stmt} {scope:Scope} {dV kV doc pm cdv ct oc:Value} {an od:Option Addr}
  {osl:Array (Option Value)} {N ps:List Str} {sp:Sp} (lk:K.lookup f=some ⟨oc,od,.func (PySem.W.fnOf name qual params body scope dV kV doc pm an cdv ct),osl⟩) (hcd:PySem.W.codeIn K cdv qual=true) (S:FnScope N ps scope)
  (len:∀ vs H Q E,sp vs H Q E→vs.length=ps.length)
  (hbody:∀ (A:Around) (outer:List Env) (s:Shared) (H:Hp) (vs:List V) (Q:VK) (E:XK),Room k (A.deeper (envOfC qual scope s.heap.objs.size f cdv))→sp vs H Q E →
   ∃ t,PSs (cxOf CX P w K mg base N qual scope f cdv A outer s H E) body t∧t { nx:=fun _ H'=>Q .non H',rt:=Q } (start N vs) H) :
  FnOk P w K mg base CX (k + 1) f (PySem.W.fnOf name qual params body scope dV kV doc pm an cdv ct) ps sp:=by
 refine ⟨len,fun A outer s H args us vs Q E hr e0 hb r hsp=>?_⟩
 have hl:=len _ _ _ _ hsp
 have KX:K.In s.heap:=e0.mod.kin.keeps fun b o e=>(e0.bs b o e).1
 have lim:s.heap.NoLimit:=e0.mod.nolimit.keeps fun b o e=>(e0.bs b o e).1
 have hkind:∀ y∈ps.zip us,scope.names.lookup y.1=some .local∨(scope.names.lookup y.1=some .cell∧((cellsFrom (s.heap.objs.size + 1) scope.names []).lookup y.1).isSome=true):=fun ⟨n,v⟩ hy=>by
  rcases S.par n (List.of_mem_zip hy).1 with q | q
  ·exact .inl q
  ·exact .inr ⟨q,PySem.W.cellsFrom_some _ _ _ (.inl q)⟩
 refine codeAny_call_function hr.depth (KX _ _ lk) rfl S.co S.gen rfl (PySem.W.codeRec_of KX hcd) (hb _ _ _ _ ?_)
 refine wpAny_newFunctionEnv_cells S.kind hkind fun env he s1 x=>?_
 subst he
 refine ⟨lim.keeps x.toInCall.keep,codeAny_func ?_⟩
 obtain ⟨t,ht,hq⟩:=hbody A outer s H vs Q E (hr.deeper _) hsp
 have I:Inv (cxOf CX P w K mg base N qual scope f cdv A outer s H E) [] (start N vs) H s1:=Zg8 S hr.hd e0 hl r x
 refine wpAny_mono (ht [] s1 (start N vs) H _ I hq) (fun fl s' hs=>?_) fun e s' hs=>hs
 have fin:∀ {σ':St} {H':Hp} {v:V} {u:Value},Inv (cxOf CX P w K mg base N qual scope f cdv A outer s H E) [] σ' H' s'→RelV v u→Q v H'→CE outer P w H s Q u s' :=
  fun {σ' H' v u} J rv q=>⟨v,H',J.os,J.bare,J.base,J.hok,rv,q⟩
 cases fl with
 | ret u =>
  obtain ⟨v,σ',H',J,rv,q⟩:=hs
  exact fin J rv q
 | next =>
  obtain ⟨σ',H',J,q⟩:=hs
  exact fin (v:=V.non) (u:=Value.none) J rfl q
 | brk =>
  obtain ⟨_,_,_,q⟩:=hs
  exact False.elim q
 | cont =>
  obtain ⟨_,_,_,q⟩:=hs
  exact False.elim q
end L2
namespace L2
open PySem PySem.Spec PyProof.Rows
section
variable {X:Cx} {x:Str} {p pos:Pos} {e:Expr} {es:List Expr} {t:TA} {id T:String} {r:List V→Hp→VK→Prop}
noncomputable def tCB (r:List V→Hp→VK→Prop) (t:TA):TE:=fun σ H Q=>t σ H fun vs H1=>r vs H1 Q
theorem Zo (hc:Xt X (.builtin id) r) (hg:Gl X x) (hm:X.mg x=none) (hv:bootBuiltins x=some (.builtin id)) (ha:PA X (e :: es) t) (hn:x≠"__name__":=by decide) (hdb:(x == ("__debug__":Str))=false:=by decide)
  (he:starEach (e :: es) X.env=(false,eval e X.env) :: starEach es X.env:=by rfl) (hpl:(backTo pos (starEach es X.env)).any (·.1)=false:=by rfl):PE X (.Call (.Name x p) (e :: es) [] pos) (tCB r t):=by
 intro pins s σ H Q I h
 refine wpAny_Call_Name_kw (Xs I hg hm hv ?_ hn hdb)
 refine PyProof.Rows.callWith_builtin1 (thn (ha pos pins s σ H _ I h) fun us s1 zz17=>?_) he hpl
 obtain ⟨vs,H1,I1,r1,q1⟩:=zz17
 exact hc pins s1 σ H1 vs us Q I1 r1 q1
theorem Yx (hc:Xt X (.type T) r) (hg:Gl X x) (hm:X.mg x=none) (hv:bootBuiltins x=some (.type T)) (ha:PA X (e :: es) t) (hn:x≠"__name__":=by decide) (hdb:(x == ("__debug__":Str))=false:=by decide)
  (he:starEach (e :: es) X.env=(false,eval e X.env) :: starEach es X.env:=by rfl) (hpl:(backTo pos (starEach es X.env)).any (·.1)=false:=by rfl):PE X (.Call (.Name x p) (e :: es) [] pos) (tCB r t):=by
 intro pins s σ H Q I h
 refine wpAny_Call_Name_kw (Xs I hg hm hv ?_ hn hdb)
 refine PyProof.Rows.callWith_type1 (thn (ha pos pins s σ H _ I h) fun us s1 zz18=>?_) he hpl
 obtain ⟨vs,H1,I1,r1,q1⟩:=zz18
 exact hc pins s1 σ H1 vs us Q I1 r1 q1
end
end L2
namespace HT
open PySem PyProof.Rows
noncomputable def lexLt:List Int→List Int→Bool
 | [],[]=>false
 | [],_ :: _=>true
 | _ :: _,[]=>false
 | x :: xs,y :: ys=>if x=y then lexLt xs ys else decide (x < y)
theorem J8 (x y:Int) (xs ys:List Int):lexLt (x :: xs) (y :: ys)=if x=y then lexLt xs ys else decide (x < y):=rfl
theorem Uf:lexLt [] []=false:=rfl
theorem Jl (y:Int) (ys:List Int):lexLt [] (y :: ys)=true:=rfl
theorem Wo (x:Int) (xs:List Int):lexLt (x :: xs) []=false:=rfl
theorem Zi2 (A:Around) (s:Shared) (a:Int) (t:Tok) (c:Int) (u:Tok):∃ e,SeqAt.EqAt A s (.int a t) (.int c u) e∧(e=true ↔ a=c) :=
 ⟨(a == c),SeqAt.EqAt.int_int a t c u,by simp⟩
theorem Zh6 (A:Around) (s:Shared) (a:Int) (t:Tok) (c:Int) (u:Tok) (prog:Program) (w:World) (E:Value→Shared→Prop) (Q:Value→Shared→Prop) (h:Q (.bool (decide (a < c))) s) :
  wpAny (model prog w) A (richCompare .Lt (.int a t) (.int c u)) Q E s :=
 (PyProof.Rows.lt_int h:wpAny (model prog w) A (compareOp .Lt (.int a t) (.int c u)) Q E s)
section
variable {prog:Program} {w:World} {A:Around} {E:Value→Shared→Prop} {s:Shared}
noncomputable def sIx (n d:Nat):Option Int→Nat
 | none=>d
 | some v=>if v < 0 then (v + (n:Int)).toNat else min v.toNat n
theorem sIx_none (n d:Nat):sIx n d none=d:=rfl
theorem sIx_nat (n d k:Nat):sIx n d (some (k:Int))=min k n:=by
 show (if (k:Int) < 0 then ((k:Int) + (n:Int)).toNat else min (k:Int).toNat n)=min k n
 rw [if_neg (by omega),Int.toNat_natCast]
end
end HT
namespace L2
open PySem PySem.Spec PyProof.Rows
noncomputable abbrev TO:=St→Hp→(Option Int→Hp→Prop)→Prop
noncomputable def PO (X:Cx) (e:Option Expr) (t:TO):Prop :=
 ∀ (pins:List (Addr × Obj)) (s:Shared) (σ:St) (H:Hp) (Q:Option Int→Hp→Prop),Inv X pins σ H s→t σ H Q →
  wpAny (model X.prog X.w) X.A (evalPart e X.env) (fun u s'=>∃ o H',Inv X pins σ H' s'∧IsPart u o∧Q o H') X.xe s
noncomputable def Zjl:TO:=fun _ H Q=>Q none H
noncomputable def Zmb (t:TE):TO:=fun σ H Q=>t σ H fun x H1=>∃ i,x=.int i∧Q (some i) H1
theorem W7 {ns:List Int}:∀ {us:List Value},Vals (ns.map V.int) us→IntsAre us ns:=by
 induction ns with
 | nil=>intro us r; rw [List.map_nil] at r; cases r; exact .nil
 | cons n ns ih =>
  intro us r
  rw [List.map_cons] at r
  cases r with
  | cons r1 r2 =>
   obtain ⟨t,e⟩:=r1
   subst e
   exact .cons n t (ih r2)
section
variable {X:Cx} {e:Expr} {te:TE} {lo hi:Option Expr} {tl th:TO} {pos p2:Pos}
theorem Wm:PO X none Zjl:=by
 intro pins s σ H Q I h
 rw [evalPart_none]
 exact wpAny_pure ⟨none,H,I,.none,h⟩
theorem X0 (h:PE X e te):PO X (some e) (Zmb te):=by
 intro pins s σ H Q I hw
 rw [evalPart_some]
 refine thn (h pins s σ H _ I hw) fun u s1 zz9=>?_
 obtain ⟨x,H1,I1,r1,q1⟩:=zz9
 obtain ⟨i,rfl,q⟩:=q1
 obtain ⟨t,rfl⟩:=r1
 exact ⟨some i,H1,I1,.int i t,q⟩
noncomputable def SlR (X:Cx) (r:V→Option Int→Option Int→Hp→VK→Prop):Prop :=
 ∀ (pins:List (Addr × Obj)) (s:Shared) (σ:St) (H:Hp) (x:V) (v vl vu:Value) (lo hi:Option Int) (sl:Addr) (Q:VK),Inv X pins σ H s→RelV x v→s.heap.IsSliceOf sl vl vu .none→IsPart vl lo→IsPart vu hi→r x lo hi H Q →
  ∃ T id,typeLookup (.type T) "__getitem__"=pure (some (.builtin id))∧s.TypeIs v T∧wpAny (model X.prog X.w) X.A (getItem v (.ref sl)) (EP X pins σ Q) X.xe s
noncomputable def tSl (r:V→Option Int→Option Int→Hp→VK→Prop) (te:TE) (tl th:TO):TE:=fun σ H Q=>te σ H fun x H1=>tl σ H1 fun l H2=>th σ H2 fun u H3=>r x l u H3 Q
theorem Xu {r:V→Option Int→Option Int→Hp→VK→Prop} (hr:SlR X r) (he:PE X e te) (hl:PO X lo tl) (hu:PO X hi th):PE X (.Subscript e (.Slice lo hi none p2) pos) (tSl r te tl th):=by
 intro pins s σ H Q I h
 refine Subscript_ (thn (he pins s σ H _ I h) fun v s1 zz9=>?_)
 obtain ⟨x,H1,I1,r1,q1⟩:=zz9
 refine wpAny_Slice (thn (hl pins s1 σ H1 _ I1 q1) fun vl s2 zz19=>?_)
 obtain ⟨l,H2,I2,pl,q2⟩:=zz19
 refine thn (hu pins s2 σ H2 _ I2 q2) fun vu s3 zz9=>?_
 obtain ⟨u,H3,I3,pu,q3⟩:=zz9
 rw [evalPart_none]
 refine wpAny_pure ?_
 have I4:Inv X pins σ H3 { s3 with heap:=s3.heap.push { cls:=.type "slice",data:=.fields #[vl,vu,.none] } }:=I3.kept (t':=s3.toks) fun b ob q=>Heap.get?_push_of_some _ q
 obtain ⟨T,id,hT,ht,hg⟩:=hr pins { s3 with heap:=s3.heap.push { cls:=.type "slice",data:=.fields #[vl,vu,.none] } } σ H3 x v vl vu l u s3.heap.objs.size Q I4 r1 (Heap.IsSliceOf.new ..) pl pu q3
 show wpAny (model X.prog X.w) X.A (subscriptTail e (.Slice lo hi none p2) v (.ref s3.heap.objs.size)) (EP X pins σ Q) X.xe { s3 with heap:=s3.heap.push { cls:=.type "slice",data:=.fields #[vl,vu,.none] } }
 exact tail_any (ops:=[.ref s3.heap.objs.size,v]) ht hT hg (by with_unfolding_all rfl)
noncomputable def cutV (xs:List V) (lo hi:Option Int):List V:=(xs.drop (HT.sIx xs.length 0 lo)).take (HT.sIx xs.length xs.length hi - HT.sIx xs.length 0 lo)
theorem Zdn (xs:List V) (lo hi:Option Int):(cutV xs lo hi).length≤xs.length:=by
 unfold cutV
 rw [List.length_take,List.length_drop]
 omega
end
end L2
namespace L2
open PySem PySem.Spec PyProof.Rows
noncomputable def ixN (n:Nat) (i:Int):Option Nat:=if 0≤i then (if i < n then some i.toNat else none) else if -(n:Int)≤i then some (i + n).toNat else none
noncomputable def atI {α:Type} (xs:List α) (i:Int):Option α:=(ixN xs.length i).bind fun j=>xs[j]?
theorem Zec {n:Nat} {i:Int} {j:Nat} (h:ixN n i=some j):seqIndex? i n=some j∧j < n∧-(n:Int)≤i∧i < n:=by
 unfold ixN at h
 by_cases h0:0≤i
 ·rw [if_pos h0] at h
  by_cases h1:i < n
  ·rw [if_pos h1] at h
   have e:i.toNat=j:=Option.some.inj h
   exact ⟨by rw [seqIndex_of h0 h1,e],by omega,by omega,h1⟩
  ·rw [if_neg h1] at h; cases h
 ·rw [if_neg h0] at h
  by_cases h1:-(n:Int)≤i
  ·rw [if_pos h1] at h
   have e:(i + n).toNat=j:=Option.some.inj h
   exact ⟨by rw [seqIndex_neg (by omega) h1,e],by omega,h1,by omega⟩
  ·rw [if_neg h1] at h; cases h
theorem Zek {α:Type} {xs:List α} {i:Int} {v:α} (h:atI xs i=some v):∃ j,seqIndex? i xs.length=some j∧xs[j]?=some v∧j < xs.length∧-(xs.length:Int)≤i∧i < xs.length:=by
 unfold atI at h
 cases e:ixN xs.length i with
 | none=>rw [e] at h; cases h
 | some j =>
  rw [e] at h
  obtain ⟨h1,h2,h3,h4⟩:=Zec e
  exact ⟨j,h1,h,h2,h3,h4⟩
theorem X4 {α:Type} {xs:List α} {j:Nat} {v:α} (h:xs[j]?=some v):atI xs (j:Int)=some v:=by
 have hj:j < xs.length:=(List.getElem?_eq_some_iff.mp h).1
 have e:ixN xs.length (j:Int)=some j:=by
  unfold ixN
  rw [if_pos (by omega),if_pos (by omega)]; simp
 unfold atI; rw [e]; exact h
noncomputable def Zkx (b:Expr):Prop:=∀ o i,subscripted b false o i=operate [o,i] (getItem o i)
noncomputable def IxR (X:Cx) (r:R2):Prop :=
 ∀ (value slice:Expr) (pins:List (Addr × Obj)) (s:Shared) (σ:St) (H:Hp) (x y:V) (v u:Value) (Q:VK),Inv X pins σ H s→RelV x v→RelV y u→r x y H Q →
  subscripted slice false v u=operate [v,u] (getItem v u)→wpAny (model X.prog X.w) X.A (subscriptTail value slice v u) (EP X pins σ Q) X.xe s
noncomputable def MtR (X:Cx) (id:String) (r:V→List V→Hp→VK→Prop):Prop :=
 ∀ (pins:List (Addr × Obj)) (s:Shared) (σ:St) (H:Hp) (x:V) (xs:List V) (v:Value) (us:List Value) (Q:VK),Inv X pins σ H s→RelV x v→Vals xs us→r x xs H Q →
  wpAny (model X.prog X.w) X.A (call (.builtin id) (v :: us)) (EP X pins σ Q) X.xe s
section
variable {X:Cx} {a b:Expr} {ta tb:TE} {pos:Pos}
theorem Zv {r:R2} (hr:IxR X r) (ha:PE X a ta) (hb:PE X b tb) (hs:Zkx b):PE X (.Subscript a b pos) (tOp r ta tb):=by
 intro pins s σ H Q I h
 exact Subscript_ (binT ha hb I h fun v u s2 x y H2 I2 rx ry q=>hr a b pins s2 σ H2 x y v u Q I2 rx ry q (hs _ _))
noncomputable def rIxL (K:PySem.W.Frag):R2:=fun x y H Q=>∃ p xs i v,x=.ref p∧y=.int i∧SqL K H p xs∧atI xs i=some v∧Q v H
noncomputable def rIxT (K:PySem.W.Frag):R2:=fun x y H Q=>∃ p xs i v,x=.ref p∧y=.int i∧SqT K H p xs∧atI xs i=some v∧Q v H
theorem Zw:IxR X (rIxL X.K):=by
 intro value slice pins s σ H x y v u Q I rx ry h hs
 obtain ⟨p,xs,i,z,rfl,rfl,hq,he,q⟩:=h
 cases rx
 obtain ⟨t,rfl⟩:=ry
 obtain ⟨its,r,pl,hz⟩:=I.list hq
 obtain ⟨j,h1,h2,h3,h4,h5⟩:=Zek he
 obtain ⟨w,ew,rw'⟩:=r.get h2
 have hl:=r.length
 have hn:=Vm
 have fin:EP X pins σ Q w s:=⟨z,H,I,rw',q⟩
 by_cases h0:0≤i
 ·have hj:i.toNat=j:=by
   rw [seqIndex_of h0 h5] at h1
   exact Option.some.inj h1
  exact item_listR pl.isList h0 (by omega) (by rw [hj]; simpa using ew) fin hs
 ·have hj:(i + (its.toArray.size:Int)).toNat=j:=by
   rw [seqIndex_neg (by omega) h4] at h1
   rw [List.size_toArray,← hl]
   exact Option.some.inj h1
  exact subscriptTail_builtinR (x:=w) pl.isList.typeIs slot_list_getitem.lookup
   (wpAny_getItem_list_neg (Q:=fun r s'=>r=w∧EP X pins σ Q r s') pl.isList (by omega) (by rw [List.size_toArray] <;> omega) (by omega) (by rw [hj]; simpa using ew) ⟨rfl,fin⟩) hs
theorem Wj:IxR X (rIxT X.K):=by
 intro value slice pins s σ H x y v u Q I rx ry h hs
 obtain ⟨p,xs,i,z,rfl,rfl,hq,he,q⟩:=h
 cases rx
 obtain ⟨t,rfl⟩:=ry
 obtain ⟨its,r,pl,hz⟩:=I.tuple hq
 obtain ⟨j,h1,h2,h3,h4,h5⟩:=Zek he
 obtain ⟨w,ew,rw'⟩:=r.get h2
 have hl:=r.length
 have hn:=Vm
 have fin:EP X pins σ Q w s:=⟨z,H,I,rw',q⟩
 exact subscriptTail_builtinR (x:=w) pl.typeIs slot_tuple_getitem.lookup
  (getItem_tuple (j:=j) (Q:=fun r s'=>r=w∧EP X pins σ Q r s') pl (by omega) (by omega) (by rw [List.size_toArray,← hl]; exact h1) (by simpa using ew) ⟨rfl,fin⟩) hs
theorem Zfc (its:List Value) (n j:Nat) (u:Value):Obj.mapSeq (·.setIfInBounds j u) { cls:=.type "list",data:=.seq its.toArray n }={ cls:=.type "list",data:=.seq (its.set j u).toArray n }:=by
 simp [Obj.mapSeq]
theorem Inv.lst {pins:List (Addr × Obj)} {σ:St} {H:Hp} {s:Shared} {p:Addr} {xs:List V} (I:Inv X pins σ H s) (h:H p=some (.lst xs)) :
  ∃ (its:List Value) (n:Nat),Vals xs its∧s.heap.get? p=some { cls:=.type "list",data:=.seq its.toArray n }∧xs.length≤sizeLine:=by
 obtain ⟨z,its,n,r,e⟩:=I.hok p _ h
 exact ⟨its,n,r,e,z⟩
theorem Inv.lstUpd {pins:List (Addr × Obj)} {σ:St} {H:Hp} {s:Shared} {p:Addr} {xs ys:List V} {its its':List Value} {n n':Nat} {f:Obj→Obj} (I:Inv X pins σ H s) (h:H p=some (.lst xs))
  (ho:s.heap.get? p=some { cls:=.type "list",data:=.seq its.toArray n }) (hf:f { cls:=.type "list",data:=.seq its.toArray n }={ cls:=.type "list",data:=.seq its'.toArray n' }) (r:Vals ys its') (hz:ys.length≤sizeLine) (t:Nat) :
  Inv X pins σ (upd H p (.lst ys)) { s with heap:=s.heap.update p f,toks:=t }:=by
 have e:(s.heap.update p f).get? p=some { cls:=.type "list",data:=.seq its'.toArray n' }:=by
  rw [Heap.get?_update_self f ho (by rw [hf] <;> rfl),hf]
 refine I.write (x:=p) (e:=p) (by rw [h]; trivial) (.inl rfl) (fun b u hb q=>(Heap.get?_update_other _ _ (Ne.symm hb)).trans q) ⟨_,e⟩ ?_
 exact ⟨hz,its',n',r,e⟩
noncomputable def Zmk:V→V→V→Hp→(Hp→Prop)→Prop:=fun o i v H Q=>∃ p xs k j,o=.ref p∧i=.int k∧H p=some (.lst xs)∧ixN xs.length k=some j∧Q (upd H p (.lst (xs.set j v)))
theorem Vr:PSet X Zmk:=by
 intro pins s σ H o i v ov iv u Q I ro ri rv h
 obtain ⟨p,xs,k,j,rfl,rfl,hp,hj,q⟩:=h
 cases ro
 obtain ⟨t,rfl⟩:=ri
 obtain ⟨its,n,r,ho,hz⟩:=I.lst hp
 obtain ⟨h1,h2,h3,h4⟩:=Zec hj
 have hl:=r.length
 have hn:=Vm
 have I':Inv X pins σ (upd H p (.lst (xs.set j v))) { s with heap:=s.heap.update p (Obj.mapSeq (·.setIfInBounds j u)) } :=
  I.lstUpd hp ho (Zfc its n j u) (r.set rv j) (by rw [List.length_set]; exact hz) s.toks
 by_cases h0:0≤k
 ·have hk:k.toNat=j:=by
   rw [seqIndex_of h0 h4] at h1
   exact Option.some.inj h1
  exact PySem.W.ki_setAt ho h0 (by omega) (by rw [List.size_toArray,← hl]; exact h4) (by rw [hk]; exact ⟨_,I',q⟩)
 ·have hk:(k + (its.toArray.size:Int)).toNat=j:=by
   rw [seqIndex_neg (by omega) h3] at h1
   rw [List.size_toArray,← hl]
   exact Option.some.inj h1
  exact PySem.W.ki_setBack ho (by omega) (by rw [List.size_toArray,← hl]; exact h3) (by omega) (by rw [hk]; exact ⟨_,I',q⟩)
theorem Zbe (lo hi:Option Int) (n:Nat):(sliceBounds lo hi none n).1=((HT.sIx n 0 lo:Nat):Int)∧(sliceBounds lo hi none n).2.1=((HT.sIx n n hi:Nat):Int)∧(sliceBounds lo hi none n).2.2=1:=by
 refine ⟨?_,?_,rfl⟩
 ·cases lo with
  | none=>simp [sliceBounds,HT.sIx]
  | some i =>
   simp only [sliceBounds,HT.sIx,Option.getD_none,show (1:Int) > 0 by decide,if_true]
   by_cases h:i < 0
   ·simp only [h,if_true] <;> omega
   ·simp only [h,if_false] <;> omega
 ·cases hi with
  | none=>simp [sliceBounds,HT.sIx]
  | some i =>
   simp only [sliceBounds,HT.sIx,Option.getD_none,show (1:Int) > 0 by decide,if_true]
   by_cases h:i < 0
   ·simp only [h,if_true] <;> omega
   ·simp only [h,if_false] <;> omega
theorem Zal (its:List Value) (lo hi:Option Int):slicePick its.toArray lo hi none=((its.drop (HT.sIx its.length 0 lo)).take (HT.sIx its.length its.length hi - HT.sIx its.length 0 lo)).toArray:=by
 obtain ⟨h1,h2,h3⟩:=Zbe lo hi its.toArray.size
 unfold slicePick
 rw [h1,h2,h3]
 simp only [sliceRange_one,pick_run,List.size_toArray] <;> rfl
noncomputable def rSlL (K:PySem.W.Frag):V→Option Int→Option Int→Hp→VK→Prop:=fun x lo hi H Q=>∃ a xs,x=.ref a∧SqL K H a xs∧∀ p,H p=none→Q (.ref p) (upd H p (.lst (cutV xs lo hi)))
theorem Jb:SlR X (rSlL X.K):=by
 intro pins s σ H x v vl vu lo hi sl Q I rx hs pl pu h
 obtain ⟨a,xs,rfl,hx,q⟩:=h
 cases rx
 obtain ⟨its,r,ht,hz⟩:=I.list hx
 have hlen:=r.length
 refine ⟨"list",_,slot_list_getitem.lookup,ht.isList.typeIs,?_⟩
 refine wpAny_getItem_list_slice ht.isList hs pl pu .none (by simp) ?_ (by rw [List.size_toArray] <;> omega)
 rw [Zal,← hlen]
 refine ⟨.ref s.heap.objs.size,_,I.laid (t':=s.toks) (o:=.lst (cutV xs lo hi)) (fun b ob q=>Heap.get?_push_of_some _ q) (Nat.le_refl _) ?_,rfl,q _ (I.hok.fresh (Nat.le_refl _))⟩
 exact ⟨Nat.le_trans (Zdn xs lo hi) hz,_,0,(r.drop (HT.sIx xs.length 0 lo)).take (HT.sIx xs.length xs.length hi - HT.sIx xs.length 0 lo),Heap.get?_push_size _ rfl⟩
theorem Zm:Xt X (.builtin "len") (fun xs H Q=>∃ p ys,xs=[.ref p]∧(SqL X.K H p ys∨SqT X.K H p ys)∧Q (.int ys.length) H):=by
 intro pins s σ H xs us Q I r h
 obtain ⟨p,ys,rfl,hq,q⟩:=h
 obtain ⟨u,rfl,rx⟩:=Xw r
 cases rx
 have hn:=Vm
 rcases hq with hq | hq
 ·obtain ⟨its,r',pl,hz⟩:=I.list hq
  have hlen:=r'.length
  exact Calls.call_len_list pl.isList (by simp only [List.size_toArray] <;> omega) ⟨.int ys.length,H,I.tok _,⟨s.toks + 1,by rw [List.size_toArray,hlen]⟩,q⟩
 ·obtain ⟨its,r',pl,hz⟩:=I.tuple hq
  have hlen:=r'.length
  exact len_tuple pl (by simp only [List.size_toArray] <;> omega) ⟨.int ys.length,H,I.tok _,⟨s.toks + 1,by rw [List.size_toArray,hlen]⟩,q⟩
theorem Zc2:Xt X (.builtin "len") (fun xs H Q=>∃ z,xs=[.str z]∧z.length≤sizeLine∧Q (.int z.length) H):=by
 intro pins s σ H xs us Q I r h
 obtain ⟨z,rfl,hz,q⟩:=h
 obtain ⟨u,rfl,t,rfl⟩:=Xw r
 have hn:=Vm
 exact len_str (by omega) ⟨.int z.length,H,I.tok _,⟨_,rfl⟩,q⟩
theorem Xb:Xt X (.type "list") (fun xs H Q=>∃ p ys,xs=[.ref p]∧(SqL X.K H p ys∨SqT X.K H p ys)∧∀ l,H l=none→Q (.ref l) (upd H l (.lst ys))):=by
 intro pins s σ H xs us Q I r h
 obtain ⟨p,ys,rfl,hq,q⟩:=h
 obtain ⟨u,rfl,rx⟩:=Xw r
 cases rx
 have fin:∀ (its:List Value),Vals ys its→ys.length≤sizeLine→∀ (h':Heap) (c':Nat),(∀ b o',s.heap.get? b=some o'→h'.get? b=some o') →
   h'.get? s.heap.objs.size=some { cls:=.type "list",dict:=none,data:=.seq its.toArray c',slots:=#[] }→EP X pins σ Q (.ref s.heap.objs.size) { s with heap:=h' }:=fun its r' hz h' c' kp e =>
  ⟨.ref s.heap.objs.size,_,I.laid (t':=s.toks) kp (Nat.le_refl _) (show Ye X.prog X.w _ h' _ (.lst ys) from ⟨hz,its,c',r',e⟩),rfl,q _ (I.hok.fresh (Nat.le_refl _))⟩
 rcases hq with hq | hq
 ·obtain ⟨its,r',pl,hz⟩:=I.list hq
  have hlen:=r'.length
  obtain ⟨o,ho,hc,n,hd⟩:=pl.isList
  exact call_list_seq p (.inl rfl) ho hc hd (fun h' c' kp e=>fin its r' hz h' c' kp e) (by simp only [List.size_toArray] <;> omega)
 ·obtain ⟨its,r',pl,hz⟩:=I.tuple hq
  have hlen:=r'.length
  obtain ⟨o,ho,hc,n,hd⟩:=pl
  exact call_list_seq p (.inr rfl) ho hc hd (fun h' c' kp e=>fin its r' hz h' c' kp e) (by simp only [List.size_toArray] <;> omega)
theorem Zax:Xt X (.type "tuple") (fun xs H Q=>∃ p ys,xs=[.ref p]∧((SqL X.K H p ys∧∀ l,H l=none→Q (.ref l) (upd H l (.tup ys)))∨(SqT X.K H p ys∧Q (.ref p) H))):=by
 intro pins s σ H xs us Q I r h
 obtain ⟨p,ys,rfl,h⟩:=h
 obtain ⟨u,rfl,rx⟩:=Xw r
 cases rx
 rcases h with ⟨hq,q⟩ | ⟨hq,q⟩
 ·obtain ⟨its,r',pl,hz⟩:=I.list hq
  have hlen:=r'.length
  refine call_tuple_list pl.isList (fun h' kp=>?_) (by simp only [List.size_toArray] <;> omega)
  have I1:Inv X pins σ H { s with heap:=h' }:=I.kept (t':=s.toks) kp
  have I2:Inv X pins σ (upd H h'.objs.size (.tup ys)) { s with heap:=h'.push { cls:=.type "tuple",data:=.seq its.toArray } } :=
   I1.laid (t':=s.toks) (fun b o e=>Heap.get?_push_of_some _ e) (Nat.le_refl _) (show Ye X.prog X.w _ _ _ (.tup ys) from ⟨hz,its,r',IsTup.new _ _⟩)
  exact ⟨.ref h'.objs.size,_,I2,rfl,q _ (I1.hok.fresh (Nat.le_refl _))⟩
 ·obtain ⟨its,r',pl,hz⟩:=I.tuple hq
  exact call_tuple_same pl ⟨.ref p,H,I,rfl,q⟩
noncomputable def tyV (K:PySem.W.Frag) (T:String) (x:V) (H:Hp):Prop:=match x with
 | .str _=>T="str"
 | .int _=>T="int"
 | .ref p=>(T="list"∧∃ xs,SqL K H p xs)∨(T="tuple"∧∃ o,K.lookup p=some o∧o.cls=.type "tuple"∧o.dict=none) ∨
   (T="dict"∧((∃ kvs,H p=some (.dK kvs))∨∃ kvs,H p=some (.dT kvs)))∨(T="set"∧∃ S n,H p=some (.set S n))
 | _=>False
theorem Za2 {pins:List (Addr × Obj)} {σ:St} {H:Hp} {s:Shared} {T:String} {x:V} {v:Value} (I:Inv X pins σ H s) (r:RelV x v) (ty:tyV X.K T x H) :
  s.TypeIs v T∧∀ a,v=.ref a→∃ ob,s.heap.get? a=some ob∧ob.dict=none:=by
 cases x with
 | str z =>
  obtain ⟨t,rfl⟩:=r
  cases (show T="str" from ty)
  exact ⟨typeIs_str s z t,fun _ e=>nomatch e⟩
 | int i =>
  obtain ⟨t,rfl⟩:=r
  cases (show T="int" from ty)
  exact ⟨typeIs_int s i t,fun _ e=>nomatch e⟩
 | ref p =>
  cases r
  rcases ty with ⟨rfl,xs,hq⟩ | ⟨rfl,o,hk,hc,hd⟩ | ⟨rfl,hk⟩ | ⟨rfl,S,n,hk⟩
  ·obtain ⟨its,_,pl,_⟩:=I.list hq
   refine ⟨pl.isList.typeIs,fun a e=>?_⟩
   cases e
   obtain ⟨o,n,e,c,hd,_⟩:=pl
   exact ⟨o,e,hd⟩
  ·refine ⟨⟨o,I.kIn p o hk,hc⟩,fun a e=>?_⟩
   cases e
   exact ⟨o,I.kIn _ o hk,hd⟩
  ·have z:∃ o,s.heap.get? p=some o∧o.ExactDict:=by
    rcases hk with ⟨kvs,hk⟩ | ⟨kvs,hk⟩
    ·obtain ⟨_,_,_,_,o,_,_,e,ex,_⟩:=I.hok p _ hk
     exact ⟨o,e,ex⟩
    ·obtain ⟨_,_,_,_,o,_,_,e,ex,_⟩:=I.hok p _ hk
     exact ⟨o,e,ex⟩
   obtain ⟨o,e,ex⟩:=z
   refine ⟨⟨o,e,ex.1⟩,fun a e2=>?_⟩
   cases e2
   exact ⟨o,e,ex.2.1⟩
  ·obtain ⟨o,_,_,_,e,ex,_⟩:=I.hok p _ hk
   refine ⟨⟨o,e,ex.1⟩,fun a e2=>?_⟩
   cases e2
   exact ⟨o,e,ex.2.1⟩
 | _=>exact False.elim ty
noncomputable def tBM0 (K:PySem.W.Frag) (T:String) (r:V→List V→Hp→VK→Prop) (to:TE):TE:=fun σ H Q=>to σ H fun x H1=>tyV K T x H1∧r x [] H1 Q
noncomputable def tBM (K:PySem.W.Frag) (T:String) (r:V→List V→Hp→VK→Prop) (to:TE) (t:TA):TE:=fun σ H Q=>to σ H fun x H1=>tyV K T x H1∧t σ H1 fun xs H2=>r x xs H2 Q
variable {o e:Expr} {es:List Expr} {to:TE} {t:TA} {name:Str} {apos cpos:Pos} {T id:String} {r:V→List V→Hp→VK→Prop}
theorem Zgq (pa:PlainAttrs T) (slot:Slot T name id) (hty:typeOf (.builtin id)=pure (.type "method_descriptor")) (hm:MtR X id r) (ho:PE X o to)
  (hbase:attributeBase o name X.env (eval o X.env)=eval o X.env:=by rfl) (hline:(apos.endLine == cpos.line)=true:=by rfl):PE X (.Call (.Attribute o name apos) [] [] cpos) (tBM0 X.K T r to):=by
 intro pins s σ H Q I h
 refine wpAny_Call_method0_late hbase hline (thn (ho pins s σ H _ I h) fun v s1 zz9=>?_)
 obtain ⟨x,H1,I1,r1,ty,q1⟩:=zz9
 obtain ⟨h1,h2⟩:=Za2 I1 r1 ty
 exact ⟨T,id,pa,slot,hty,h1,h2,Calls.callWith_builtin rfl (PySem.evalArgs_none (hm pins s1 σ H1 x [] v [] Q I1 r1 .nil q1))⟩
theorem Wf (pa:PlainAttrs T) (slot:Slot T name id) (hty:typeOf (.builtin id)=pure (.type "method_descriptor")) (hm:MtR X id r) (ho:PE X o to) (ha:PA X (e :: es) t)
  (hbase:attributeBase o name X.env (eval o X.env)=eval o X.env:=by rfl)
  (hfew:((backTo cpos (starEach (e :: es) X.env)).all (fun x=>!x.1) && (backToKw cpos (keywordEach [] X.env)).all (fun x=>x.1.isSome)
   && decide ((e :: es).length + ([]:List Keyword).length + (if ([]:List Keyword).isEmpty then 0 else 1) < 30))=true:=by rfl)
  (hline:(apos.endLine == cpos.line)=true:=by rfl) (hs:starEach (e :: es) X.env=(false,eval e X.env) :: starEach es X.env:=by rfl) (hplain:(backTo cpos (starEach es X.env)).any (·.1)=false:=by rfl) :
  PE X (.Call (.Attribute o name apos) (e :: es) [] cpos) (tBM X.K T r to t):=by
 intro pins s σ H Q I h
 refine wpAny_Call_method_late hbase hfew hline rfl (thn (ho pins s σ H _ I h) fun v s1 zz9=>?_)
 obtain ⟨x,H1,I1,r1,ty,q1⟩:=zz9
 obtain ⟨h1,h2⟩:=Za2 I1 r1 ty
 refine ⟨T,id,pa,slot,hty,h1,h2,?_⟩
 have hA:=ha cpos pins s1 σ H1 _ I1 q1
 rw [hs] at hA ⊢
 refine Calls.callWith_builtin (by show (false || (backTo cpos (starEach es X.env)).any (·.1))=false; rw [hplain] <;> rfl) (Calls.evalArgs_plain ?_)
 refine thn hA fun us s2 zz20=>?_
 obtain ⟨vs,H2,I2,r2,q2⟩:=zz20
 exact hm pins s2 σ H2 x vs v us Q I2 r1 r2 q2
end
end L2
namespace L2
open PySem PySem.Spec PyProof.Rows
noncomputable def MtM (X:Cx) (id:String) (r:V→List V→Hp→VK→Prop):Prop :=
 ∀ (pins:List (Addr × Obj)) (s:Shared) (σ:St) (H:Hp) (x:V) (xs:List V) (v:Value) (us:List Value) (Q:VK),Inv X pins σ H s→RelV x v→Vals xs us→r x xs H Q →
  wpAny (model X.prog X.w) X.A (call (.builtin id) (v :: us)) (EP X pins σ Q) X.xe s
theorem Vals.one {x:V} {us:List Value} (h:Vals [x] us):∃ u,us=[u]∧RelV x u:=by
  cases h with
  | cons r t=>cases t; exact ⟨_,rfl,r⟩
theorem Vals.two {x y:V} {us:List Value} (h:Vals [x,y] us):∃ u v,us=[u,v]∧RelV x u∧RelV y v:=by
  cases h with
  | cons r t =>
    obtain ⟨v,rfl,q⟩:=Vals.one t
    exact ⟨_,v,rfl,r,q⟩
theorem Vals.zero:∀ {us:List Value},Vals [] us→us=[]
 | _,.nil=>rfl
theorem Vals.dropLast {xs:List V} {us:List Value} (h:Vals xs us):Vals xs.dropLast us.dropLast:=by
 induction h with
 | nil=>exact .nil
 | cons r t ih =>
  cases t with
  | nil=>exact .nil
  | cons q t'=>exact .cons r ih
theorem Vals.eraseIdx:∀ {xs:List V} {us:List Value} (i:Nat),Vals xs us→Vals (xs.eraseIdx i) (us.eraseIdx i)
 | _,_,_,.nil=>.nil
 | _,_,0,.cons _ t=>t
 | _,_,i + 1,.cons r t=>.cons r (Vals.eraseIdx i t)
theorem Vals.rep {xs:List V} {us:List Value} (h:Vals xs us):∀ k:Nat,Vals (List.replicate k xs).flatten (List.replicate k us).flatten
 | 0=>.nil
 | k + 1=>by
  rw [List.replicate_succ,List.replicate_succ,List.flatten_cons,List.flatten_cons]
  exact Vals.append h (Vals.rep h k)
theorem Zfk {α:Type} (l:List α):l.eraseIdx (l.length - 1)=l.dropLast:=by
 induction l with
 | nil=>rfl
 | cons a r ih =>
  cases r with
  | nil=>rfl
  | cons b r =>
   have e:(a :: b :: r).length - 1=((b :: r).length - 1) + 1:=by
    have h1:(a :: b :: r).length=r.length + 2:=rfl
    have h2:(b :: r).length=r.length + 1:=rfl
    omega
   rw [e,List.eraseIdx_cons_succ,ih]
   all_goals rfl
theorem F0 {α:Type}:∀ (l:List α) (i:Nat),(l.eraseIdx i).length≤l.length
 | [],_=>Nat.le_refl _
 | _ :: _,0=>Nat.le_succ _
 | _ :: r,i + 1=>Nat.succ_le_succ (F0 r i)
theorem F3 (its:List Value):∀ (k:Nat) (acc:List Value),
  List.foldl (fun x1 x2=>x1 ++ x2) acc.toArray (List.replicate k its.toArray)=(acc ++ (List.replicate k its).flatten).toArray
 | 0,acc=>by simp
 | k + 1,acc=>by
  have e:acc.toArray ++ its.toArray=(acc ++ its).toArray:=by simp
  have e2:(acc ++ its) ++ (List.replicate k its).flatten=acc ++ (List.replicate (k + 1) its).flatten:=by
   rw [List.replicate_succ,List.flatten_cons,List.append_assoc]
  rw [← e2,← F3 its k (acc ++ its),← e,List.replicate_succ,List.foldl_cons]
section
variable {X:Cx} {pins:List (Addr × Obj)} {σ:St} {H:Hp} {s:Shared} {l b:Addr} {xs ys zs:List V}
theorem Inv.lset {its its':List Value} {n:Nat} {f:Array Value→Array Value} {t':Nat} (I:Inv X pins σ H s) (hH:H l=some (.lst xs))
  (e:s.heap.get? l=some { cls:=.type "list",data:=.seq its.toArray n }) (hf:f its.toArray=its'.toArray) (hv:Vals ys its') (hz:ys.length≤sizeLine) :
  Inv X pins σ (upd H l (.lst ys)) { s with heap:=s.heap.update l (Obj.mapSeq f),toks:=t' }:=by
 have q:=PySem.IsL.update e f
 rw [hf] at q
 refine I.write (x:=l) (e:=l) (by rw [hH]; exact trivial) (.inl rfl) (fun b' u hb hu=>(Heap.get?_update_other s.heap (Obj.mapSeq f) (Ne.symm hb)).trans hu) ⟨_,q⟩ ?_
 exact ⟨hz,its',_,hv,q⟩
theorem Inv.lnew {its:List Value} {t':Nat} (I:Inv X pins σ H s) (hv:Vals ys its) (hz:ys.length≤sizeLine) :
  Inv X pins σ (upd H s.heap.objs.size (.lst ys)) { s with heap:=s.heap.push { cls:=.type "list",data:=.seq its.toArray },toks:=t' } :=
 I.laid (fun _ _ q=>Heap.get?_push_of_some _ q) (Nat.le_refl _) ⟨hz,its,0,hv,Heap.get?_push_size _ rfl⟩
theorem Inv.fresh (I:Inv X pins σ H s):H s.heap.objs.size=none:=I.hok.fresh (Nat.le_refl _)
theorem Inv.lstM (I:Inv X pins σ H s) (hH:H l=some (.lst xs)):xs.length≤sizeLine∧∃ (its:List Value) (n:Nat),Vals xs its∧xs.length=its.length∧s.heap.get? l=some { cls:=.type "list",data:=.seq its.toArray n }:=by
 obtain ⟨z,its,n,r,e⟩:=I.hok l _ hH
 exact ⟨z,its,n,r,r.length,e⟩
theorem Zij {n:Nat} (h:n≤sizeLine):Builtin.List.listTooLong n=false:=by
 unfold Builtin.List.listTooLong
 exact decide_eq_false (by omega)
end
section
variable {X:Cx}
noncomputable def Zj7:V→List V→Hp→VK→Prop:=fun x vs H Q=>∃ l xs y,x=.ref l∧vs=[y]∧H l=some (.lst xs)∧xs.length < sizeLine∧Q .non (upd H l (.lst (xs ++ [y])))
theorem Xa:MtM X "list.append" Zj7:=by
 intro pins s σ H x vs v us Q I rx rv h
 obtain ⟨l,xs,y,rfl,rfl,hH,hz,q⟩:=h
 cases rx
 obtain ⟨u,rfl,ru⟩:=rv.one
 obtain ⟨z,its,n,r,hl,e⟩:=I.lstM hH
 refine call_meets F.slot_list_append ⟨_,e,rfl⟩ F.entry_list_append (F.args_list_append_2 _ _) (PySem.list_append l its.toArray n u (by rw [List.size_toArray]; omega)) ⟨e,?_⟩
 refine ⟨.non,_,I.lset (its':=its ++ [u]) hH e (by simp) (r.append (.cons ru .nil)) ?_,rfl,q⟩
 rw [List.length_append,List.length_singleton]
 omega
noncomputable def rPop:V→List V→Hp→VK→Prop:=fun x vs H Q=>∃ l xs y,x=.ref l∧vs=[]∧H l=some (.lst xs)∧xs[xs.length - 1]?=some y∧Q y (upd H l (.lst xs.dropLast))
theorem Zg2:MtM X "list.pop" rPop:=by
 intro pins s σ H x vs v us Q I rx rv h
 obtain ⟨l,xs,y,rfl,rfl,hH,hy,q⟩:=h
 cases rx
 have hus:=rv.zero
 subst hus
 obtain ⟨z,its,n,r,hl,e⟩:=I.lstM hH
 obtain ⟨u,hu,ru⟩:=r.get hy
 have hy':its.toArray[its.toArray.size - 1]?=some u:=by
  show its.toArray[its.length - 1]?=some u
  rw [← Array.getElem?_toList,← hl]
  exact hu
 refine call_meets F.slot_list_pop ⟨_,e,rfl⟩ F.entry_list_pop (F.args_list_pop_1 _) (MeetsSeq.list_pop_last l its.toArray n u hy' (by rw [List.size_toArray]; omega)) ⟨e,?_⟩
 refine ⟨y,_,I.lset (its':=its.dropLast) hH e ?_ r.dropLast ?_,ru,q⟩
 ·show its.toArray.eraseIdxIfInBounds (its.toArray.size - 1)=its.dropLast.toArray
  rw [List.size_toArray,List.eraseIdxIfInBounds_toArray,Zfk]
 ·rw [List.length_dropLast]
  omega
noncomputable def Zlf:V→List V→Hp→VK→Prop:=fun x vs H Q=>∃ l xs i k y,x=.ref l∧vs=[.int i]∧H l=some (.lst xs)∧-(2 ^ 63)≤i∧i < 2 ^ 63∧seqIndex? i xs.length=some k∧xs[k]?=some y∧Q y (upd H l (.lst (xs.eraseIdx k)))
theorem Zcj:MtM X "list.pop" Zlf:=by
 intro pins s σ H x vs v us Q I rx rv h
 obtain ⟨l,xs,i,k,y,rfl,rfl,hH,h1,h2,hk,hy,q⟩:=h
 cases rx
 obtain ⟨u,rfl,ru⟩:=rv.one
 obtain ⟨t,rfl⟩:=ru
 obtain ⟨z,its,n,r,hl,e⟩:=I.lstM hH
 obtain ⟨w,hw,rw'⟩:=r.get hy
 refine call_meets F.slot_list_pop ⟨_,e,rfl⟩ F.entry_list_pop (F.args_list_pop_2 _ _)
  (MeetsSeq.list_pop_at l its.toArray n i t k w (fitsIndex_both h1 h2) (by rw [List.size_toArray,← hl]; exact hk) (by rw [← Array.getElem?_toList]; exact hw) (by rw [List.size_toArray]; omega)) ⟨e,?_⟩
 refine ⟨y,_,I.lset (its':=its.eraseIdx k) hH e ?_ (r.eraseIdx k) ?_,rw',q⟩
 ·show its.toArray.eraseIdxIfInBounds k=(its.eraseIdx k).toArray
  rw [List.eraseIdxIfInBounds_toArray]
 ·have:=F0 xs k
  omega
noncomputable def rCat:R2:=fun x y H Q=>∃ l b xs zs,x=.ref l∧y=.ref b∧H l=some (.lst xs)∧H b=some (.lst zs)∧xs.length + zs.length≤sizeLine∧∀ p,H p=none→Q (.ref p) (upd H p (.lst (xs ++ zs)))
theorem Qm:OpR X (binaryOp .Add) rCat:=by
 intro pins s σ H x y v u Q I rx ry h
 obtain ⟨l,b,xs,zs,rfl,rfl,hH,hB,hz,q⟩:=h
 cases rx
 cases ry
 obtain ⟨z,its,n,r,hl,e⟩:=I.lstM hH
 obtain ⟨z2,its2,n2,r2,hl2,e2⟩:=I.lstM hB
 refine PySem.P.add_list e e2 ?_ (by rw [List.size_toArray,List.size_toArray]; omega)
 have ea:its.toArray ++ its2.toArray=(its ++ its2).toArray:=by simp
 rw [ea]
 exact ⟨.ref _,_,I.lnew (t':=s.toks) (r.append r2) (by rw [List.length_append]; omega),rfl,q _ I.fresh⟩
noncomputable def rRep:R2:=fun x y H Q=>∃ l k xs,x=.ref l∧y=.int k∧H l=some (.lst xs)∧-(2 ^ 63)≤k∧k < 2 ^ 63∧xs.length * k.toNat≤sizeLine ∧
 ∀ p,H p=none→Q (.ref p) (upd H p (.lst (List.replicate k.toNat xs).flatten))
theorem Zkm {α:Type} (xs:List α) (k:Nat):(List.replicate k xs).flatten.length=k * xs.length:=by
 induction k with
 | zero=>simp
 | succ k ih=>rw [List.replicate_succ,List.flatten_cons,List.length_append,ih,Nat.succ_mul,Nat.add_comm]
theorem Zca:OpR X (binaryOp .Mult) rRep:=by
 intro pins s σ H x y v u Q I rx ry h
 obtain ⟨l,k,xs,rfl,rfl,hH,h1,h2,hz,q⟩:=h
 cases rx
 obtain ⟨t,rfl⟩:=ry
 obtain ⟨z,its,n,r,hl,e⟩:=I.lstM hH
 have hlen:its.toArray.size * k.toNat≤sizeLine:=by rw [List.size_toArray,← hl]; exact hz
 have hcap:¬ its.toArray.size * k.toNat > (2 ^ 63 - 1) / 8:=by
  have:(sizeLine:Nat)≤(2 ^ 63 - 1) / 8:=by decide
  omega
 have hfit:¬ (!Builtin.List.listFitsIndex k)=true:=by
  rw [fitsIndex_both h1 h2]
  exact Bool.false_ne_true
 have hlong:¬ Builtin.List.listTooLong (its.toArray.size * k.toNat)=true:=by
  rw [Zij hlen]
  exact Bool.false_ne_true
 have hnew:List.foldl (fun x1 x2=>x1 ++ x2) #[] (List.replicate (if its.toArray.isEmpty=true then 0 else k.toNat) its.toArray)=(List.replicate k.toNat its).flatten.toArray:=by
  have f0:∀ m:Nat,List.foldl (fun x1 x2=>x1 ++ x2) #[] (List.replicate m its.toArray)=(List.replicate m its).flatten.toArray:=fun m=>by
   have:=F3 its m []
   rw [List.nil_append] at this
   exact this
  rw [f0]
  cases its with
  | nil=>simp
  | cons a r'=>rw [if_neg (by simp)]
 refine wpAny_binaryOp_repeat_ref (T:="list") (U:="int") (by decide) ⟨_,e,rfl⟩ (fun s'=>typeIs_int s' k t) noFill_list_mul F.fills_int_mul F.slot_int_rmul repeat_list F.slot_int_index.lookup
  (call_meets F.slot_int_rmul (typeIs_int s k t) F.entry_int_rmul (F.args_int_rmul_2 _ _) (int___rmul___int_list k t l its.toArray n)
   ⟨e,rfl,⟨_,e,rfl⟩,call_meets F.slot_list_mul ⟨_,e,rfl⟩ F.entry_list_mul (F.args_list_mul_2 _ _) (AutoListH.list___mul___list_int_3 l its.toArray n k t hfit hcap hlong) ⟨e,?_⟩⟩)
 rw [hnew]
 exact ⟨.ref _,_,I.lnew (t':=s.toks) (r.rep k.toNat) (by rw [Zkm,Nat.mul_comm]; exact hz),rfl,q _ I.fresh⟩
end
end L2
namespace L2
open PySem PySem.Spec PyProof.Rows
section
variable {κ:Type} [DecidableEq κ]
noncomputable def valV (kvs:List (κ × V)) (k:κ):Option V:=(kvs.find? fun kv=>decide (kv.1=k)).map (·.2)
noncomputable def putK (kvs:List (κ × V)) (k:κ) (v:V):List (κ × V) :=
 if (kvs.any fun kv=>decide (kv.1=k))=true then kvs.map (fun kv=>if kv.1=k then (kv.1,v) else kv) else kvs ++ [(k,v)]
theorem O5 {p:κ × V} {r:List (κ × V)} {k:κ} (e:p.1=k):valV (p :: r) k=some p.2:=by simp [valV,List.find?_cons,e]
theorem O6 {p:κ × V} {r:List (κ × V)} {k:κ} (e:¬ p.1=k):valV (p :: r) k=valV r k:=by simp [valV,List.find?_cons,e]
theorem Za1 (k:κ):∀ kvs:List (κ × V),(kvs.any fun kv=>decide (kv.1=k))=(valV kvs k).isSome
 | []=>rfl
 | p :: r=>by
  rw [List.any_cons]
  by_cases e:p.1=k
  ·simp only [O5 e,decide_eq_true e,Bool.true_or,Option.isSome_some]
  ·rw [O6 e,decide_eq_false e,Bool.false_or]; exact Za1 k r
theorem Jt (kvs:List (κ × V)) (k:κ) (v:V):(putK kvs k v).length≤kvs.length + 1:=by
 unfold putK
 split
 ·rw [List.length_map]; omega
 ·rw [List.length_append,List.length_cons,List.length_nil]; omega
theorem RelO.isSome_eq {o:Option V} {u:Option Value} (r:RelO o u):o.isSome=u.isSome:=by
 cases o with
 | none=>cases u with
  | none=>rfl
  | some _=>exact (show False from r).elim
 | some _=>cases u with
  | none=>exact (show False from r).elim
  | some _=>rfl
theorem KV.val {kvs:List (κ × V)} {vs:List (κ × Value)} (r:KV kvs vs) (k:κ):RelO (valV kvs k) (valueAt vs k):=by
 unfold KV at r
 induction r with
 | nil=>exact True.intro
 | @cons p q ps qs h t ih =>
  obtain ⟨h1,h2⟩:=h
  by_cases e:p.1=k
  ·have e':q.1=k:=h1.symm.trans e
   have b:valueAt (q :: qs) k=some q.2:=by simp [valueAt,List.find?_cons,e']
   rw [O5 e,b]; exact h2
  ·have e':¬ q.1=k:=fun z=>e (h1.trans z)
   have b:valueAt (q :: qs) k=valueAt qs k:=by simp [valueAt,List.find?_cons,e']
   rw [O6 e,b]; exact ih
theorem KV.any {kvs:List (κ × V)} {vs:List (κ × Value)} (r:KV kvs vs) (k:κ):(kvs.any fun kv=>decide (kv.1=k))=vs.any fun kv=>decide (kv.1=k):=by
 unfold KV at r
 induction r with
 | nil=>rfl
 | cons h t ih=>rw [List.any_cons,List.any_cons,ih,h.1]
theorem KV.repl {kvs:List (κ × V)} {vs:List (κ × Value)} (r:KV kvs vs) (k:κ) {y:V} {u:Value} (ry:RelV y u) :
  KV (kvs.map fun kv=>if kv.1=k then (kv.1,y) else kv) (vs.map fun kv=>if kv.1=k then (kv.1,u) else kv):=by
 unfold KV at r ⊢
 induction r with
 | nil=>exact .nil
 | @cons p q ps qs h t ih =>
  rw [List.map_cons,List.map_cons]
  refine .cons ?_ ih
  obtain ⟨h1,h2⟩:=h
  by_cases e:p.1=k
  ·rw [if_pos e,if_pos (h1.symm.trans e)]; exact ⟨h1,ry⟩
  ·rw [if_neg e,if_neg (fun z=>e (h1.trans z))]; exact ⟨h1,h2⟩
theorem KV.put {kvs:List (κ × V)} {vs:List (κ × Value)} (r:KV kvs vs) (k:κ) {y:V} {u:Value} (ry:RelV y u):KV (putK kvs k y) (stored vs k u):=by
 unfold putK stored
 rw [r.any k]
 by_cases e:(vs.any fun kv=>decide (kv.1=k))=true
 ·rw [if_pos e,if_pos e]; exact r.repl k ry
 ·rw [if_neg e,if_neg e]; exact Paired.snoc r ⟨rfl,ry⟩
theorem KV.length {kvs:List (κ × V)} {vs:List (κ × Value)} (r:KV kvs vs):kvs.length=vs.length:=Paired.length r
end
theorem V0 {P:Program} {w:World} {k:Key} {u:Value} (r:RelV (kV k) u):(Z9 P w).is k u=true:=by
 cases k with
 | inl i=>obtain ⟨t,e⟩:=(show ∃ t,u=Value.int i t from r); subst e; exact Zdl P w i t
 | inr x=>obtain ⟨t,e⟩:=(show ∃ t,u=Value.str x t from r); subst e; exact Zdk P w x t
theorem F1 {P:Program} {w:World}:∀ {ks:List Key} {us:List Value},Vals (ks.map kV) us→ItemsAre (Z9 P w) ks us
 | [],_,r=>by rw [List.map_nil] at r; cases r; exact .nil
 | k :: ks,_,r=>by
  rw [List.map_cons] at r
  cases r with
  | cons h t=>exact .cons (V0 h) (F1 t)
noncomputable abbrev KT (H:Hp):List (List Key × V)→List (List Key × Addr × Value)→Prop:=Paired fun p q=>p.1=q.1∧H q.2.1=some (.tup (p.1.map kV))∧RelV p.2 q.2.2
theorem KT.val {H:Hp} {kvs:List (List Key × V)} {xs:List (List Key × Addr × Value)} (r:KT H kvs xs) (k:List Key):RelO (valV kvs k) ((atKey xs k).map (·.2)):=by
 induction r with
 | nil=>exact True.intro
 | @cons p q ps qs h t ih =>
  obtain ⟨h1,_,h2⟩:=h
  by_cases e:p.1=k
  ·have e':q.1=k:=h1.symm.trans e
   have b:atKey (q :: qs) k=some q.2:=by simp [atKey,List.find?_cons,e']
   rw [O5 e,b]; exact h2
  ·have e':¬ q.1=k:=fun z=>e (h1.trans z)
   have b:atKey (q :: qs) k=atKey qs k:=by simp [atKey,List.find?_cons,e']
   rw [O6 e,b]; exact ih
theorem KT.repl {H:Hp} {kvs:List (List Key × V)} {xs:List (List Key × Addr × Value)} (r:KT H kvs xs) (k:List Key) {y:V} {u:Value} (ry:RelV y u) :
  KT H (kvs.map fun kv=>if kv.1=k then (kv.1,y) else kv) (xs.map (putAt k u)):=by
 induction r with
 | nil=>exact .nil
 | @cons p q ps qs h t ih =>
  rw [List.map_cons,List.map_cons]
  refine .cons ?_ ih
  obtain ⟨h1,h2,h3⟩:=h
  unfold putAt
  by_cases e:p.1=k
  ·rw [if_pos e,if_pos (h1.symm.trans e)]; exact ⟨h1,h2,ry⟩
  ·rw [if_neg e,if_neg (fun z=>e (h1.trans z))]; exact ⟨h1,h2,h3⟩
theorem KT.put {H:Hp} {kvs:List (List Key × V)} {xs:List (List Key × Addr × Value)} (r:KT H kvs xs) (k:List Key) {b:Addr} {y:V} {u:Value} (hb:H b=some (.tup (k.map kV))) (ry:RelV y u) :
  KT H (putK kvs k y) (storedH xs k b u):=by
 have e:(kvs.any fun kv=>decide (kv.1=k))=(atKey xs k).isSome:=by
  rw [Za1,(r.val k).isSome_eq,Option.isSome_map]
 unfold putK storedH
 rw [e]
 by_cases q:(atKey xs k).isSome=true
 ·rw [if_pos q,if_pos q]; exact r.repl k ry
 ·rw [if_neg q,if_neg q]; exact Paired.snoc r ⟨rfl,hb,ry⟩
theorem KT.keeps {H H':Hp} {kvs:List (List Key × V)} {xs:List (List Key × Addr × Value)} (r:KT H kvs xs) (ht:∀ b ys,H b=some (.tup ys)→H' b=some (.tup ys)):KT H' kvs xs :=
 Paired.mapP r fun _ _ z=>⟨z.1,ht _ _ z.2.1,z.2.2⟩
section
variable {P:Program} {w:World} {H:Hp} {h:Heap} {a:Addr}
theorem Zi9 {u:HO} (ok:HOk P w H h) (e:Rd H a u):Ye P w H h a u:=e.ok ok
theorem J9 {kvs:List (Key × V)} (ok:HOk P w H h) (e:Rd H a (.dK kvs)):kvs.length≤sizeLine∧(a == sysModules)=false∧∃ vs,KV kvs vs∧h.DictOf (Z9 P w) a vs :=
 show Ye P w H h a (.dK kvs) from Zi9 ok e
theorem Zfl {kvs:List (Key × V)} (ok:HOk P w H h) (e:H a=some (.dK kvs)):kvs.length≤sizeLine∧(a == sysModules)=false∧∃ vs,KV kvs vs∧h.DictOf (Z9 P w) a vs:=J9 ok (.inl e)
theorem U5 {ks:List Key} (ok:HOk P w H h) (e:H a=some (.tup (ks.map kV))):(tupleKind (Z9 P w)).is h ks a:=by
 obtain ⟨_,its,r,o,h1,h2,n,h3⟩:=(show Ye P w H h a (.tup (ks.map kV)) from ok a _ e)
 exact ⟨o,its.toArray,n,h1,h2,h3,by simpa using F1 r⟩
theorem Oi {kvs:List (List Key × V)} (ok:HOk P w H h) (e:Rd H a (.dT kvs)):kvs.length≤sizeLine∧(a == sysModules)=false ∧
  ∃ xs,KT H kvs xs∧h.DictOfH (tupleKind (Z9 P w)) a xs:=by
 obtain ⟨z,y,xs,r,o,es,ep,h1,h2,h3,h4,h5⟩:=(show Ye P w H h a (.dT kvs) from Zi9 ok e)
 refine ⟨z,y,xs,r,o,es,ep,h1,h2,h3,h4,fun x hx=>?_,h5⟩
 have all:∀ {l:List (List Key × V)} {m:List (List Key × Addr × Value)},KT H l m→∀ x∈m,(tupleKind (Z9 P w)).is h x.1 x.2.1:=by
  intro l m q
  induction q with
  | nil=>intro x hx; exact nomatch hx
  | @cons p q ps qs hq t ih =>
   intro x hx
   rcases List.mem_cons.mp hx with e | hx
   ·subst e
    exact U5 ok (by rw [← hq.1]; exact hq.2.1)
   ·exact ih x hx
 exact all r x hx
theorem Zmz {kvs:List (List Key × V)} (ok:HOk P w H h) (e:H a=some (.dT kvs)):kvs.length≤sizeLine∧(a == sysModules)=false ∧
  ∃ xs,KT H kvs xs∧h.DictOfH (tupleKind (Z9 P w)) a xs:=Oi ok (.inl e)
end
noncomputable def DGet (H:Hp) (a:Addr) (y:V) (r:Option V):Prop :=
 (∃ kvs k,Rd H a (.dK kvs)∧y=kV k∧r=valV kvs k)∨∃ kvs k b,Rd H a (.dT kvs)∧y=.ref b∧H b=some (.tup (k.map kV))∧r=valV kvs k
noncomputable def DPut (H:Hp) (a:Addr) (y v:V) (H':Hp):Prop :=
 (∃ kvs k,H a=some (.dK kvs)∧y=kV k∧kvs.length < sizeLine∧H'=upd H a (.dK (putK kvs k v))) ∨
 ∃ kvs k b,H a=some (.dT kvs)∧y=.ref b∧H b=some (.tup (k.map kV))∧kvs.length < sizeLine∧H'=upd H a (.dT (putK kvs k v))
theorem DPut.k {H:Hp} {a:Addr} {kvs:List (Key × V)} {k:Key} {v:V} (e:H a=some (.dK kvs)) (hl:kvs.length < sizeLine):DPut H a (kV k) v (upd H a (.dK (putK kvs k v))):=.inl ⟨kvs,k,e,rfl,hl,rfl⟩
section
variable {X:Cx} {pins:List (Addr × Obj)} {σ:St} {H:Hp} {s:Shared} {a:Addr} {y v:V} {u r:Value} {o:Option V} {A:Around} {E:Value→Shared→Prop}
theorem Inv.big (I:Inv X pins σ H s):sysModules < s.heap.objs.size:=by
 have h:mainGlobals < s.heap.objs.size:=(I.mod.glob.keeps I.bk).lt
 exact Nat.lt_trans (by decide) h
theorem Zhg {Q:Value→Shared→Prop} (hu:A.units + 1 < cLine) (I:Inv X pins σ H s) (g:DGet H a y (some v)) (ry:RelV y u) (h:∀ w' s',Inv X pins σ H s'→RelV v w'→Q w' s') :
  wpAny (model X.prog X.w) A (getItem (.ref a) u) Q E s:=by
 rcases g with ⟨kvs,k,e,ey,l⟩ | ⟨kvs,k,b,e,ey,eb,l⟩
 ·subst ey
  obtain ⟨z,hd,vs,rel,dd⟩:=J9 I.hok e
  obtain ⟨w',hw,rw'⟩:=RelO.some_of (v:=v) (o:=valueAt vs k) (by rw [l]; exact rel.val k)
  exact wpAny_getItem_of (V0 ry) dd.mapOf hw (h w' _ (I.tok _) rw')
 ·subst ey
  cases (show u=Value.ref b from ry)
  obtain ⟨z,hd,xs,rel,dd⟩:=Oi I.hok e
  obtain ⟨w',hw,rw'⟩:=RelO.some_of (v:=v) (o:=(atKey xs k).map (·.2)) (by rw [l]; exact rel.val k)
  obtain ⟨p,hp,hp2⟩:=Option.map_eq_some_iff.mp hw
  refine wpAny_getItem_heap (tupleKind_room_in1 hu) (U5 I.hok eb) dd hp ?_
  rw [hp2]
  exact h w' _ (I.tok _) rw'
theorem d_in {Q:Value→Shared→Prop} (hu:A.units + 1 < cLine) (I:Inv X pins σ H s) (g:DGet H a y o) (ry:RelV y u) (h:∀ s',Inv X pins σ H s'→Q (.bool o.isSome) s') :
  wpAny (model X.prog X.w) A (compareOp .In u (.ref a)) Q E s:=by
 rcases g with ⟨kvs,k,e,ey,l⟩ | ⟨kvs,k,b,e,ey,eb,l⟩
 ·subst ey
  obtain ⟨z,hd,vs,rel,dd⟩:=J9 I.hok e
  refine wpAny_in_of (V0 ry) hd dd.mapOf ?_
  rw [← (rel.val k).isSome_eq,← l]
  exact h _ (I.tok _)
 ·subst ey
  cases (show u=Value.ref b from ry)
  obtain ⟨z,hd,xs,rel,dd⟩:=Oi I.hok e
  refine wpAny_in_heap (tupleKind_room_in1 hu) (U5 I.hok eb) hd dd ?_
  have q:=(rel.val k).isSome_eq
  rw [Option.isSome_map] at q
  rw [← q,← l]
  exact h _ (I.tok _)
theorem Zkt {Q:Value→Shared→Prop} (hu:A.units + 1 < cLine) (I:Inv X pins σ H s) (g:DGet H a y o) (ry:RelV y u) (h:∀ s',Inv X pins σ H s'→Q (.bool (!o.isSome)) s') :
  wpAny (model X.prog X.w) A (compareOp .NotIn u (.ref a)) Q E s:=by
 rcases g with ⟨kvs,k,e,ey,l⟩ | ⟨kvs,k,b,e,ey,eb,l⟩
 ·subst ey
  obtain ⟨z,hd,vs,rel,dd⟩:=J9 I.hok e
  refine wpAny_notIn_of (V0 ry) hd dd.mapOf ?_
  rw [← (rel.val k).isSome_eq,← l]
  exact h _ (I.tok _)
 ·subst ey
  cases (show u=Value.ref b from ry)
  obtain ⟨z,hd,xs,rel,dd⟩:=Oi I.hok e
  refine wpAny_notIn_heap (tupleKind_room_in1 hu) (U5 I.hok eb) hd dd ?_
  have q:=(rel.val k).isSome_eq
  rw [Option.isSome_map] at q
  rw [← q,← l]
  exact h _ (I.tok _)
theorem Oj {h':Heap} {t':Nat} {ob:HO} (I:Inv X pins σ H s) (mu:Mut (H a)) (hs:Heap.SameBut a s.heap h') (he:∃ q,h'.get? a=some q) (new:Ye X.prog X.w (upd H a ob) h' a ob) :
  Inv X pins σ (upd H a ob) { s with heap:=h',toks:=t' } :=
 I.write (x:=a) (e:=a) mu (.inl rfl) (fun b q hb z=>(hs.2 b hb).trans z) he new
theorem Zcx {P:Program} {w:World} {H':Hp} {h':Heap} {kvs:List (Key × V)} {vs:List (Key × Value)} (z:kvs.length≤sizeLine) (hd:(a == sysModules)=false) (rel:KV kvs vs) (dd:h'.DictOf (Z9 P w) a vs) :
  Ye P w H' h' a (.dK kvs):=⟨z,hd,vs,rel,dd⟩
theorem Zhf {H':Hp} {Q:Unit→Shared→Prop} (hu:A.units + 1 < cLine) (I:Inv X pins σ H s) (g:DPut H a y v H') (ry:RelV y u) (rv:RelV v r) (h:∀ s',Inv X pins σ H' s'→Q () s') :
  wpAny (model X.prog X.w) A (setItem (.ref a) u r) Q E s:=by
 rcases g with ⟨kvs,k,e,ey,l,eH⟩ | ⟨kvs,k,b,e,ey,eb,l,eH⟩
 ·subst ey eH
  obtain ⟨z,hd,vs,rel,dd⟩:=Zfl I.hok e
  have hz:vs.length≤sizeLine:=by rw [← rel.length]; exact z
  have hl:(putK kvs k v).length≤sizeLine:=by have:=Jt kvs k v; omega
  refine wpAny_setItem_pairs (hsz:=hz) (V0 ry) dd fun h' dd' hs=>h _ ?_
  have he:∃ q,h'.get? a=some q:=let ⟨q,_,_,hq,_⟩:=dd'; ⟨q,hq⟩
  exact Oj I (by rw [e]; exact True.intro) hs he (Zcx hl hd (rel.put k rv) dd')
 ·subst ey eH
  cases (show u=Value.ref b from ry)
  obtain ⟨z,hd,xs,rel,dd⟩:=Zmz I.hok e
  have hz:xs.length≤sizeLine:=by rw [← Paired.length rel]; exact z
  have hl:(putK kvs k v).length≤sizeLine:=by have:=Jt kvs k v; omega
  refine wpAny_setItem_heap (hsz:=hz) (tupleKind_room_in1 hu) (U5 I.hok eb) dd fun h' dd' hs=>h _ ?_
  obtain ⟨q,es,ep,hq,h2,h3,h4,_,h5⟩:=dd'
  refine Oj I (by rw [e]; exact True.intro) hs ⟨q,hq⟩ ⟨hl,hd,_,(rel.put k eb rv).keeps fun c ys ec=>?_,q,es,ep,hq,h2,h3,h4,h5⟩
  rw [Ze (Zmn ec e (fun z=>nomatch z))]
  exact ec
end
noncomputable def NoSl (i:Expr):Prop:=∀ ov iv,subscripted i false ov iv=operate [ov,iv] (getItem ov iv)
theorem Zjq {prog:Program} {w:World} {A:Around} {E:Value→Shared→Prop} {s:Shared} {env:Env} {value slice:Expr} {pos:Pos} {T id:String} {Q:Value→Shared→Prop}
  (hl:typeLookup (.type T) "__getitem__"=pure (some (.builtin id))) (hs:NoSl slice)
  (h:wpAny (model prog w) A (eval value env) (fun o s₁=>wpAny (model prog w) A (eval slice env) (fun i s₂=>s₂.TypeIs o T∧wpAny (model prog w) A (getItem o i) Q E s₂) E s₁) E s) :
  wpAny (model prog w) A (eval (.Subscript value slice pos) env) Q E s:=by
 refine Subscript_ (wpAny_mono h (fun o s₁ h₁=>wpAny_mono h₁ (fun i s₂ h₂=>?_) fun _ _ x=>x) fun _ _ x=>x)
 obtain ⟨hT,h₂⟩:=h₂
 unfold subscriptTail
 refine wpAny_bind ?_
 rw [getitemInPython_of_ne hT.not_modules]
 refine wpAny_bind (wpAny_specialOf hT hl ?_)
 have fin:wpAny (model prog w) A (subscripted slice false o i) (fun r s₃=>wpAny (model prog w) A (letTemporaryGo value o r >>= fun _=>pure r) Q E s₃) E s₂:=by
  rw [hs o i]
  exact wpAny_operating (wpAny_mono h₂ (fun r s₃ h₃=>wpAny_bind (wpAny_letTemporaryGo (wpAny_pure h₃))) fun _ _ x=>x)
 first
  | exact wpAny_pure (wpAny_bind fin)
  | exact wpAny_bind (wpAny_pure (wpAny_bind fin))
  | exact wpAny_bind fin
theorem Zdm {X:Cx} {pins:List (Addr × Obj)} {σ:St} {H:Hp} {s:Shared} {a:Addr} {y:V} {o:Option V} (I:Inv X pins σ H s) (g:DGet H a y o):s.TypeIs (.ref a) "dict":=by
 rcases g with ⟨kvs,k,e,_,_⟩ | ⟨kvs,k,b,e,_,_,_⟩
 ·obtain ⟨_,_,vs,_,dd⟩:=J9 I.hok e
  exact dd.typeIs
 ·obtain ⟨_,_,xs,_,dd⟩:=Oi I.hok e
  exact dd.typeIs
noncomputable def Zme (td ty:TE):TE:=fun σ H Q=>td σ H fun x H1=>ty σ H1 fun y H2=>∃ a v,x=.ref a∧DGet H2 a y (some v)∧Q v H2
noncomputable def tDIn (ty td:TE):TE:=fun σ H Q=>ty σ H fun y H1=>td σ H1 fun x H2=>∃ a o,x=.ref a∧DGet H2 a y o∧Q (.bl o.isSome) H2
noncomputable def Zjn (ty td:TE):TE:=fun σ H Q=>ty σ H fun y H1=>td σ H1 fun x H2=>∃ a o,x=.ref a∧DGet H2 a y o∧Q (.bl (!o.isSome)) H2
noncomputable def Zmj (td ty tv:TE):TS:=fun D σ H=>tv σ H fun v H1=>td σ H1 fun x H2=>ty σ H2 fun y H3=>∃ a H4,x=.ref a∧DPut H3 a y v H4∧D.nx σ H4
section
variable {X:Cx} {o i e value:Expr} {pos pos' tpos:Pos} {td ty tv:TE}
theorem Vk (hu:X.A.units + 1 < cLine) (ho:PE X o td) (hi:PE X i ty) (hs:NoSl i):PE X (.Subscript o i pos) (Zme td ty):=by
 intro pins s σ H Q I h
 refine Zjq PySem.F.slot_dict_getitem.lookup hs (thn (ho pins s σ H _ I h) fun u s1 zz21=>?_)
 obtain ⟨x,H1,I1,rx,q1⟩:=zz21
 refine thn (hi pins s1 σ H1 _ I1 q1) fun iv s2 zz9=>?_
 obtain ⟨y,H2,I2,ry,a,v,ex,g,q2⟩:=zz9
 subst ex
 obtain rfl:u=Value.ref a:=rx
 exact ⟨Zdm I2 g,Zhg hu I2 g ry fun w' s3 I3 rw'=>⟨v,H2,I3,rw',q2⟩⟩
theorem Zgr (hu:X.A.units + 1 < cLine) (hi:PE X i ty) (ho:PE X o td):PC X .In i o (tDIn ty td):=by
 intro pins s σ H Q I h
 refine thn (hi pins s σ H _ I h) fun iv s1 zz22=>?_
 obtain ⟨y,H1,I1,ry,q1⟩:=zz22
 refine thn (ho pins s1 σ H1 _ I1 q1) fun u s2 zz9=>?_
 obtain ⟨x,H2,I2,rx,a,ov,ex,g,q2⟩:=zz9
 subst ex
 obtain rfl:u=Value.ref a:=rx
 exact d_in hu I2 g ry fun s3 I3=>⟨.bl ov.isSome,H2,I3,rfl,q2⟩
theorem Qz (hu:X.A.units + 1 < cLine) (hi:PE X i ty) (ho:PE X o td):PC X .NotIn i o (Zjn ty td):=by
 intro pins s σ H Q I h
 refine thn (hi pins s σ H _ I h) fun iv s1 zz23=>?_
 obtain ⟨y,H1,I1,ry,q1⟩:=zz23
 refine thn (ho pins s1 σ H1 _ I1 q1) fun u s2 zz9=>?_
 obtain ⟨x,H2,I2,rx,a,ov,ex,g,q2⟩:=zz9
 subst ex
 obtain rfl:u=Value.ref a:=rx
 exact Zkt hu I2 g ry fun s3 I3=>⟨.bl (!ov.isSome),H2,I3,rfl,q2⟩
theorem G5 (hu:X.A.units + 1 < cLine) (ho:PE X o td) (hi:PE X i ty) (hv:PE X value tv) (hs:swapsWith value (some (.Subscript o i pos')) pos.line X.env=pure false) :
  PS X (.Assign [.Subscript o i pos'] value pos) (Zmj td ty tv):=by
 intro pins s σ H D I h
 refine wpAny_Assign_Subscript (thn (hv pins s σ H _ I h) fun r s1 zz24=>?_) hs
 obtain ⟨v,H1,I1,rv,q1⟩:=zz24
 refine thn (ho pins s1 σ H1 _ I1 q1) fun u s2 zz25=>?_
 obtain ⟨x,H2,I2,rx,q2⟩:=zz25
 refine thn (hi pins s2 σ H2 _ I2 q2) fun iv s3 zz26=>?_
 obtain ⟨y,H3,I3,ry,a,H4,ex,g,q3⟩:=zz26
 subst ex
 obtain rfl:u=Value.ref a:=rx
 exact Zhf hu I3 g ry rv fun s4 I4=>⟨σ,H4,I4,q3⟩
end
theorem Kp {P:Program} {w:World} {H:Hp} (h:Heap) (hb:sysModules < h.objs.size):Ye P w H (h.push { cls:=.type "dict",data:=.dict #[] }) h.objs.size (.dK []) :=
 ⟨Nat.zero_le _,beq_eq_false_iff_ne.mpr (Ne.symm (Nat.ne_of_lt hb)),[],.nil,Heap.DictOf.new h⟩
noncomputable def Zk8:TE:=fun _ H Q=>∀ p,H p=none→Q (.ref p) (upd H p (.dK []))
section
variable {X:Cx} {pos:Pos}
theorem Vx:PE X (.Dict [] [] pos) Zk8:=fun pins s σ H Q I h =>
 wpAny_Dict_empty ⟨.ref s.heap.objs.size,_,I.laid (a:=s.heap.objs.size) (o:=.dK []) (t':=s.toks) (fun _ _ q=>Heap.get?_push_of_some _ q) (Nat.le_refl _) (Kp s.heap I.big),rfl,h _ (I.hok.fresh (Nat.le_refl _))⟩
end
structure M2 (X:Cx) (o:Expr) (m:Str) (apos:Pos) (e f:Expr) (cpos:Pos):Prop where
 base:attributeBase o m X.env (eval o X.env)=eval o X.env
 few:((backTo cpos (starEach [e,f] X.env)).all (fun x=>!x.1) && (backToKw cpos (keywordEach [] X.env)).all (fun x=>x.1.isSome)
  && decide (([e,f]:List Expr).length + ([]:List Keyword).length + (if ([]:List Keyword).isEmpty then 0 else 1) < 30))=true
 line:(apos.endLine == cpos.line)=true
 trees:backTo cpos (starEach [e,f] X.env)=[(false,eval e X.env),(false,eval f X.env)]
noncomputable def IsD (H:Hp) (a:Addr):Prop:=(∃ kvs,Rd H a (.dK kvs))∨∃ kvs,Rd H a (.dT kvs)
theorem Zcq {X:Cx} {pins:List (Addr × Obj)} {σ:St} {H:Hp} {s:Shared} {a:Addr} (I:Inv X pins σ H s) (d:IsD H a) :
  s.TypeIs (.ref a) "dict"∧(∀ b,Value.ref a=.ref b→∃ ob,s.heap.get? b=some ob∧ob.dict=none)∧(a == sysModules)=false:=by
 rcases d with ⟨kvs,e⟩ | ⟨kvs,e⟩
 ·obtain ⟨_,hd,vs,_,dd⟩:=J9 I.hok e
  refine ⟨dd.typeIs,fun b q=>?_,hd⟩
  cases q
  obtain ⟨ob,_,_,h1,h2,_⟩:=dd
  exact ⟨ob,h1,h2.2.1⟩
 ·obtain ⟨_,hd,xs,_,dd⟩:=Oi I.hok e
  refine ⟨dd.typeIs,fun b q=>?_,hd⟩
  cases q
  obtain ⟨ob,_,_,h1,h2,_⟩:=dd
  exact ⟨ob,h1,h2.2.1⟩
end L2
namespace Att
open PySem PySem.W PySem.Calls PyProof.Rows
theorem Gk {P:Params} {h:Heap}:∀ (ns:List Int) (vs:List Value),WellAll P h vs (ns.map WData.int)→IntsAre vs ns:=by
 intro ns
 induction ns with
 | nil =>
  intro vs w
  rw [List.map_nil] at w
  cases w
  exact .nil
 | cons n ns ih =>
  intro vs w
  rw [List.map_cons] at w
  cases w with
  | cons a b =>
   cases a
   exact .cons _ _ (ih _ b)
theorem Zgd {l:OpenLaw} {n:Nat} (hn:l.most=some n) {P:Params} {h:Heap} {args:List WData} {vals:List Value}
  (hpre:l.row.toRowW.claim.pre args=true) (hwl:WellAll P h vals args) :
  ∃ a vs ns,vals=[Value.ref a]∧args=[WData.list (ns.map WData.int)]∧h.get? a=some { cls:=.type "list",data:=.seq vs.toArray }∧IntsAre vs ns∧ns.length≤n:=by
 have hsh:WShape.hasAll [] args [.list .int]=true:=(pre_splitW hpre).1
 have hc:l.pre.holds [] { args:=args }=true:=(pre_splitW hpre).2
 obtain ⟨d,r,rfl,h1,h2⟩:=hasAllW_cons hsh
 obtain rfl:=hasAllW_nil h2
 obtain ⟨xs,rfl,h3⟩:=hasW_list h1
 obtain ⟨ns,rfl⟩:=items_int h3
 have hlen:ns.length≤n:=by
  unfold OpenLaw.pre at hc
  have h4:(WTm.not (.lt (.lit (.int (n:Int))) (.len (.arg 0)))).holds [] { args:=[.list (ns.map .int)] }=true:=by
   have h4:=(holds_andW hc).1
   rw [hn] at h4
   exact h4
  have h5:=condW_of h4 (w_not (w_lt w_lit (w_len_list (w_arg rfl))))
  rw [List.length_map] at h5
  refine Nat.le_of_not_lt fun q=>?_
  have q':(n:Int) < ((ns.length:Nat):Int):=by omega
  first
   | (rw [decide_eq_true q'] at h5; exact absurd h5 (by decide))
   | (simp at h5; omega)
 cases hwl with
 | cons w1 w2 =>
  cases w2
  cases w1 with
  | list ho hall=>exact ⟨_,_,ns,rfl,rfl,ho,Gk ns _ hall,hlen⟩
theorem Zgl (l:OpenLaw) (args:List WData):l.row.toRowW.claim.post args (.bool true) args=true :=
 postW_of (r:=l.row.toRowW) (X:=(true == true))
  (show WShape.has [] (.bool true) .bool=true by first | rfl | decide | simp [WShape.has,WShape.arms,WShape.armsAll])
  (show (WTm.eq .res (.lit (.bool true))).value [] { args:=args,res:=some (.bool true),after:=args }=some (.bool (true == true)) from w_eq_bool (w_res rfl) w_lit) rfl
theorem attach_call {l:OpenLaw} {n:Nat} {q:Program} {loose:List Str} {XP:(Str→Option Value)→Heap→Prop} {YP:World→Heap→Prop} {d:DefRec}
  (hn:l.most=some n) (hdf:d.params.defaults=[])
  (call:∀ (w:World) (s₀ s₁:Shared) (mg mb:Str→Option Value) (fa:Addr) (o:Obj) (pm cd doc:Value) (a:Addr) (vs:List Value) (ns:List Int),
   Ground q loose [] XP w s₀ mg mb s₁.heap→YP w s₁.heap →
   s₁.heap.get? fa=some o→o.data=.func (docDef d.name d.params d.body d.scope pm cd doc)→s₁.heap.CodeRec cd d.name→mg d.name=some (.ref fa) →
   s₁.heap.get? a=some { cls:=.type "list",data:=.seq vs.toArray }→IntsAre vs ns→ns.length≤n→s₁.gens=#[] →
   codeAny (model l.prog w) callerA (.call (.ref fa) ⟨[.ref a],[]⟩) (fun r s'=>r=.ok (.ret (.bool true))∧OldK s₁.heap s'.heap∧s'.os=s₁.os∧AllBare s'.gens) s₁) :
  WalkO q loose XP YP l.row.toRowW d [] (fun f vs=>PySem.call f vs):=by
 intro w s₀ s₁ mg mb G Y fa o pm cd doc dV kV ho hd hcd hD hmg hg args vals as hpre hlay hrd hwl hlo
 obtain rfl:dV=.none:=Dflts.none hD hdf
 obtain rfl:kV=.none:=Dflts.noKw hD
 obtain ⟨a,vs,ns,rfl,rfl,hobj,hints,hlen⟩:=Zgd hn hpre hwl
 refine enter_call (codeAny_mono (call w s₀ s₁ mg mb fa o pm cd doc a vs ns G Y ho (fd_plain hd) hcd hmg hobj hints hlen hg) fun r s' hq=>?_)
 obtain ⟨rfl,h2,h3,h4⟩:=hq
 exact ⟨.inl ⟨.bool true,.bool true,[],rfl,fun _=>rfl,.bool true,Zgl l _,fun _=>⟨List.Pairwise.nil,fun _ hm=>(nomatch hm)⟩⟩,h2,h3,h4⟩
end Att
namespace L2
open PySem PySem.Spec PyProof.Rows
theorem Fi:∀ {vs:List Value} {ns:List Int},IntsAre vs ns→Vals (ns.map V.int) vs
 | _,_,.nil=>.nil
 | _,_,.cons n t h=>.cons ⟨t,rfl⟩ (Fi h)
noncomputable def Only (H:Hp):Prop:=∀ b,H b=none∨∃ o xs,H b=some (.frz o (.lst xs))
theorem Zit {P:Program} {w:World} {K:PySem.W.Frag} {mg mb:Str→Option Value} {CX:CXT} {k:Nat} {fa a:Addr} {fd:FuncData} {x:Str} {sp:Sp} {s₁:Shared} {vs:List Value} {ns:List Int}
  (KX:K.In s₁.heap) (hns:s₁.heap.Ns mainGlobals mg) (hb:s₁.heap.Ns builtinsNs mb) (hbb:∀ x:Str,x≠"__name__"→mb x=bootBuiltins x) (hlim:s₁.heap.NoLimit) (hg:s₁.gens=#[])
  (ha:s₁.heap.get? a=some { cls:=.type "list",data:=.seq vs.toArray }) (hi:IntsAre vs ns) (hl:ns.length≤sizeLine) (hr:Room k callerA)
  (F:∀ base:Heap,K.In base→base.Ns mainGlobals mg→FnOk P w K mg base CX k fa fd [x] sp) (hbind:∀ (s:Shared) (u:Value),BindsTo s fd ⟨[u],[]⟩ [(x,u)])
  (hsp:∀ H:Hp,Only H→SqL K H a (ns.map V.int)→sp [.ref a] H (fun v _=>v=.bl true) fun _ _ _=>False)
  (hCX:∀ H e s',CX [] H s₁ (fun _ _ _=>False) e s'→False) :
  codeAny (model P w) callerA (.call (.ref fa) ⟨[.ref a],[]⟩) (fun r s'=>r=.ok (.ret (.bool true))∧OldK s₁.heap s'.heap∧s'.os=s₁.os∧AllBare s'.gens) s₁:=by
 have rv:=Fi hi
 have lenV:=hi.length
 have core:∀ H:Hp,Only H→SqL K H a (ns.map V.int)→HOk P w H s₁.heap→(∀ b,H b≠none→b=a)→(H a≠none→K.lookup a=none) →
   codeAny (model P w) callerA (.call (.ref fa) ⟨[.ref a],[]⟩) (fun r s'=>r=.ok (.ret (.bool true))∧OldK s₁.heap s'.heap∧s'.os=s₁.os∧AllBare s'.gens) s₁:=by
  intro H hO hS hok hA hK
  have base_of:∀ {b:Addr} {o:Obj},s₁.heap.get? b=some o→H b=none→(hidT s₁.heap H).get? b=some o:=fun e n=>Ziw e n
  have noA:∀ {b:Addr} {o:Obj} {es:Array DictEntry} {ep:Nat},s₁.heap.get? b=some o→o.data=.dict es ep→H b=none:=fun {b o es ep} e d=>by
   cases q:H b with
   | none=>rfl
   | some u =>
    have e':b=a:=hA b (by rw [q]; simp)
    subst e'
    rw [ha] at e; cases e
    have d':Data.seq vs.toArray _=Data.dict es ep:=d
    cases d'
  have nsK:∀ {b:Addr} {m:Str→Option Value},s₁.heap.Ns b m→(hidT s₁.heap H).Ns b m:=fun {b m} ⟨o,es,ep,e,d,r⟩=>⟨o,es,ep,base_of e (noA e d),d,r⟩
  have hKb:K.In (hidT s₁.heap H):=fun b o e=>base_of (KX b o e) (by
   cases q:H b with
   | none=>rfl
   | some u =>
    have e':b=a:=hA b (by rw [q]; simp)
    subst e'
    rw [hK (by rw [q]; simp)] at e; cases e)
  have hM:Mod K mg (hidT s₁.heap H):=⟨hKb,nsK hns,⟨mb,nsK hb,hbb⟩,let ⟨mc,h1,h2⟩:=hlim; ⟨mc,nsK h1,h2⟩⟩
  have e0:Env0 P w K mg (hidT s₁.heap H) callerA [] s₁ H:=⟨rfl,hM,fun b o e=>Zkg e,Nat.le_of_eq (Zg9 _ _),trivial,fun b hb=>absurd (show b∈([]:List Addr) from hb) (by simp),hok,.of_eq hg⟩
  refine codeAny_mono ((F _ hKb (nsK hns)).run callerA [] s₁ H ⟨[.ref a],[]⟩ [.ref a] [.ref a] _ _ hr e0 (hbind s₁ (.ref a)) (.cons rfl .nil) (hsp H hO hS)) fun r s' h=>?_
  cases r with
  | error e=>exact (hCX H e s' h).elim
  | ok fl =>
   cases fl with
   | next=>exact False.elim h
   | brk=>exact False.elim h
   | cont=>exact False.elim h
   | ret u =>
    obtain ⟨v,H',os,bare,un,hok',r',q⟩:=h
    have q':v=.bl true:=q
    subst q'
    obtain rfl:u=Value.bool true:=r'
    refine ⟨rfl,OldK.of_keep fun b o e=>?_,os,bare⟩
    cases q:H b with
    | none=>exact un.keep b o e q (by intro z; exact absurd (show b∈([]:List Addr) from z) (by simp)) (by simp)
    | some u =>
     rcases hO b with z | ⟨ob,xs,z⟩
     ·rw [q] at z; cases z
     ·have z2:=un.frzs b ob _ z
      obtain ⟨e1,_⟩:=hok b _ z
      obtain ⟨e2,_⟩:=hok' b _ z2
      rw [e] at e1; cases e1
      exact e2
 cases hk:K.lookup a with
 | some o =>
  have e:=KX a o hk
  rw [ha] at e
  cases e
  refine core (fun _=>none) (fun _=>.inl rfl) (.inr ⟨_,vs.toArray,_,hk,rfl,rfl,rfl,by rw [List.size_toArray,lenV]; exact hl,by simpa using rv⟩) (fun b u z=>by have z':(none:Option HO)=some u:=z; cases z') (fun b z=>absurd rfl z) fun z=>absurd rfl z
 | none =>
  refine core (fun b=>if b=a then some (.frz { cls:=.type "list",data:=.seq vs.toArray } (.lst (ns.map V.int))) else none) (fun b=>?_) (.inl (.inr ⟨{ cls:=.type "list",data:=.seq vs.toArray },if_pos rfl⟩)) (fun b u z=>?_) (fun b z=>?_) fun _=>hk
  ·by_cases hb:b=a
   ·exact .inr ⟨_,_,if_pos hb⟩
   ·exact .inl (if_neg hb)
  ·by_cases hb:b=a
   ·have z':=(if_pos hb).symm.trans z
    cases z'
    subst hb
    exact ⟨ha,by rw [List.length_map]; exact hl,vs,_,rv,ha⟩
   ·have z':=(if_neg hb).symm.trans z
    cases z'
  ·by_cases hb:b=a
   ·exact hb
   ·exact absurd (if_neg hb) z
end L2
namespace L2
open PySem PySem.Spec PyProof.Rows
noncomputable abbrev KOf {K:PySem.W.Frag} {h:Heap} (_:K.In h):PySem.W.Frag:=K
theorem Zjh {l:PySem.W.OpenLaw} {n k:Nat} {q:Program} {loose:List Str} {XP:(Str→Option Value)→Heap→Prop} {YP:World→Heap→Prop} {d:DefRec} {K:Params→PySem.W.Frag} {CX:World→CXT} {sp:World→Sp} {x:Str}
  (hn:l.most=some n) (hn2:n≤sizeLine) (hdf:d.params.defaults=[]) (hr:Room k callerA)
  (hY:∀ (w:World) (h:Heap),YP w h→(K w.params).In h)
  (F:∀ (w:World) (mg:Str→Option Value) (fa:Addr) (h:Heap),(K w.params).In h→h.Ns mainGlobals mg→mg d.name=some (.ref fa) →
   ∃ fd:FuncData,(∀ (s:Shared) (u:Value),BindsTo s fd ⟨[u],[]⟩ [(x,u)]) ∧
    ∀ base:Heap,(K w.params).In base→base.Ns mainGlobals mg→FnOk l.prog w (K w.params) mg base (CX w) k fa fd [x] (sp w))
  (hsp:∀ (w:World) (H:Hp) (a:Addr) (ns:List Int),ns.length≤n→Only H→SqL (K w.params) H a (ns.map V.int)→sp w [.ref a] H (fun v _=>v=.bl true) fun _ _ _=>False)
  (hCX:∀ (w:World) (H:Hp) (s:Shared) (e:Value) (s':Shared),CX w [] H s (fun _ _ _=>False) e s'→False) :
  PySem.W.WalkO q loose XP YP l.row.toRowW d [] (fun f vs=>PySem.call f vs):=by
 refine Att.attach_call hn hdf fun w s₀ s₁ mg mb fa o pm cd doc a vs ns G Y ho hd hcd hmg hobj hints hlen hg=>?_
 have KX:=hY w _ Y
 obtain ⟨fd,hb,hF⟩:=F w mg fa _ KX G.T.g hmg
 exact Zit KX G.T.g G.T.b G.T.builtins G.T.nolimit hg hobj hints (Nat.le_trans hlen hn2) hr hF hb (fun H hO hS=>hsp w H a ns hlen hO hS) fun H e s'=>hCX w H s₁ e s'
end L2
namespace L2
open PySem PySem.Spec PyProof.Rows
noncomputable def Yj (s:Stmt) (j:Nat):Stmt:=match s with
 | .ClassDef _ _ _ body _ _ _ _ _ _ _=>body.getD j (.Pass ⟨0,0,0,0⟩)
 | _=>.Pass ⟨0,0,0,0⟩
noncomputable def Y4 (s:Stmt):Arguments:=match s with
 | .FunctionDef _ a _ _ _ _ _ _ _ _=>a
 | _=>{ posonlyargs:=[],args:=[],vararg:=none,kwonlyargs:=[],kw_defaults:=[],kwarg:=none,defaults:=[] }
noncomputable def Ym (s:Stmt):List Stmt:=match s with
 | .FunctionDef _ _ b _ _ _ _ _ _ _=>b
 | _=>[]
noncomputable def Zg (s:Stmt):Scope:=match s with
 | .FunctionDef _ _ _ _ _ _ sc _ _ _=>sc
 | _=>{ kind:=.function,names:=[],isGenerator:=false,isCoroutine:=false }
noncomputable abbrev E0:XK:=fun _ _ _=>False
structure Fun (K:PySem.W.Frag) (x qual:Str) (st:Stmt) (f:Addr) (fd:FuncData):Prop where
 ex:∃ (oc:Value) (od:Option Addr) (kV doc pm:Value) (an:Option Addr) (cdv ct:Value) (osl:Array (Option Value)),
  fd=PySem.W.fnOf x qual (Y4 st) (Ym st) (Zg st) .none kV doc pm an cdv ct∧K.lookup f=some ⟨oc,od,.func fd,osl⟩∧PySem.W.codeIn K cdv qual=true
 kp:PySem.W.keepIn K (.ref f)=true
section
variable {P:Program} {w:World} {K:PySem.W.Frag} {mg:Str→Option Value} {base:Heap}
theorem Fun.binds {x qual:Str} {st:Stmt} {f:Addr} {fd:FuncData} {ps:List Str} (F:Fun K x qual st f fd)
  (h:∀ (kV doc pm:Value) (an:Option Addr) (cdv ct:Value) (us:List Value),us.length=ps.length→bindArgs (PySem.W.fnOf x qual (Y4 st) (Ym st) (Zg st) .none kV doc pm an cdv ct) ⟨us,[]⟩=pure (ps.zip us)):Wh K fd ps []:=by
 obtain ⟨oc,od,kV,doc,pm,an,cdv,ct,osl,rfl,lk,hcd⟩:=F.ex
 exact .all (h kV doc pm an cdv ct)
theorem Gn {x qual:Str} {st:Stmt} {f:Addr} {oc:Value} {od an:Option Addr} {osl:Array (Option Value)} {kV doc pm cdv ct:Value} (l:K.lookup f=some ⟨oc,od,.func (PySem.W.fnOf x qual (Y4 st) (Ym st) (Zg st) .none kV doc pm an cdv ct),osl⟩)
  (c:PySem.W.codeIn K cdv qual=true) (k:PySem.W.keepIn K (.ref f)=true):Fun K x qual st f (PySem.W.fnOf x qual (Y4 st) (Ym st) (Zg st) .none kV doc pm an cdv ct):=⟨⟨oc,od,kV,doc,pm,an,cdv,ct,osl,rfl,l,c⟩,k⟩
end
theorem Xy {A:Around} {k:Nat} (hr:Room k A):A.units + 1 < cLine:=Nat.lt_of_le_of_lt (Nat.add_le_add_left (by decide:1≤64) _) hr.units
theorem Zx {n:Nat} (h:n≤1000):n < sizeLine:=Nat.lt_of_le_of_lt h (by decide)
section
variable {X:Cx}
theorem pv (i:Nat) {x:Str} {pos:Pos} (hN:X.N[i]?=some x:=by rfl) (hv:Vis X.env.scope x:=by first | exact Or.inl rfl | exact Or.inr (Or.inl rfl) | exact Or.inr (Or.inr rfl)) (hd:(x == ("__debug__":Str))=false:=by decide)
  (hcd:(x == ("__classdict__":Str))=false:=by decide):PE X (.Name x pos) (tVar i):=Zlk hN hv hd hcd
end
theorem iteF {A B:Prop} (h:B):if false=true then A else B:=by
 rw [if_neg Bool.false_ne_true]
 exact h
theorem iteT {A B:Prop} (h:A):if true=true then A else B:=by
 rw [if_pos rfl]
 exact h
theorem ite2 {c A B:Prop} [Decidable c] (h1:c→A) (h2:¬ c→B):if c then A else B:=by
 by_cases h:c
 ·rw [if_pos h]
  exact h1 h
 ·rw [if_neg h]
  exact h2 h
noncomputable def Same (H H':Hp):Prop:=∀ b o,H b=some o→H' b=some o
theorem Same.refl (H:Hp):Same H H:=fun _ _ h=>h
theorem Same.trans {H H1 H2:Hp} (a:Same H H1) (b:Same H1 H2):Same H H2:=fun c o h=>b c o (a c o h)
theorem Same.free {H H':Hp} (e:Same H H') {l:Addr} (h:H' l=Option.none):H l=Option.none:=by
 cases q:H l with
 | none=>rfl
 | some o =>
  rw [e l o q] at h
  cases h
theorem Same.seq {K:PySem.W.Frag} {H H':Hp} {a:Addr} {xs:List V} (e:Same H H') (h:SqL K H a xs):SqL K H' a xs:=by
 rcases h with (h | ⟨o,h⟩) | h
 ·exact .inl (.inl (e _ _ h))
 ·exact .inl (.inr ⟨o,e _ _ h⟩)
 ·exact .inr h
end L2
set_option maxHeartbeats 4000000
namespace L2
open PySem PySem.Spec PyProof.Rows
noncomputable def Yo (env:Env):List (Str × NameKind)→List (Str × Addr)→List (Str × Addr)
 | [],acc=>acc
 | (n,k) :: r,acc=>if (k == NameKind.free)=true then (match env.cells.lookup n with
  | some c=>Yo env r ((n,c) :: acc)
  | none=>Yo env r acc) else Yo env r acc
theorem Ww {env:Env}:∀ (ns:List (Str × NameKind)) (acc:List (Str × Addr)),(∀ x c,acc.lookup x=some c→env.cells.lookup x=some c) →
  ∀ x c,(Yo env ns acc).lookup x=some c→env.cells.lookup x=some c
 | [],acc,h=>h
 | (n,k) :: r,acc,h=>by
  unfold Yo
  split
  ·cases e:env.cells.lookup n with
   | none=>exact Ww r acc h
   | some c =>
    refine Ww r _ fun x d hx=>?_
    rw [List.lookup_cons] at hx
    cases hb:x == n with
    | true =>
     rw [hb] at hx
     cases hx
     rw [beq_iff_eq.mp hb]
     exact e
    | false =>
     rw [hb] at hx
     exact h x d hx
  ·exact Ww r acc h
theorem Wx {env:Env}:∀ (ns:List (Str × NameKind)) (acc:List (Str × Addr)) (x:Str),(∃ c,acc.lookup x=some c)→∃ c,(Yo env ns acc).lookup x=some c
 | [],acc,x,h=>h
 | (n,k) :: r,acc,x,h=>by
  unfold Yo
  split
  ·cases e:env.cells.lookup n with
   | none=>exact Wx r acc x h
   | some c =>
    refine Wx r _ x ?_
    rw [List.lookup_cons]
    cases hb:x == n with
    | true=>exact ⟨c,rfl⟩
    | false=>exact h
  ·exact Wx r acc x h
theorem Ju {env:Env}:∀ (ns:List (Str × NameKind)) (acc:List (Str × Addr)) (x:Str),(x,NameKind.free)∈ns→(∃ c,env.cells.lookup x=some c)→∃ c,(Yo env ns acc).lookup x=some c
 | [],acc,x,h,_=>by cases h
 | (n,k) :: r,acc,x,h,hc=>by
  rcases List.mem_cons.mp h with e | h
  ·cases e
   obtain ⟨c,hc⟩:=hc
   unfold Yo
   rw [if_pos (show (NameKind.free == NameKind.free)=true by decide),hc]
   exact Wx r _ n ⟨c,by rw [List.lookup_cons,beq_self_eq_true]⟩
  ·unfold Yo
   split
   ·cases e:env.cells.lookup n with
    | none=>exact Ju r acc x h hc
    | some c=>exact Ju r _ x h hc
   ·exact Ju r acc x h hc
theorem V4 {env:Env} (f:Str × NameKind→List (Str × Addr)→Sem (ForInStep (List (Str × Addr))))
  (hf:∀ name kind cs,f (name,kind) cs=if (kind == NameKind.free)=true then (do let a ← cellOf env name; pure (.yield ((name,a) :: cs))) else pure (.yield cs)) :
  ∀ (ns:List (Str × NameKind)) (acc:List (Str × Addr)),(∀ y∈ns,y.2=.free→∃ c,env.cells.lookup y.1=some c)→forIn ns acc f=pure (Yo env ns acc)
 | [],acc,_=>by rw [List.forIn_nil]; rfl
 | (n,k) :: r,acc,h=>by
  rw [List.forIn_cons,hf]
  unfold Yo
  have hr:∀ y∈r,y.2=.free→∃ c,env.cells.lookup y.1=some c:=fun y hy=>h y (List.mem_cons_of_mem _ hy)
  split
  ·rename_i hk
   obtain ⟨c,hc⟩:=h (n,k) List.mem_cons_self (by simpa using hk)
   have hc':env.cells.lookup n=some c:=hc
   have e:cellOf env n=pure c:=by unfold cellOf; rw [hc']
   rw [e,hc']
   exact V4 f hf r ((n,c) :: acc) hr
  ·exact V4 f hf r acc hr
theorem Q8 {env:Env} {scope:Scope} (h:∀ y∈scope.names,y.2=.free→∃ c,env.cells.lookup y.1=some c):closureFor scope env=pure (Yo env scope.names []):=by
 unfold closureFor
 dsimp only
 rw [V4 (env:=env) _ (fun name kind cs=>by split <;> rfl) scope.names [] h]
 rfl
theorem Je (env:Env):∀ (names:List (Str × NameKind)) (x:Str),
  (names.map fun (n,k)=>if (k == NameKind.free && env.scope.kind == .function && env.kindOf n == some .cell) then (n,NameKind.cell) else (n,k)).lookup x =
   (names.lookup x).map fun k=>if (k == NameKind.free && env.scope.kind == .function && env.kindOf x == some .cell)=true then NameKind.cell else k
 | [],_=>rfl
 | (n,k) :: r,x=>by
  have ih:=Je env r x
  have e:(if (k == NameKind.free && env.scope.kind == .function && env.kindOf n == some .cell)=true then (n,NameKind.cell) else (n,k))=(n,if (k == NameKind.free && env.scope.kind == .function && env.kindOf n == some .cell)=true then NameKind.cell else k):=by split <;> rfl
  show List.lookup x ((if (k == NameKind.free && env.scope.kind == .function && env.kindOf n == some .cell)=true then (n,NameKind.cell) else (n,k)) :: _)=_
  rw [e,List.lookup_cons,List.lookup_cons]
  cases hx:x == n with
  | true =>
   have e2:x=n:=beq_iff_eq.mp hx
   subst e2
   rfl
  | false=>exact ih
theorem Uv {env:Env} {names:List (Str × NameKind)} {x:Str} {k:NameKind} (hc:∀ y∈names,y.2≠.cell)
  (h:(names.map fun (n,k)=>if (k == NameKind.free && env.scope.kind == .function && env.kindOf n == some .cell) then (n,NameKind.cell) else (n,k)).lookup x=some k) (hk:k=.cell∨k=.free):names.lookup x=some .free:=by
 rw [Je] at h
 cases e:names.lookup x with
 | none=>rw [e] at h; cases h
 | some k' =>
  rw [e] at h
  have hk':k'≠.cell:=hc _ (PySem.mem_of_lookup e)
  have h':(if (k' == NameKind.free && env.scope.kind == .function && env.kindOf x == some .cell)=true then NameKind.cell else k')=k:=Option.some.inj h
  split at h'
  ·rename_i q
   simp only [Bool.and_eq_true,beq_iff_eq] at q
   rw [q.1.1]
  ·subst h'
   rcases hk with z | z
   ·exact absurd z hk'
   ·rw [z]
theorem K8 {env:Env} {names:List (Str × NameKind)} {x:Str} (h:names.lookup x=some .free) :
  (names.map fun (n,k)=>if (k == NameKind.free && env.scope.kind == .function && env.kindOf n == some .cell) then (n,NameKind.cell) else (n,k)).lookup x≠some .local:=by
 rw [Je,h]
 intro z
 have z':(if (NameKind.free == NameKind.free && env.scope.kind == .function && env.kindOf x == some .cell)=true then NameKind.cell else NameKind.free)=.local:=Option.some.inj z
 split at z' <;> cases z'
noncomputable def Yd (X:Cx) (N':List Str) (scope:Scope) (C:Addr) (s₀:Shared) (H₀:Hp) (ex:List Addr):Cx :=
 { X with N:=N',s₀:=s₀,H₀:=H₀,env:=compEnvC scope (Yo X.env scope.names []) C X.env,outer:=X.stack,ex:=ex,fn:=fun _=>false,pn:=[],xe:=fun _ _=>False }
noncomputable def FvOk (X:Cx) (scope:Scope):List (Str × Nat)→Prop
 | []=>True
 | (x,j) :: r=>(X.N[j]?=some x∧scope.names.lookup x=some .free∧(X.env.kindOf x=some .cell∨X.env.kindOf x=some .free))∧FvOk X scope r
theorem FvOk.mem {X:Cx} {scope:Scope}:∀ {l:List (Str × Nat)},FvOk X scope l→∀ y∈l,X.N[y.2]?=some y.1∧scope.names.lookup y.1=some .free∧(X.env.kindOf y.1=some .cell∨X.env.kindOf y.1=some .free)
 | [],_,_,h=>by cases h
 | (x,j) :: r,h,y,hy=>by
  rcases List.mem_cons.mp hy with e | hy
  ·cases e; exact h.1
  ·exact FvOk.mem h.2 y hy
noncomputable def blkN (ts:List Str) (fv:List (Str × Nat)):List Str:=ts ++ fv.map (·.1)
noncomputable def blkS (ts:List Str) (fv:List (Str × Nat)) (σ:St):St:=ts.map (fun _=>none) ++ fv.map fun y=>(σ[y.2]?).join
structure BlkOk (X:Cx) (scope:Scope) (fv:List (Str × Nat)):Prop where
 kind:scope.kind=.function
 nocell:∀ y∈scope.names,y.2≠.cell
 names:∀ y∈scope.names,y.2=.local→scope.names.lookup y.1=some .local
 free:∀ y∈scope.names,y.2=.free→X.env.kindOf y.1=some .cell∨X.env.kindOf y.1=some .free
 fvs:FvOk X scope fv
section
variable {X:Cx} {pins:List (Addr × Obj)} {σ:St} {H:Hp} {s:Shared} {scope:Scope} {ts:List Str} {fv:List (Str × Nat)}
theorem F6 {h':Heap} {fp:List Addr} {tk:Nat} (B:BlkOk X scope fv) (I:Inv X pins σ H s) (hf:∀ b∈fp,FpOk X pins H b) (ho:∀ b∈fp,∃ o,s.heap.get? b=some o)
  (hn:h'.Ns s.heap.objs.size (fun _=>none)) (hk:∀ b o,s.heap.get? b=some o→h'.get? b=some o) :
  Inv (Yd X (blkN ts fv) scope s.heap.objs.size s H fp) [] (blkS ts fv σ) H { s with heap:=h',toks:=tk }:=by
 have has:∀ y∈scope.names,y.2=.free→∃ c,X.env.cells.lookup y.1=some c:=fun y hy e=>I.ok.has y.1 (B.free y hy e)
 have snd:∀ x c,(Yo X.env scope.names []).lookup x=some c→X.env.cells.lookup x=some c:=Ww _ _ (fun x c h=>by simp at h)
 have fr:∀ x,(scope.names.lookup x=some .free)→∃ c,(Yo X.env scope.names []).lookup x=some c:=fun x hx =>
  Ju _ _ x (PySem.mem_of_lookup hx) (has _ (PySem.mem_of_lookup hx) rfl)
 have nfs:∀ b∈fp,b ∉ frs X.stack:=fun b hb z=>by
  obtain ⟨_,h1,h2,_⟩:=hf b hb
  rcases List.mem_cons.mp (I.stkSub b z) with e | e
  ·exact h1 e
  ·exact h2 e
 have lt:∀ b∈fp,b < s.heap.objs.size:=fun b hb=>let ⟨o,e⟩:=ho b hb; Heap.lt_size e
 refine ⟨⟨I.ok.mod,?_,I.ok.glob,I.ok.blt,Nat.le_refl _,fun x y c h1 h2=>I.ok.inj x y c (snd x c h1) (snd y c h2),fun x hx=>?_,fun _ _ h=>absurd (show false=true from h) Bool.false_ne_true,I.ok.hd,I.ok.frames,.inl rfl,fun b hb=>⟨Nat.ne_of_lt (lt b hb),fun x c e=>(hf b hb).2.2.2.2.1 x c (snd x c e)⟩,I.bs,Nat.le_trans I.ok.bsz I.sz,fun b o e hb=>?_,nfs,I.stack,I.stkFree⟩,
  rfl,I.bare,Un.kept hk,⟨_,hn,fun i x v h1 h2 h3=>?_⟩,fun x c e=>?_,I.fresh,fun x c e=>I.freeC x c (snd x c e),fun p hp=>?_,I.hok.kept hk,?_⟩
 ·exact B.kind
 ·refine fr x ?_
  have hx':(relabel scope X.env).names.lookup x=some .cell∨(relabel scope X.env).names.lookup x=some .free:=hx
  rcases hx' with e | e
  ·exact Uv B.nocell e (.inl rfl)
  ·exact Uv B.nocell e (.inr rfl)
 ·rcases (hf b hb).2.2.2.1 with z | z
  ·exact I.ok.noex b o e z
  ·exact absurd (Nat.lt_of_lt_of_le (Heap.lt_size e) (Nat.le_trans I.ok.bsz z)) (Nat.lt_irrefl _)
 ·have h1:(ts ++ fv.map (·.1))[i]?=some x:=h1
  have h2:(ts.map (fun _=>(none:Option V)) ++ fv.map fun y=>(σ[y.2]?).join)[i]?=some (some v):=h2
  by_cases hi:i < ts.length
  ·rw [List.getElem?_append_left (by simpa using hi),List.getElem?_map] at h2
   cases e:ts[i]? with
   | none=>rw [e] at h2; cases h2
   | some z=>rw [e] at h2; cases h2
  ·rw [List.getElem?_append_right (by simpa using hi),List.length_map,List.getElem?_map] at h2
   rw [List.getElem?_append_right (by simpa using hi),List.getElem?_map] at h1
   cases e:fv[i - ts.length]? with
   | none=>rw [e] at h2; cases h2
   | some y =>
    rw [e] at h1 h2
    have e1:y.1=x:=by simpa using h1
    have e2:(σ[y.2]?).join=some v:=by simpa using h2
    obtain ⟨f1,f2,f3⟩:=B.fvs.mem y (List.mem_of_getElem? e)
    have e3:σ[y.2]?=some (some v):=by
     cases q:σ[y.2]? with
     | none=>rw [q] at e2; cases e2
     | some z=>rw [q] at e2; exact congrArg some e2
    obtain ⟨m,hm,hl⟩:=I.loc
    obtain ⟨u,r,l⟩:=hl y.2 y.1 v f1 e3 (by rcases f3 with z | z; exact .inr (.inl z); exact .inr (.inr z))
    rw [e1] at f2 f3 l
    refine ⟨u,r,?_⟩
    obtain ⟨c,hc⟩:=fr x f2
    have hc':=snd x c hc
    rcases l with ⟨l1,_⟩ | ⟨_,c2,l2,l3⟩
    ·rcases f3 with z | z
     ·rw [l1] at z; cases z
     ·rw [l1] at z; cases z
    ·rw [hc'] at l2
     cases l2
     have hv:Vis (relabel scope X.env) x:=h3
     rcases hv with z | z | z
     ·exfalso
      exact K8 f2 z
     ·exact .inr ⟨.inl z,c,hc,l3.keeps hk⟩
     ·exact .inr ⟨.inr z,c,hc,l3.keeps hk⟩
 ·obtain ⟨v,z⟩:=I.cell x c (snd x c e)
  exact ⟨v,z.keeps hk⟩
 ·exact absurd (show p∈([]:List (Addr × Obj)) from hp) (by simp)
 ·show (ts.map (fun _=>(none:Option V)) ++ fv.map fun y=>(σ[y.2]?).join).length=(ts ++ fv.map (·.1)).length
  simp
theorem Inv.apart {C:Addr} {h':Heap} (I:Inv X pins σ H s) (hs:Heap.SameBut C s.heap h') (hC:H C=none) (h0:X.s₀.heap.objs.size≤C) (hL:C≠X.env.locals) (hc:∀ x c,X.env.cells.lookup x=some c→c≠C) (hp:∀ p∈X.pn ++ pins,p.1≠C) :
  Inv X pins σ H { s with heap:=h' } :=
 I.turned (t':=s.toks) (it:=C) (fun b o hb e=>(hs.2 b hb).trans e) hC hL (.inr h0) hc hp
theorem Zej {s':Shared} {H':Hp} {σ':St} {C:Addr} {N':List Str} {fp:List Addr} (I:Inv X pins σ H s) (hf:∀ b∈fp,FpOk X pins H b) (hC:s.heap.objs.size≤C)
  (J:Inv (Yd X N' scope C s H fp) [] σ' H' s'):Inv X pins σ H' s'∧H' C=none∧X.s₀.heap.objs.size≤C∧C≠X.env.locals∧(∀ x c,X.env.cells.lookup x=some c→c≠C)∧(∀ p∈X.pn ++ pins,p.1≠C):=by
 refine ⟨I.call' J.os J.base J.hok J.bare fun b hb=>?_,J.free,Nat.le_trans I.sz hC,Nat.ne_of_gt (Nat.lt_of_lt_of_le I.lt hC),fun x c e z=>?_,fun p hp z=>?_⟩
 ·obtain ⟨_,h1,_,h3,h4,h5⟩:=hf b hb
  exact ⟨h3,h1,h4,h5⟩
 ·obtain ⟨v,q⟩:=I.cell x c e
  exact absurd (Nat.lt_of_lt_of_le q.lt (by rw [z]; exact hC)) (Nat.lt_irrefl _)
 ·exact absurd (Nat.lt_of_lt_of_le (Heap.lt_size (I.pin p hp).1) (by rw [z]; exact hC)) (Nat.lt_irrefl _)
end
end L2
set_option maxHeartbeats 4000000
namespace L2
open PySem PySem.Spec PyProof.Rows
noncomputable abbrev TB:=St→Hp→(St→Hp→Prop)→Prop
noncomputable def PTs (X:Cx) (ifs:List Expr) (t:TT):Prop :=
 ∀ (pins:List (Addr × Obj)) (s:Shared) (σ:St) (H:Hp) (Q:Bool→Hp→Prop),Inv X pins σ H s→t σ H Q →
  wpAny (model X.prog X.w) X.A (forIn ifs true fun c r=>if r=true then do let ok ← isTrue c X.env (eval c X.env); pure (ForInStep.yield ok) else pure (ForInStep.yield r)) (TP X pins σ Q) X.xe s
noncomputable def tYes:TT:=fun _ H Q=>Q true H
theorem Yl {X:Cx}:PTs X [] tYes:=fun pins s σ H Q I h=>wpAny_tests_nil ⟨H,I,h⟩
theorem Oa {X:Cx} {c:Expr} {t:TT} (h:PT X c t):PTs X [c] t:=fun pins s σ H Q I hq=>wpAny_tests_one (h pins s σ H Q I hq)
noncomputable def PB (X:Cx) (kont:Sem Fin) (c:Code) (t:TB):Prop :=
 ∀ (pins:List (Addr × Obj)) (s:Shared) (σ:St) (H:Hp) (N:St→Hp→Prop),Inv X pins σ H s→t σ H N →
  wpAny (model X.prog X.w) X.A kont (fun fin s'=>fin=.again c∧∃ σ' H',Inv X pins σ' H' s'∧N σ' H') X.xe s
noncomputable def Wg (J:It) (g:TG) (tt:TT) (tb:TB) (R:St→Hp→Prop) (σ:St) (H:Hp):Prop :=
 ∃ W:Nat→Nat→St→Hp→Prop,(∃ m,W 0 m σ H)∧∀ i m σ H,W i m σ H →
  (J.stop i H∧R σ H)∨(J.go i H∧∃ N:St→Hp→Prop,(∀ σ' H',N σ' H'→∃ m',m' < m∧W (i + 1) m' σ' H') ∧
   ∀ x H',J.yld i H x H'→g x σ H' fun σ2 H2=>tt σ2 H2 fun b H3=>if b=true then tb σ2 H3 N else N σ2 H3)
section
variable {X:Cx}
theorem U6 {e tg:Expr} {d:Nat} {acc:Value} {ifs:List Expr} {kont:Sem Fin} {J:It} {fp:List Addr} {it:Addr} {tn:Nat→Heap→Prop} {g:TG} {tt:TT} {tb:TB} {p:Pos} {pins:List (Addr × Obj)} {s:Shared} {σ:St} {H:Hp} {R:St→Hp→Prop}
  {RR:Result→Shared→Prop} (hxe:X.xe=fun _ _=>False)
  (hcq:Code.quiet (.compLoop e d (.ref it) acc X.env)=true) (hden:(model X.prog X.w).den (.compLoop e d (.ref it) acc X.env)=(compTurn e d (.ref it) acc X.env).onRaise (fun x=>do noteFrame x X.env; theTreesLotGoes x))
  (hund:X.A.under (.compLoop e d (.ref it) acc X.env)=X.A)
  (heq:compTurn e d (.ref it) acc X.env=(standAt p >>= fun _=>pyNext (.ref it) >>= fun r=>match r with
   | none=>pure (.done .next)
   | some v=>letOwnedTupleGo tg (.ref it) v >>= fun _=>assign tg X.env v >>= fun _ =>
    (forIn ifs true fun c r=>if r=true then do let ok ← isTrue c X.env (eval c X.env); pure (ForInStep.yield ok) else pure (ForInStep.yield r)) >>= fun ok =>
     if ok=true then kont else again (.compLoop e d (.ref it) acc X.env)))
  (T:Turn X.prog X.w X.K tg J fp it tn) (hc:X.calm=true) (hg:PG X tg g) (ht:PTs X ifs tt) (hb:PB X kont (.compLoop e d (.ref it) acc X.env) tb)
  (hf:∀ b∈fp,FpOk X pins H b) (I:Inv X pins σ H s) (st:tn 0 s.heap) (h:Wg J g tt tb R σ H)
  (hR:∀ s' σ' H',Inv X pins σ' H' s'→R σ' H'→RR (.ok .next) s') :
  codeAny (model X.prog X.w) X.A (.compLoop e d (.ref it) acc X.env) RR s:=by
 obtain ⟨W,⟨m0,w0⟩,turn⟩:=h
 have stat:∀ {H':Hp},(∀ b∈fp,H' b=none)→∀ b∈fp,FpOk X pins H' b:=fun hn b hb=>⟨hn b hb,(hf b hb).2⟩
 refine codeAny_loop hcq (fun n s'=>∃ i σ' H',Inv X pins σ' H' s'∧tn i s'.heap∧(∀ b∈fp,H' b=none)∧W i n σ' H') ?_ m0 ⟨0,σ,H,I,st,fun b hb=>(hf b hb).1,w0⟩
 rintro n s3 ⟨i,σ3,H3,I3,st3,fr3,w3⟩
 rw [hden,hund]
 refine wpAny_noted (wpAny_mono (E:=fun _ _=>False) ?_ (fun _ _ q=>q) fun _ _ z=>z.elim)
 rw [heq]
 have hxe':∀ {α:Type} {t:Sem α} {Q:α→Shared→Prop} {s:Shared},wpAny (model X.prog X.w) X.A t Q X.xe s→wpAny (model X.prog X.w) X.A t Q (fun _ _=>False) s:=fun h=>by rw [hxe] at h; exact h
 refine wpAny_bind (wpAny_standAt (wpAny_bind ?_))
 rcases turn i n σ3 H3 w3 with ⟨stop,qn⟩ | ⟨go,N,hN,step⟩
 ·refine thn (T.done X rfl rfl rfl hc i pins s3 σ3 H3 _ I3 (stat fr3) st3 stop) fun r s4 ⟨hr,I4⟩=>?_
  subst hr
  exact wpAny_pure (hR s4 σ3 H3 I4 qn)
 ·refine thn (T.item X rfl rfl rfl hc i pins s3 σ3 H3 _ I3 (stat fr3) st3 go) fun r s4 ⟨u,hr,h4⟩=>?_
  subst hr
  refine wpAny_bind (thn h4 fun _ s5 zz9=>?_)
  obtain ⟨x,H5,I5,r5,y5,st5,fr5⟩:=zz9
  have I5':=I5.pinned (stat fr5) (T.obj _ _ st5)
  refine wpAny_bind (hxe' (thn (hg _ s5 σ3 H5 x u _ I5' r5 (step x H5 y5)) fun _ s6 zz9=>?_))
  obtain ⟨σ6,H6,I6,q6⟩:=zz9
  refine wpAny_bind (hxe ▸ thn (ht _ s6 σ6 H6 _ I6 q6) fun ok s7 zz9=>?_)
  obtain ⟨H7,I7,q7⟩:=zz9
  have back:∀ {σ7:St} {H7:Hp} {s7:Shared},Inv X (pins ++ Ux fp s5.heap) σ7 H7 s7→N σ7 H7→∃ m,m < n∧∃ i σ' H',Inv X pins σ' H' s7∧tn i s7.heap∧(∀ b∈fp,H' b=none)∧W i m σ' H':=fun {σ7 H7 s7} I7 n7=>by
   obtain ⟨m',hm,w7⟩:=hN σ7 H7 n7
   refine ⟨m',hm,i + 1,σ7,H7,I7.unpinned,T.keep _ _ _ st5 fun b hb o e=>(I7.pin (b,o) (List.mem_append_right _ (List.mem_append_right _ (J7 hb e)))).1,fun b hb=>?_,w7⟩
   obtain ⟨o,e,d⟩:=T.obj _ _ st5 b hb
   exact (I7.pin (b,o) (List.mem_append_right _ (List.mem_append_right _ (J7 hb e)))).2.1
  cases ok with
  | false=>exact hxe ▸ wpAny_pure ⟨rfl,back I7 q7⟩
  | true =>
   refine thn (hb _ s7 σ6 H7 N I7 q7) fun fin s8 zz9=>?_
   obtain ⟨hfin,σ8,H8,I8,q8⟩:=zz9
   subst hfin
   exact ⟨rfl,back I8 q8⟩
end
end L2
set_option maxHeartbeats 4000000
namespace L2
open PySem PySem.Spec PyProof.Rows
noncomputable def Zi5 (te:TE) (D:Addr):TB:=fun σ H N=>te σ H fun v H1=>∃ xs,H1 D=some (.lst xs)∧xs.length < sizeLine∧N σ (upd H1 D (.lst (xs ++ [v])))
section
variable {X:Cx}
theorem Yu {elt:Expr} {te:TE} {D:Addr} {c:Code} (he:PE X elt te) :
  PB X ((eval elt X.env >>= fun x=>call (.builtin "list.append") [.ref D,x] >>= fun _=>pure ()) >>= fun _=>again c) c (Zi5 te D):=by
 intro pins s σ H N I h
 refine wpAny_bind (wpAny_bind (thn (he pins s σ H _ I h) fun u s1 zz9=>?_))
 obtain ⟨v,H1,I1,r1,q1⟩:=zz9
 obtain ⟨xs,hD,hl,q⟩:=q1
 refine wpAny_bind (thn (Xa pins s1 σ H1 (.ref D) [v] (.ref D) [u] (fun _ H2=>N σ H2) I1 rfl (.cons r1 .nil) ⟨D,xs,v,rfl,rfl,hD,hl,q⟩) fun _ s2 zz9=>?_)
 obtain ⟨_,H2,I2,_,q2⟩:=zz9
 exact wpAny_pure (wpAny_pure ⟨rfl,σ,H2,I2,q2⟩)
noncomputable def tGen (wi:TI) (g:TG) (tt:TT) (tb:TB):TB:=fun σ H N=>wi σ H fun J H1=>Wg J g tt tb N σ H1
theorem Zfn {prog:Program} {w:World} {A:Around} {R:Result→Shared→Prop} {s:Shared} {elt:Expr} {t0 i0:Expr} {f0:List Expr} {t1 i1:Expr} {f1:List Expr} {scope:Scope} {pos:Pos} {it acc:Value} {env:Env}
  (h0:codeAny (model prog w) A (.compLoop (.ListComp elt [⟨t0,i0,f0,0⟩,⟨t1,i1,f1,0⟩] scope pos) 1 it acc env) R s)
  (h:wpAny (model prog w) A (pyIter it) (fun it' s'=>codeAny (model prog w) A (.compLoop (.ListComp elt [⟨t0,i0,f0,0⟩,⟨t1,i1,f1,0⟩] scope pos) 1 it' acc env) R s')
   (notedBy (model prog w) A env fun x s'=>R (.error x) s') s) :
  codeAny (model prog w) A (.compStart (.ListComp elt [⟨t0,i0,f0,0⟩,⟨t1,i1,f1,0⟩] scope pos) 1 it acc env) R s:=by
 refine codeAny_of_tree ?_
 show wpAny _ _ ((compStart (.ListComp elt [⟨t0,i0,f0,0⟩,⟨t1,i1,f1,0⟩] scope pos) 1 it acc env).onRaise (fun x=>do noteFrame x env; standAt theWindowsPlace)) _ _ s
 refine wpAny_notedAt ?_
 unfold compStart
 show wpAny _ _ (ask >>= _) _ _ s
 refine wpAny_bind (wpAny_askSetting (wpAny_ite ?_))
 split
 ·first
   | exact wpAny_bind (wpAny_pure (wpAny_pure (And.intro rfl h0)))
   | exact wpAny_pure (And.intro rfl h0)
 ·first
   | exact wpAny_bind (wpAny_rule (wpAny_bind (wpAny_standAt (wpAny_bind (wpAny_mono h (fun it' s' h'=>wpAny_pure (And.intro rfl h')) fun _ _ x=>x)))))
   | (refine wpAny_bind (wpAny_rule ?_); show wpAny _ _ (standAt i1.pos >>= _) _ _ s; exact wpAny_bind (wpAny_standAt (wpAny_bind (wpAny_mono h (fun it' s' h'=>wpAny_pure (And.intro rfl h')) fun _ _ x=>x))))
theorem Zgs {elt t0 i0 t1 i1:Expr} {f0 f1:List Expr} {scope:Scope} {pos:Pos} {D:Addr} {c:Code} {wi:TI} {g:TG} {tt:TT} {te:TE} (hxe:X.xe=fun _ _=>False) (hc:X.calm=true)
  (hi:PI X t1 i1 wi) (hg:PG X t1 g) (ht:PTs X f1 tt) (he:PE X elt te) (hs:∀ x,foldedSetIterable i1 X.env x=pure x:=by intro _; rfl) :
  PB X (eval i1 X.env >>= fun x=>standAt i1.pos >>= fun _=>foldedSetIterable i1 X.env x >>= fun x=>holding [x] (pyIter x) >>= fun it =>
   runOwn (.compStart (.ListComp elt [⟨t0,i0,f0,0⟩,⟨t1,i1,f1,0⟩] scope pos) 1 it (.ref D) X.env) X.env >>= fun _=>again c) c (tGen wi g tt (Zi5 te D)):=by
 intro pins s σ H N I h
 refine wpAny_bind (thn (hi pins s σ H _ I h) fun v s1 h1=>wpAny_bind (wpAny_standAt ?_))
 rw [hs]
 refine wpAny_bind (wpAny_pure (wpAny_bind (wpAny_holding (thn h1 fun itv s2 h2=>?_))))
 obtain ⟨it,fp,tn,J,H2,e,I2,T,st2,f2,L⟩:=h2
 subst e
 have loop:∀ (A:Around),A=X.A→codeAny (model X.prog X.w) A (.compLoop (.ListComp elt [⟨t0,i0,f0,0⟩,⟨t1,i1,f1,0⟩] scope pos) 1 (.ref it) (.ref D) X.env)
   (fun r s'=>match r with | .ok f=>wpAny (model X.prog X.w) X.A (again c) (fun fin s'=>fin=.again c∧∃ σ' H',Inv X pins σ' H' s'∧N σ' H') X.xe s' | .error e=>cameBackBy (model X.prog X.w) X.A X.env X.xe e s') s2:=by
  rintro A rfl
  exact U6 (tg:=t1) (ifs:=f1) (R:=N) hxe rfl rfl rfl rfl T hc hg ht (Yu (c:=.compLoop (.ListComp elt [⟨t0,i0,f0,0⟩,⟨t1,i1,f1,0⟩] scope pos) 1 (.ref it) (.ref D) X.env) he) f2 I2 st2 L fun s' σ' H' I' q=>wpAny_pure ⟨rfl,σ',H',I',q⟩
 refine wpAny_bind (wpAny_runOwn (h:=none) ?_)
 exact Zfn (loop _ rfl) (T.self _ _ _ _ _ st2 (loop _ rfl))
end
end L2
set_option maxHeartbeats 4000000
namespace L2
open PySem PySem.Spec PyProof.Rows
noncomputable def Zeq (ts:List Str) (fv:List (Str × Nat)) (wi:TI) (g:TG) (tt:TT) (tb:Addr→TB):TE:=fun σ H Q=>wi σ H fun J H1=>∀ D,H1 D=none →
 Wg J g tt (tb D) (fun _ H'=>Q (.ref D) H') (blkS ts fv σ) (upd H1 D (.lst []))
section
variable {X:Cx} {ts:List Str} {fv:List (Str × Nat)} {scope:Scope} {elt t0 i0:Expr} {f0:List Expr} {rest:List Comprehension} {pos:Pos} {wi:TI} {g:TG} {tt:TT} {tb:Addr→TB} {kont:Env→Addr→Addr→Sem Fin}
theorem F5 (B:BlkOk X scope fv) (hc:X.calm=true) (hi:PI X t0 i0 wi)
  (hg:∀ C s₀ H₀ ex,PG (Yd X (blkN ts fv) scope C s₀ H₀ ex) t0 g) (ht:∀ C s₀ H₀ ex,PTs (Yd X (blkN ts fv) scope C s₀ H₀ ex) f0 tt)
  (heq:∀ (env:Env) (it D:Addr),compTurn (.ListComp elt (⟨t0,i0,f0,0⟩ :: rest) scope pos) 0 (.ref it) (.ref D) env=(standAt i0.pos >>= fun _=>pyNext (.ref it) >>= fun r=>match r with
   | none=>pure (.done .next)
   | some v=>letOwnedTupleGo t0 (.ref it) v >>= fun _=>assign t0 env v >>= fun _ =>
    (forIn f0 true fun c r=>if r=true then do let ok ← isTrue c env (eval c env); pure (ForInStep.yield ok) else pure (ForInStep.yield r)) >>= fun ok =>
     if ok=true then kont env it D else again (.compLoop (.ListComp elt (⟨t0,i0,f0,0⟩ :: rest) scope pos) 0 (.ref it) (.ref D) env)))
  (hb:∀ C s₀ H₀ ex it D,PB (Yd X (blkN ts fv) scope C s₀ H₀ ex) (kont (Yd X (blkN ts fv) scope C s₀ H₀ ex).env it D) (.compLoop (.ListComp elt (⟨t0,i0,f0,0⟩ :: rest) scope pos) 0 (.ref it) (.ref D) (Yd X (blkN ts fv) scope C s₀ H₀ ex).env) (tb D))
  {pins:List (Addr × Obj)} {s:Shared} {σ:St} {H:Hp} {Q:VK} {RR:Value→Addr→Result→Shared→Prop} (I:Inv X pins σ H s) (h:Zeq ts fv wi g tt tb σ H Q)
  (hRR:∀ D C s' H',Inv X pins σ H' s'→H' C=none→X.s₀.heap.objs.size≤C→C≠X.env.locals→(∀ x c,X.env.cells.lookup x=some c→c≠C)→(∀ p∈X.pn ++ pins,p.1≠C)→(∃ m,s'.heap.Ns C m)→Q (.ref D) H'→RR (.ref D) C (.ok .next) s') :
  wpAny (model X.prog X.w) X.A (eval i0 X.env) (fun x s₁=>wpAny (model X.prog X.w) X.A (pyIter x) (fun it s₂=>wpAny (model X.prog X.w) X.A (newList []) (fun acc s₃ =>
   wpAny (model X.prog X.w) X.A (newFunctionEnv scope X.env.globals (Yo X.env scope.names []) [] X.env.qual none .none (some X.env)) (fun cenv s₄ =>
    codeAny (model X.prog X.w) X.A (.compStart (.ListComp elt (⟨t0,i0,f0,0⟩ :: rest) scope pos) 0 it acc { cenv with scope:=relabel scope X.env }) (RR acc cenv.locals) s₄) X.xe s₃) X.xe s₂) X.xe s₁) X.xe s:=by
 refine thn (hi pins s σ H _ I h) fun v s1 h1=>thn h1 fun itv s2 h2=>?_
 obtain ⟨it,fp,tn,J,H2,e,I2,T,st2,f2,L⟩:=h2
 subst e
 have L:=L s2.heap.objs.size I2.fresh
 refine wpAny_newObj_type ?_
 have I3:Inv X pins σ (upd H2 s2.heap.objs.size (.lst [])) { s2 with heap:=s2.heap.push { cls:=.type "list",data:=.seq ([]:List Value).toArray },toks:=s2.toks }:=I2.lnew (its:=[]) (t':=s2.toks) .nil (Nat.zero_le _)
 have ho2:∀ b∈fp,∃ o,s2.heap.get? b=some o∧∀ v,o.data≠.cell v:=T.obj _ _ st2
 have f3:∀ b∈fp,FpOk X pins (upd H2 s2.heap.objs.size (.lst [])) b:=fun b hb=>by
  obtain ⟨o,ho,_⟩:=ho2 b hb
  refine ⟨?_,(f2 b hb).2⟩
  rw [Ze (Nat.ne_of_lt (Heap.lt_size ho))]
  exact (f2 b hb).1
 have st3:tn 0 (s2.heap.push { cls:=.type "list",data:=.seq ([]:List Value).toArray }):=T.keep _ _ _ st2 fun b _ o e=>Heap.get?_push_of_some _ e
 have ho3:∀ b∈fp,∃ o,(s2.heap.push { cls:=.type "list",data:=.seq ([]:List Value).toArray }).get? b=some o:=fun b hb=>let ⟨o,e,_⟩:=ho2 b hb; ⟨o,Heap.get?_push_of_some _ e⟩
 generalize hs3:({ s2 with heap:=s2.heap.push { cls:=.type "list",data:=.seq ([]:List Value).toArray },toks:=s2.toks }:Shared)=s3 at I3
 have eh:s2.heap.push { cls:=.type "list",data:=.seq ([]:List Value).toArray }=s3.heap:=by rw [← hs3]
 rw [eh] at st3 ho3
 refine wpAny_newFunctionEnv B.nocell (by intro y hy; simp at hy) (fun h₁ hns hsb=>?_) B.kind
 have hk:∀ b o,s3.heap.get? b=some o→h₁.get? b=some o:=fun b o e=>hsb.extBut b o (Nat.ne_of_lt (Heap.lt_size e)) (Heap.get?_push_of_some _ e)
 have I4:=F6 (ts:=ts) (tk:=s3.toks + ([]:List (Str × Value)).length) B I3 f3 ho3 hns hk
 have f4:∀ b∈fp,FpOk (Yd X (blkN ts fv) scope s3.heap.objs.size s3 (upd H2 s2.heap.objs.size (.lst [])) fp) [] (upd H2 s2.heap.objs.size (.lst [])) b:=fun b hb=>by
  obtain ⟨f0,f1,f2',f3',f4',f5'⟩:=f3 b hb
  obtain ⟨o,eo⟩:=ho3 b hb
  exact ⟨f0,Nat.ne_of_lt (Heap.lt_size eo),I4.ok.exfs b hb,.inl hb,(I4.ok.exf b hb).2,fun p hp=>absurd (show p∈([]:List (Addr × Obj)) from hp) (by simp)⟩
 have st4:tn 0 h₁:=T.keep _ _ _ st3 fun b _ o e=>hk b o e
 have loop:codeAny (model X.prog X.w) X.A (.compLoop (.ListComp elt (⟨t0,i0,f0,0⟩ :: rest) scope pos) 0 (.ref it) (.ref s2.heap.objs.size) (Yd X (blkN ts fv) scope s3.heap.objs.size s3 (upd H2 s2.heap.objs.size (.lst [])) fp).env)
   (RR (.ref s2.heap.objs.size) s3.heap.objs.size) { s3 with heap:=h₁,toks:=s3.toks + ([]:List (Str × Value)).length }:=by
  refine U6 (X:=Yd X (blkN ts fv) scope s3.heap.objs.size s3 (upd H2 s2.heap.objs.size (.lst [])) fp) (tg:=t0) (ifs:=f0) (R:=fun _ H'=>Q (.ref s2.heap.objs.size) H') rfl rfl rfl rfl (heq _ it s2.heap.objs.size) T hc (hg _ _ _ _) (ht _ _ _ _) (hb _ _ _ _ it s2.heap.objs.size) f4 I4 st4 L fun s' σ' H' J' q=>?_
  obtain ⟨e1,e2,e3,e4,e5,e6⟩:=Zej I3 f3 (Nat.le_refl _) J'
  obtain ⟨m,hm,_⟩:=J'.loc
  exact hRR _ _ s' H' e1 e2 e3 e4 e5 e6 ⟨m,hm⟩ q
 exact codeAny_compStart_list loop (T.self _ _ _ _ _ st4 loop)
theorem Xd (B:BlkOk X scope fv) (hc:X.calm=true) (hi:PI X t0 i0 wi)
  (hg:∀ C s₀ H₀ ex,PG (Yd X (blkN ts fv) scope C s₀ H₀ ex) t0 g) (ht:∀ C s₀ H₀ ex,PTs (Yd X (blkN ts fv) scope C s₀ H₀ ex) f0 tt)
  (heq:∀ (env:Env) (it D:Addr),compTurn (.ListComp elt (⟨t0,i0,f0,0⟩ :: rest) scope pos) 0 (.ref it) (.ref D) env=(standAt i0.pos >>= fun _=>pyNext (.ref it) >>= fun r=>match r with
   | none=>pure (.done .next)
   | some v=>letOwnedTupleGo t0 (.ref it) v >>= fun _=>assign t0 env v >>= fun _ =>
    (forIn f0 true fun c r=>if r=true then do let ok ← isTrue c env (eval c env); pure (ForInStep.yield ok) else pure (ForInStep.yield r)) >>= fun ok =>
     if ok=true then kont env it D else again (.compLoop (.ListComp elt (⟨t0,i0,f0,0⟩ :: rest) scope pos) 0 (.ref it) (.ref D) env)))
  (hb:∀ C s₀ H₀ ex it D,PB (Yd X (blkN ts fv) scope C s₀ H₀ ex) (kont (Yd X (blkN ts fv) scope C s₀ H₀ ex).env it D) (.compLoop (.ListComp elt (⟨t0,i0,f0,0⟩ :: rest) scope pos) 0 (.ref it) (.ref D) (Yd X (blkN ts fv) scope C s₀ H₀ ex).env) (tb D))
  (hs:∀ x,foldedSetIterable i0 X.env x=pure x:=by intro _; rfl) :
  PE X (.ListComp elt (⟨t0,i0,f0,0⟩ :: rest) scope pos) (Zeq ts fv wi g tt tb):=by
 intro pins s σ H Q I h
 rw [eval_ListComp]
 refine wpAny_comprehension_free (use:=none) rfl hs (Q8 fun y hy e=>I.ok.has y.1 (B.free y hy e)) B.kind B.names ?_
 refine F5 (RR:=fun acc C=>compPost (model X.prog X.w) X.A X.xe none (EP X pins σ Q) acc C) B hc hi hg ht heq hb I h fun D C s' H' I' e2 e3 e4 e5 e6 hm q=>?_
 obtain ⟨m,hm⟩:=hm
 exact ⟨m,hm,fun h' hs'=>⟨.ref D,H',I'.apart hs' e2 e3 e4 e5 e6,rfl,q⟩⟩
theorem Wd {i:Nat} {y:Str} {py spos:Pos} (B:BlkOk X scope fv) (hc:X.calm=true) (hN:X.N.Nodup) (hiy:X.N[i]?=some y) (hyl:X.env.scope.names.lookup y=some .local)
  (hsw:swapsWith (.ListComp elt (⟨t0,i0,f0,0⟩ :: rest) scope pos) (some (.Name y py)) spos.line X.env=pure true) (hi:PI X t0 i0 wi)
  (hg:∀ C s₀ H₀ ex,PG (Yd X (blkN ts fv) scope C s₀ H₀ ex) t0 g) (ht:∀ C s₀ H₀ ex,PTs (Yd X (blkN ts fv) scope C s₀ H₀ ex) f0 tt)
  (heq:∀ (env:Env) (it D:Addr),compTurn (.ListComp elt (⟨t0,i0,f0,0⟩ :: rest) scope pos) 0 (.ref it) (.ref D) env=(standAt i0.pos >>= fun _=>pyNext (.ref it) >>= fun r=>match r with
   | none=>pure (.done .next)
   | some v=>letOwnedTupleGo t0 (.ref it) v >>= fun _=>assign t0 env v >>= fun _ =>
    (forIn f0 true fun c r=>if r=true then do let ok ← isTrue c env (eval c env); pure (ForInStep.yield ok) else pure (ForInStep.yield r)) >>= fun ok =>
     if ok=true then kont env it D else again (.compLoop (.ListComp elt (⟨t0,i0,f0,0⟩ :: rest) scope pos) 0 (.ref it) (.ref D) env)))
  (hb:∀ C s₀ H₀ ex it D,PB (Yd X (blkN ts fv) scope C s₀ H₀ ex) (kont (Yd X (blkN ts fv) scope C s₀ H₀ ex).env it D) (.compLoop (.ListComp elt (⟨t0,i0,f0,0⟩ :: rest) scope pos) 0 (.ref it) (.ref D) (Yd X (blkN ts fv) scope C s₀ H₀ ex).env) (tb D))
  (hs:∀ x,foldedSetIterable i0 X.env x=pure x:=by intro _; rfl) :
  PS X (.Assign [.Name y py] (.ListComp elt (⟨t0,i0,f0,0⟩ :: rest) scope pos) spos) (tAsg (Zeq ts fv wi g tt tb) (Zp i)):=by
 intro pins s σ H D0 I h
 rw [exec_Assign_Name_used _ _ _ _ hsw]
 refine wpAny_bind (wpAny_standAt (wpAny_bind ?_))
 show wpAny _ X.A (do let _ ← comprehension (.ListComp elt (⟨t0,i0,f0,0⟩ :: rest) scope pos) scope X.env _ (newList []) false (eval i0 X.env) (some (assign (.Name y py) X.env))) _ _ s
 refine wpAny_bind (wpAny_mono (wpAny_comprehension_free (use:=some (assign (.Name y py) X.env)) (Q:=fun _ s'=>SP X pins D0 .next s') rfl hs (Q8 fun y hy e=>I.ok.has y.1 (B.free y hy e)) B.kind B.names ?_) (fun _ s' hq=>wpAny_pure (wpAny_pure hq)) fun _ _ e=>e)
 refine F5 (Q:=fun x H1=>Zp i x σ H1 D0.nx) (RR:=fun acc C=>compPost (model X.prog X.w) X.A X.xe (some (assign (.Name y py) X.env)) (fun _ s'=>SP X pins D0 .next s') acc C) B hc hi hg ht heq hb I h fun D C s' H' I' e2 e3 e4 e5 e6 hm q=>?_
 obtain ⟨m,hm⟩:=hm
 show wpAny _ X.A (assign (.Name y py) X.env (.ref D)) _ _ _
 refine wpAny_assign_Name (Fk I' hN hiy (.inl hyl) (show RelV (.ref D) (.ref D) from rfl) (fun s'' I'' hch=>?_) (.inr hyl))
 obtain ⟨a,hsb,ha⟩:=hch
 have haC:C≠a:=by
  rcases ha with e | e
  ·rw [e]; exact e4
  ·exact fun z=>e5 y a e z.symm
 exact ⟨m,hm.sameBut hsb haC,fun h' hs'=>⟨_,H',I''.apart hs' e2 e3 e4 e5 e6,q⟩⟩
end
end L2
set_option maxHeartbeats 4000000
namespace L2
open PySem PySem.Spec PyProof.Rows
noncomputable def FlyT (e T:Addr) (cls a0:Value) (h:Heap):Prop :=
 ∃ oe vs oT ts,h.get? e=some oe∧(oe.cls=cls∧vs[0]?=some a0)∧oe.data=.fields vs∧vs[1]?=some (.ref T)∧T≠e∧h.get? T=some oT∧oT.data=.fields ts∧ts[3]?=some .none
noncomputable def CXr (P:Program) (w:World):CXT:=fun outer H s E ev s' =>
 ∃ (e T:Addr) (cls a0:Value) (H':Hp),ev=.ref e∧s'.os=s.os∧AllBare s'.gens∧Un (frs outer) [] H H' s.heap s'.heap∧HOk P w H' s'.heap ∧
  s.heap.get? e=none∧s.heap.get? T=none∧H' e=none∧H' T=none∧FlyT e T cls a0 s'.heap∧E cls none H'
theorem Z2 {X:Cx}:Qr (CXr X.prog X.w) X E0:=fun _ _ _ _ _ _ _ h=>by
 obtain ⟨_,_,_,_,_,_,_,_,_,_,_,_,_,_,_,z⟩:=h
 exact z.elim
theorem Zku {P:Program} {w:World} {H:Hp} {s:Shared} {e:Value} {s':Shared} (h:CXr P w [] H s (fun _ _ _=>False) e s'):False:=by
 obtain ⟨_,_,_,_,_,_,_,_,_,_,_,_,_,_,_,z⟩:=h
 exact z
section
variable {P:Program} {w:World} {K:PySem.W.Frag} {mg:Str→Option Value} {base:Heap}
theorem Fun.okR {x qual:Str} {st:Stmt} {f:Addr} {fd:FuncData} {N ps:List Str} {k:Nat} {sp:Sp} (F:Fun K x qual st f fd) (S:FnScope N ps (Zg st)) (len:∀ vs H Q E,sp vs H Q E→vs.length=ps.length)
  (hbody:∀ (cdv:Value) (A:Around) (outer:List Env) (s:Shared) (H:Hp) (vs:List V) (Q:VK) (E:XK),Room k (A.deeper (envOfC qual (Zg st) s.heap.objs.size f cdv))→sp vs H Q E →
   ∃ t,PSs (cxOf (CXr P w) P w K mg base N qual (Zg st) f cdv A outer s H E).nox (Ym st) t∧t { nx:=fun _ H'=>Q .non H',rt:=Q } (start N vs) H):FnOk P w K mg base (CXr P w) (k + 1) f fd ps sp:=by
 obtain ⟨oc,od,kV,doc,pm,an,cdv,ct,osl,rfl,lk,hcd⟩:=F.ex
 refine Zjc lk hcd S len fun A outer s H vs Q E hr hsp=>?_
 obtain ⟨t,h,q⟩:=hbody cdv A outer s H vs Q E hr hsp
 exact ⟨t,h.nox,q⟩
end
section
variable {X:Cx}
theorem We:Xt X (.builtin "isinstance") (fun xs H Q=>∃ x T t b,xs=[x,.ty T]∧TyOf X.K H x t∧PySem.W.kitOne X.K t (.type T)=some b∧Q (.bl b) H):=by
 intro pins s σ H xs us Q I r h
 obtain ⟨x,T,t,b,rfl,hty,hk,q⟩:=h
 obtain ⟨u,v,rfl,ru,rv⟩:=r.two
 obtain rfl:v=Value.type T:=rv
 exact Zg7 I ru hty hk fun tk=>⟨.bl b,H,I.tok _,rfl,q⟩
theorem Qp {K:PySem.W.Frag} {T:String}:PySem.W.kitOne K (.type T) (.type T)=some true:=by
 unfold PySem.W.kitOne
 rw [if_pos (by simp)]
theorem Yi {X:Cx} {scope:Scope} (h:scope.names.all (fun y=>y.2 != .free || X.env.kindOf y.1 == some .cell || X.env.kindOf y.1 == some .free)=true) :
  ∀ y∈scope.names,y.2=.free→X.env.kindOf y.1=some .cell∨X.env.kindOf y.1=some .free:=fun y hy e=>by
 have:=List.all_eq_true.mp h y hy
 simp [e] at this
 exact this
end
theorem walk_r {l:PySem.W.OpenLaw} {k:Nat} {q:Program} {loose:List Str} {XP:(Str→Option Value)→Heap→Prop} {YP:World→Heap→Prop} {d:DefRec} {K:Params→PySem.W.Frag} {spl:PySem.W.Frag→Sp}
  (hn:l.most=some 63) (hdf:d.params.defaults=[]) (hr:Room k callerA) (hY:∀ (w:World) (h:Heap),YP w h→(K w.params).In h)
  (hsp:∀ (K:PySem.W.Frag) (H:Hp) (a:Addr) (ns:List Int),ns.length≤63→SqL K H a (ns.map V.int)→spl K [.ref a] H (fun v _=>v=.bl true) fun _ _ _=>False)
  (F:∀ (w:World) (mg:Str→Option Value) (fa:Addr) (h:Heap),(K w.params).In h→h.Ns mainGlobals mg→mg d.name=some (.ref fa) →
   ∃ fd:FuncData,(∀ (s:Shared) (u:Value),BindsTo s fd ⟨[u],[]⟩ [("_law_script",u)]) ∧
    ∀ base:Heap,(K w.params).In base→base.Ns mainGlobals mg→FnOk l.prog w (K w.params) mg base (CXr l.prog w) k fa fd ["_law_script"] (spl (K w.params))) :
  PySem.W.WalkO q loose XP YP l.row.toRowW d [] (fun f vs=>PySem.call f vs) :=
 Zjh (n:=63) (k:=k) (x:="_law_script") (CX:=fun w=>CXr l.prog w) (sp:=fun w=>spl (K w.params)) hn (by decide) hdf hr hY F (fun w H a ns hl _ hS=>hsp _ H a ns hl hS) (fun w H s e s' h=>Zku h)
end L2
set_option maxHeartbeats 4000000
namespace L2
open PySem PySem.Spec PyProof.Rows
noncomputable def ExT (e:Addr) (T:Option Addr) (cls a0:Value) (h:Heap):Prop:=match T with
 | some T=>FlyT e T cls a0 h
 | none=>∃ oe vs,h.get? e=some oe∧(oe.cls=cls∧vs[0]?=some a0)∧oe.data=.fields vs∧vs[1]?=some .none
structure FxOk (X:Cx) (pins:List (Addr × Obj)) (H:Hp) (b:Addr):Prop where
 nt:H b=none
 nl:b≠X.env.locals
 nf:b ∉ X.fs
 n0:X.s₀.heap.get? b=none
 nc:∀ x c,X.env.cells.lookup x=some c→c≠b
 np:∀ p∈X.pn ++ pins,p.1≠b
noncomputable def XS (fr:Bool) (X:Cx) (pins:List (Addr × Obj)) (R:Value→St→Hp→Prop) (ev:Value) (s':Shared):Prop :=
 ∃ (e:Addr) (T:Option Addr) (cls a0:Value) (σ':St) (H':Hp),ev=.ref e∧Inv X pins σ' H' s'∧ExT e T cls a0 s'.heap∧FxOk X pins H' e∧(∀ t,T=some t→FxOk X pins H' t)∧(T=none→fr=true)∧R cls σ' H'
noncomputable abbrev TSX:=Ends→(Value→St→Hp→Prop)→St→Hp→Prop
noncomputable abbrev TEX:=St→Hp→VK→XK→Prop
noncomputable def PSX (fr:Bool) (X:Cx) (st:Stmt) (t:TSX):Prop :=
 ∀ (pins:List (Addr × Obj)) (s:Shared) (σ:St) (H:Hp) (D:Ends) (R:Value→St→Hp→Prop),Inv X pins σ H s→t D R σ H→wpAny (model X.prog X.w) X.A (exec st X.env) (SP X pins D) (XS fr X pins R) s
noncomputable def PSsX (fr:Bool) (X:Cx) (st:List Stmt) (t:TSX):Prop :=
 ∀ (pins:List (Addr × Obj)) (s:Shared) (σ:St) (H:Hp) (D:Ends) (R:Value→St→Hp→Prop),Inv X pins σ H s→t D R σ H→wpAny (model X.prog X.w) X.A (execs st X.env) (SP X pins D) (XS fr X pins R) s
noncomputable def PEX (fr:Bool) (X:Cx) (e:Expr) (t:TEX):Prop :=
 ∀ (pins:List (Addr × Obj)) (s:Shared) (σ:St) (H:Hp) (Q:VK) (E:XK),Inv X pins σ H s→t σ H Q E→wpAny (model X.prog X.w) X.A (eval e X.env) (EP X pins σ Q) (XS fr X pins fun cls σ' H'=>σ'=σ∧E cls none H') s
section
variable {X:Cx} {fr:Bool}
theorem Wi {st:Stmt} {t:TS} (h:PS X st t) (hx:X.xe=(fun _ _=>False):=by rfl):PSX fr X st (fun D _ σ H=>t D σ H):=fun pins s σ H D R I q=>by
 have:=h pins s σ H D I q
 rw [hx] at this
 exact wpAny_mono this (fun _ _ z=>z) fun _ _ z=>z.elim
noncomputable def Zma (t u:TSX):TSX:=fun D R σ H=>t { D with nx:=u D R } R σ H
theorem Y7 {st:Stmt} {rest:List Stmt} {t u:TSX} (h1:PSX fr X st t) (h2:PSsX fr X rest u):PSsX fr X (st :: rest) (Zma t u):=by
 intro pins s σ H D R I h
 refine wpAny_execs_cons (thn (h1 pins s σ H { D with nx:=u D R } R I h) fun f s1 q=>?_)
 cases f with
 | next =>
  obtain ⟨σ',H',I',q⟩:=q
  exact h2 pins s1 σ' H' D R I' q
 | ret v=>exact q
 | brk=>exact q
 | cont=>exact q
theorem Yr {st:Stmt} {t:TSX} (h1:PSX fr X st t):PSsX fr X [st] t:=by
 intro pins s σ H D R I h
 refine wpAny_execs_cons (thn (h1 pins s σ H D R I h) fun f s1 q=>?_)
 cases f with
 | next=>exact wpAny_execs_nil q
 | ret v=>exact q
 | brk=>exact q
 | cont=>exact q
theorem Vv:PSsX fr X [] (fun D _ σ H=>D.nx σ H):=fun _ _ σ H _ _ I h=>wpAny_execs_nil ⟨σ,H,I,h⟩
noncomputable def tIfX (c:TT) (t u:TSX):TSX:=fun D R σ H=>c σ H fun b H1=>if b=true then t D R σ H1 else u D R σ H1
theorem Ga {c:Expr} {a b:List Stmt} {tc:TT} {t u:TSX} {pos:Pos} (hc:PT X c tc) (ha:PSsX fr X a t) (hb:PSsX fr X b u) (hx:X.xe=(fun _ _=>False):=by rfl):PSX fr X (.If c a b pos) (tIfX tc t u):=by
 intro pins s σ H D R I h
 have h0:=hc pins s σ H _ I h
 rw [hx] at h0
 refine wpAny_If (wpAny_mono h0 (fun d s1 zz27=>?_) fun _ _ z=>z.elim)
 obtain ⟨H1,I1,q1⟩:=zz27
 cases d with
 | true=>exact ha pins s1 σ H1 D R I1 q1
 | false=>exact hb pins s1 σ H1 D R I1 q1
noncomputable def Zk6 (te:TEX):TSX:=fun D R σ H=>te σ H (fun _ H1=>D.nx σ H1) fun cls _ H1=>R cls σ H1
theorem Qi {e:Expr} {te:TEX} {pos:Pos} (he:PEX fr X e te) (hs:swapsWith e none pos.line X.env=pure false:=by rfl):PSX fr X (.Expr e pos) (Zk6 te):=by
 intro pins s σ H D R I h
 refine wpAny_Expr_any (wpAny_mono (he pins s σ H _ _ I h) (fun v s1 ⟨x,H1,I1,r1,q1⟩=>⟨σ,H1,I1,q1⟩) ?_) I.quiet hs
 rintro ev s1 ⟨e,T,cls,a0,σ',H',h1,h2,h3,h4,h5,h7,rfl,h6⟩
 exact ⟨e,T,cls,a0,σ',H',h1,h2,h3,h4,h5,h7,h6⟩
noncomputable def Zl9 (i:Nat) (te:TEX):TSX:=fun D R σ H=>te σ H (fun x H1=>D.nx (σ.set i (some x)) H1) fun cls _ H1=>R cls σ H1
theorem Zd4 {i:Nat} {x:Str} {e:Expr} {te:TEX} {pos pos':Pos} (hN:X.N.Nodup) (hi:X.N[i]?=some x) (hx:Loc X.env.scope x) (he:PEX fr X e te) (hs:swapsWith e (some (.Name x pos')) pos.line X.env=pure false:=by rfl)
  (hf:X.fn x=true∨X.env.scope.names.lookup x=some .local:=by first | exact .inl rfl | exact .inr rfl | assumption):PSX fr X (.Assign [.Name x pos'] e pos) (Zl9 i te):=by
 intro pins s σ H D R I h
 refine wpAny_Assign_Name (wpAny_mono (he pins s σ H _ _ I h) (fun v s1 ⟨y,H1,I1,r1,q1⟩=>?_) ?_) hs
 ·exact Ja I1 hN hi hx r1 (fun s2 I2=>⟨_,H1,I2,q1⟩) hf
 ·rintro ev s1 ⟨e,T,cls,a0,σ',H',h1,h2,h3,h4,h5,h7,rfl,h6⟩
  exact ⟨e,T,cls,a0,σ',H',h1,h2,h3,h4,h5,h7,h6⟩
theorem Inv.cxr {pins:List (Addr × Obj)} {σ:St} {H:Hp} {s s':Shared} {E:XK} {ev:Value} (I:Inv X pins σ H s) (hex:X.ex=[]) (h:CXr X.prog X.w X.stack H s E ev s'):XS fr X pins (fun cls σ' H'=>σ'=σ∧E cls none H') ev s':=by
 obtain ⟨e,T,cls,a0,H',rfl,os,bare,un,hok,ne,nT,he,hT,fl,q⟩:=h
 have I':Inv X pins σ H' s':=I.call' os un hok bare fun b hb=>absurd hb (by simp)
 have fx:∀ b,s.heap.get? b=none→H' b=none→FxOk X pins H' b:=fun b hb hn=>by
  refine ⟨hn,fun z=>?_,fun z=>?_,?_,fun x c e z=>?_,fun p hp z=>?_⟩
  ·obtain ⟨m,⟨o,_,_,ho,_⟩,_⟩:=I.loc
   rw [z,ho] at hb; cases hb
  ·obtain ⟨_,o,ho,_⟩:=I.funs.mem z
   rw [ho] at hb; cases hb
  ·cases q:X.s₀.heap.get? b with
   | none=>rfl
   | some o =>
    obtain ⟨o',e'⟩:=I.base.there b o q (by rw [hex]; simp)
    rw [hb] at e'; cases e'
  ·obtain ⟨v,o,ho,_⟩:=I.cell x c e
   rw [z,hb] at ho; cases ho
  ·have:=(I.pin p hp).1
   rw [z,hb] at this; cases this
 exact ⟨e,some T,cls,a0,σ,H',rfl,I',fl,fx e ne he,fun t ht=>by cases ht; exact fx T nT hT,(fun z=>nomatch z),rfl,q⟩
variable {k:Nat} {f C:Addr} {fd:FuncData} {ps:List Str} {sp:Sp} {dvs:List V} {ds:List Value} {x m:Str} {p pos apos:Pos} {e o:Expr} {es:List Expr} {ta:TE} {t:TA}
theorem Zd1 {pins:List (Addr × Obj)} {σ:St} {H:Hp} {s:Shared} {Q:VK} {E:XK} {us:List Value} {vs:List V} (F:FnOk X.prog X.w X.K X.mg X.base (CXr X.prog X.w) k f fd ps sp) (hr:Room k X.A) (hb:Wh X.K fd ps ds) (hd:Vals dvs ds) (hex:X.ex=[])
  (I:Inv X pins σ H s) (r:Vals vs us) (h:sp (vs ++ dvs) H Q E):wpAny (model X.prog X.w) X.A (call (.ref f) us) (EP X pins σ Q) (XS fr X pins fun cls σ' H'=>σ'=σ∧E cls none H') s:=by
 have r2:Vals (vs ++ dvs) (us ++ ds):=r.append hd
 have hl:(us ++ ds).length=ps.length:=by rw [← r2.length]; exact F.len _ _ _ _ h
 refine wpAny_call (codeAny_mono (F.run X.A X.stack s H ⟨us,[]⟩ (us ++ ds) (vs ++ dvs) Q E hr I.env0 (hb s us I.kIn hl) r2 h) fun r s' hq=>?_)
 cases r with
 | error e=>exact I.cxr hex hq
 | ok fl =>
  cases fl with
  | ret u=>exact I.after hq
  | next=>exact False.elim hq
  | brk=>exact False.elim hq
  | cont=>exact False.elim hq
noncomputable def Zf3 (sp:Sp) (dvs:List V) (t:TA):TEX:=fun σ H Q E=>t σ H fun vs H1=>sp (vs ++ dvs) H1 Q E
theorem Zia (F:FnOk X.prog X.w X.K X.mg X.base (CXr X.prog X.w) k f fd ps sp) (hr:Room k X.A) (hg:Gl X x) (hm:X.mg x=some (.ref f)) (hk:PySem.W.keepIn X.K (.ref f)=true) (hb:Wh X.K fd ps ds) (hd:Vals dvs ds)
  (ha:PA X (e :: es) t) (hex:X.ex=[]:=by rfl) (hx:X.xe=(fun _ _=>False):=by rfl) (hdb:(x == ("__debug__":Str))=false:=by decide) (he:starEach (e :: es) X.env=(false,eval e X.env) :: starEach es X.env:=by rfl) (hpl:(backTo pos (starEach es X.env)).any (·.1)=false:=by rfl) :
  PEX fr X (.Call (.Name x p) (e :: es) [] pos) (Zf3 sp dvs t):=by
 intro pins s σ H Q E I h
 have h0:=ha pos pins s σ H _ I h
 rw [hx] at h0
 refine wpAny_Call_Name_kw (Vn I hg hm ?_ hdb)
 refine PySem.W.callWith_K (h₀:=X.base) I.ok.mod.kin hk (wpAny_mono h0 (fun us s1 zz28=>?_) fun _ _ z=>z.elim) he hpl
 obtain ⟨vs,H1,I1,r,q⟩:=zz28
 refine ⟨I1.kIn,?_⟩
 exact Zd1 F hr hb hd hex I1 r q
noncomputable def Zk5 (C:Addr) (m:Str) (sp:Sp) (dvs:List V) (ta:TE) (t:TA):TEX:=fun σ H Q E=>ta σ H fun x H1=>∃ a dx fs,x=.ref a∧H1 a=some (.ins C dx fs)∧fs.lookup m=none ∧
 t σ H1 fun vs H2=>sp (x :: (vs ++ dvs)) H2 Q E
theorem Kg {pl:Sem Bool} (he:PE X o ta) (c:Cls X.K C) (hm:Meth X.K C m f) (F:FnOk X.prog X.w X.K X.mg X.base (CXr X.prog X.w) k f fd ps sp) (hr:Room k X.A) (hb:Wh X.K fd ps ds) (hd:Vals dvs ds) (ha:PA X (e :: es) t)
  (hex:X.ex=[]:=by rfl) (hx:X.xe=(fun _ _=>False):=by rfl) (hst:starEach (e :: es) X.env=(false,eval e X.env) :: starEach es X.env:=by rfl) (hpl:(backTo pos (starEach es X.env)).any (·.1)=false:=by rfl)
  (ht:eval (.Call (.Attribute o m apos) (e :: es) [] pos) X.env=(do
   let ov ← eval o X.env
   standAt apos.atName
   let (f,first) ← holding [ov] (getMethod ov m pl)
   callWith pos f first (backTo pos (starEach (e :: es) X.env)) (backToKw pos (keywordEach [] X.env))):=by rfl) :
  PEX fr X (.Call (.Attribute o m apos) (e :: es) [] pos) (Zk5 C m sp dvs ta t):=by
 intro pins s σ H Q E I h
 have h0:=he pins s σ H _ I h
 rw [hx] at h0
 refine PySem.W.methodCall_KW (pl:=pl) (wpAny_mono h0 (fun u s1 zz29=>?_) fun _ _ z=>z.elim) ht
 obtain ⟨x,H1,I1,rx,a,dx,fs,ex,ea,l,q⟩:=zz29
 subst ex
 obtain rfl:u=Value.ref a:=rx
 refine V2 I1 ea c hm l ?_
 have h1:=ha pos pins s1 σ H1 _ I1 q
 rw [hx] at h1
 refine PySem.W.callWith_K (first:=[.ref a]) (h₀:=X.base) I.ok.mod.kin hm.kp (wpAny_mono h1 (fun us s2 zz30=>?_) fun _ _ z=>z.elim) hst hpl
 obtain ⟨vs,H2,I2,r,q2⟩:=zz30
 refine ⟨I2.kIn,?_⟩
 exact Zd1 (us:=.ref a :: us) (vs:=.ref a :: vs) F hr hb hd hex I2 (.cons rfl r) q2
end
end L2
set_option maxHeartbeats 4000000
namespace L2
open PySem PySem.Spec PyProof.Rows
theorem Ye.there {P:Program} {w:World} {H:Hp} {h:Heap} {a:Addr}:∀ {o:HO},Ye P w H h a o→∃ ob,h.get? a=some ob
 | .lst _,x=>by obtain ⟨_,_,_,_,e⟩:=x; exact ⟨_,e⟩
 | .tup _,x=>by obtain ⟨_,_,_,ob,e,_⟩:=x; exact ⟨_,e⟩
 | .dK _,x=>by obtain ⟨_,_,_,_,o,_,_,e,_⟩:=x; exact ⟨_,e⟩
 | .dT _,x=>by obtain ⟨_,_,_,_,o,_,_,e,_⟩:=x; exact ⟨_,e⟩
 | .set _ _,x=>by obtain ⟨o,_,_,_,e,_⟩:=x; exact ⟨_,e⟩
 | .ins _ _ _,x=>by obtain ⟨_,_,_,e,_⟩:=x; exact ⟨_,e⟩
 | .own _,x=>by obtain ⟨_,e⟩:=x; exact ⟨_,e⟩
 | .xd _,x=>by obtain ⟨_,⟨_,_,_,e,_⟩,_⟩:=x; exact ⟨_,e⟩
 | .rng _ _,x=>by obtain ⟨_,_,_,e⟩:=x; exact ⟨_,e⟩
 | .frz _ _,x=>by obtain ⟨e,_⟩:=x; exact ⟨_,e⟩
 | .tbl _,x=>⟨_,(show h.get? a=some _ from x)⟩
 | .met _ _,x=>⟨_,(show h.get? a=some _ from x)⟩
 | .ext _,x=>by obtain ⟨_,⟨_,e⟩,_⟩:=x; exact ⟨_,e⟩
section
variable {X:Cx} {pins:List (Addr × Obj)} {σ:St} {H:Hp} {s:Shared}
theorem Inv.untr (I:Inv X pins σ H s) {b:Addr} (hb:s.heap.get? b=none):H b=none:=by
 cases q:H b with
 | none=>rfl
 | some o =>
  obtain ⟨ob,e⟩:=(I.hok b o q).there
  rw [hb] at e; cases e
theorem Inv.fxOk (I:Inv X pins σ H s) (hex:X.ex=[]) {b:Addr} (hb:s.heap.get? b=none):FxOk X pins H b:=by
 refine ⟨I.untr hb,fun z=>?_,fun z=>?_,?_,fun x c e z=>?_,fun p hp z=>?_⟩
 ·obtain ⟨m,⟨o,_,_,ho,_⟩,_⟩:=I.loc
  rw [z,ho] at hb; cases hb
 ·obtain ⟨_,o,ho,_⟩:=I.funs.mem z
  rw [ho] at hb; cases hb
 ·cases q:X.s₀.heap.get? b with
  | none=>rfl
  | some o =>
   obtain ⟨o',e'⟩:=I.base.there b o q (by rw [hex]; simp)
   rw [hb] at e'; cases e'
 ·obtain ⟨v,o,ho,_⟩:=I.cell x c e
  rw [z,hb] at ho; cases ho
 ·have:=(I.pin p hp).1
  rw [z,hb] at this; cases this
end
structure ExcK (K:PySem.W.Frag) (C:Addr) (bmB:List Value) (newId:String):Prop where
 q:PySem.W.excIn K C bmB newId=true
theorem Zks {K:PySem.W.Frag} {h:Heap} {C:Addr} {bmB:List Value} {newId:String} (X:K.In h) (q:PySem.W.excIn K C bmB newId=true) :
  ∃ bm N nm q bs hdct sn sub ab col dd k0 k1 k2 k3 k5 mN,h.get? C=some (excClassObj nm q C N bs bm hdct sn sub ab col dd k0 k1 k2 k3 k5 newId)∧h.Ns N mN∧mN "__init__"=none∧OwnTail h bmB bm:=by
 unfold PySem.W.excIn at q
 split at q
 ·rename_i dd cd sl ho
  split at q
  ·rename_i C' bm k0 k1 k2 k3 n k5 hm hs
   simp only [Bool.and_eq_true,beq_iff_eq,Bool.not_eq_true'] at q
   obtain ⟨⟨⟨⟨⟨rfl,rfl⟩,hdel⟩,ht⟩,hok⟩,hni⟩:=q
   obtain ⟨nm,bs,mro,ns,qn,hd,sn,sub,ab,col,del⟩:=cd
   dsimp only at hm hdel hok hni
   subst hm hdel
   have hsl:sl=#[k0,k1,k2,k3,some (.builtin n),k5]:=by
    obtain ⟨l⟩:=sl
    simp only at hs
    rw [hs]
   subst hsl
   exact ⟨bm,ns,nm,qn,bs,hd,sn,sub,ab,col,dd,k0,k1,k2,k3,k5,_,X _ _ ho,.of_isNs (PySem.W.isNs_of_in X hok),PySem.W.nsMap_none_of_in X hok hni,PySem.W.tail_of_in X ht⟩
  ·cases q
 ·cases q
section
variable {X:Cx}
noncomputable def Zk4 (C:Addr) (t:TA):TSX:=fun _ R σ H=>t σ H fun vs H1=>vs.length≤1000∧R (.ref C) σ H1
theorem Qy {C:Addr} {bmB:List Value} {B newId initId:String} {x:Str} {np cpos pos:Pos} {e:Expr} {es:List Expr} {t:TA} (K:ExcK X.K C bmB newId) (FB:ExcBaseFacts B newId initId bmB) (hg:Gl X x) (hm:X.mg x=some (.ref C)) (hc:X.calm=true) (ha:PA X (e :: es) t)
  (hex:X.ex=[]:=by rfl) (hx:X.xe=(fun _ _=>False):=by rfl) (hdb:(x == ("__debug__":Str))=false:=by decide) (he:starEach (e :: es) X.env=(false,eval e X.env) :: starEach es X.env:=by rfl) (hpl:(backTo cpos (starEach es X.env)).any (·.1)=false:=by rfl) :
  PSX true X (.Raise (some (.Call (.Name x np) (e :: es) [] cpos)) none pos) (Zk4 C t):=by
 intro pins s σ H D R I h
 obtain ⟨tl,N,nm,q,bs,hdct,sn,sub,ab,col,dd,k0,k1,k2,k3,k5,mN,hC,hN,hni,T⟩:=Zks I.ok.mod.kin K.q
 refine wpAny_Raise_call_subT (C:=C) (nm:=nm) (q:=q) (N:=N) (bs:=bs) (bm:=tl) (hdct:=hdct) (sn:=sn) (sub:=sub) (ab:=ab) (col:=col) (dd:=dd) (k0:=k0) (k1:=k1) (k2:=k2) (k3:=k3) (k5:=k5)
  FB (mN:=mN) (T.hasType FB.hasBase) (I.ok.hd hc) (by rw [he]; show (false || (backTo cpos (starEach es X.env)).any (·.1))=false; rw [hpl]; rfl) hni (Vn I hg hm ⟨rfl,?_⟩ hdb)
 have h0:=ha cpos pins s σ H _ I h
 rw [hx] at h0
 rw [he] at h0 ⊢
 refine Calls.evalArgs_plain (wpAny_mono h0 (fun us s₂ zz31=>?_) fun _ _ z=>z.elim)
 obtain ⟨vs,H1,I1,r1,hl,q1⟩:=zz31
 have kb:=I1.bk
 refine ⟨rfl,?_,kb _ _ hC,hN.keeps kb,T.keeps kb,fun h' ea hm'=>?_⟩
 ·rw [← r1.length]
  exact Nat.le_of_lt (Zx hl)
 obtain ⟨tt,h1,h2,h3⟩:=hm'.there
 have I2:Inv X pins σ H1 { s₂ with heap:=h' }:=I1.kept (t':=s₂.toks) hm'.keeps
 have fx:=I1.fxOk hex hm'.new
 exact ⟨ea,none,.ref C,.ref tt,σ,H1,rfl,I2,⟨_,_,h1,⟨rfl,rfl⟩,rfl,rfl⟩,⟨fx.nt,fx.nl,fx.nf,fx.n0,fx.nc,fx.np⟩,(fun t z=>nomatch z),(fun _=>rfl),q1⟩
theorem Un.leave {fs:List Addr} {H₀ H:Hp} {h₀ h h':Heap} (u:Un fs [] H₀ H h₀ h) (hk:∀ b o,h₀.get? b=some o→b ∉ fs→h.get? b=some o→h'.get? b=some o)
  (hs:∀ b o,b∈fs→h.get? b=some o→∃ sl,h'.get? b=some { o with slots:=sl }) (ht:∀ b o,h₀.get? b=some o→∀ o',h.get? b=some o'→∃ o'',h'.get? b=some o''):Un fs [] H₀ H h₀ h' where
 keep:=fun b o e n hb hx=>hk b o e hb (u.keep b o e n hb hx)
 slot:=fun b o e n hb hx=>by
  obtain ⟨sl,e1⟩:=u.slot b o e n hb hx
  obtain ⟨sl',e2⟩:=hs b _ hb e1
  exact ⟨sl',e2⟩
 free:=u.free
 there:=fun b o e hx=>by
  obtain ⟨o',e1⟩:=u.there b o e hx
  exact ht b o e o' e1
 tups:=u.tups
 frzs:=u.frzs
 tbls:=u.tbls
theorem Fc {X:Cx} {pins:List (Addr × Obj)} {σ:St} {H:Hp} {s:Shared} (I:Inv X pins σ H s) (as:List Addr) (hs:∀ b∈frs X.stack,b∈as):s.heap.FunFrames (PySem.W.hideAll s.heap as) X.stack:=by
 have all:∀ (l:List Env),(∀ b∈frs l,b∈as)→s.heap.FunFrames X.base l→s.heap.FunFrames (PySem.W.hideAll s.heap as) l:=by
  intro l
  induction l with
  | nil=>intro _ _; trivial
  | cons env r ih =>
   intro hs hl
   obtain ⟨hk,⟨L,o,hf,hn,ho,hd⟩,hr⟩:=hl
   have hL:L∈as:=hs L (by unfold frs; rw [List.filterMap_cons,hf]; exact List.mem_cons_self)
   exact ⟨hk,⟨L,o,hf,PySem.W.hideAll_none as hL,ho,hd⟩,ih (fun b hb=>hs b (by unfold frs; rw [List.filterMap_cons,hf]; exact List.mem_cons_of_mem _ hb)) hr⟩
 exact all X.stack hs I.stack
theorem Inv.fnd {X:Cx} {pins:List (Addr × Obj)} {σ:St} {H:Hp} {s:Shared} (I:Inv X pins σ H s) {b:Addr} (hb:b∈frs X.stack) {o:Obj} (e:s.heap.get? b=some o):∀ vs,o.data≠.fields vs:=by
 obtain ⟨_,o',e',d⟩:=I.stack.mem hb
 rw [e] at e'; cases e'
 exact d
end
end L2
set_option maxHeartbeats 4000000
namespace L2
open PySem PySem.Spec PyProof.Rows
theorem FxOk.none {X:Cx} {pins:List (Addr × Obj)} {H:Hp} {b:Addr} (h:FxOk X pins H b):FxOk X [] H b:=⟨h.nt,h.nl,h.nf,h.n0,h.nc,fun p hp=>h.np p (by rw [List.append_nil] at hp; exact List.mem_append_left _ hp)⟩
section
variable {P:Program} {w:World} {K:PySem.W.Frag} {mg:Str→Option Value} {base:Heap}
theorem Zir {N:List Str} {qual:Str} {scope:Scope} {f:Addr} {cd:Value} {A:Around} {outer:List Env} {s s':Shared} {H:Hp} {E:XK} {ev:Value}
  {fr:Bool} (h:XS fr (cxOf (CXr P w) P w K mg base N qual scope f cd A outer s H E).nox [] (fun cls _ H'=>E cls none H') ev s'):(cxOf (CXr P w) P w K mg base N qual scope f cd A outer s H E).xe ev s':=by
 obtain ⟨e,T,cls,a0,σ',H',rfl,I,hx,fe,fT,_,q⟩:=h
 show wpAny (model P w) (A.deeper (envOfC qual scope s.heap.objs.size f cd)) (leaving (envOfC qual scope s.heap.objs.size f cd) (.ref e)) (fun _ s''=>CXr P w outer H s E (.ref e) s'') (fun e' s''=>CXr P w outer H s E e' s'') s'
 have hst:(cxOf (CXr P w) P w K mg base N qual scope f cd A outer s H E).nox.stack=envOfC qual scope s.heap.objs.size f cd :: outer:=rfl
 have hfr:(A.deeper (envOfC qual scope s.heap.objs.size f cd)).frames=some (envOfC qual scope s.heap.objs.size f cd :: outer):=I.ok.frames
 have n0:∀ b,b∈e :: T.toList→s.heap.get? b=none:=fun b hb=>by
  rcases List.mem_cons.mp hb with z | z
  ·rw [z]; exact fe.n0
  ·cases T with
   | none=>simp at z
   | some t =>
    have:b=t:=by simpa using z
    rw [this]; exact (fT t rfl).n0
 have nt:∀ b,b∈e :: T.toList→H' b=none:=fun b hb=>by
  rcases List.mem_cons.mp hb with z | z
  ·rw [z]; exact fe.nt
  ·cases T with
   | none=>simp at z
   | some t =>
    have:b=t:=by simpa using z
    rw [this]; exact (fT t rfl).nt
 have hB:∀ b o,b ∉ e :: T.toList→b ∉ frs (envOfC qual scope s.heap.objs.size f cd :: outer)→s'.heap.get? b=some o→(PySem.W.hideAll s'.heap ((e :: T.toList) ++ frs (envOfC qual scope s.heap.objs.size f cd :: outer))).get? b=some o:=fun b o h1 h2 e1 =>
  PySem.W.hideAll_get _ e1 fun z=>(List.mem_append.mp z).elim h1 h2
 have hl:s'.heap.FunFrames (PySem.W.hideAll s'.heap ((e :: T.toList) ++ frs (envOfC qual scope s.heap.objs.size f cd :: outer))) (envOfC qual scope s.heap.objs.size f cd :: outer):=Fc I _ fun b hb=>List.mem_append_right _ hb
 have hkb:(PySem.W.hideAll s'.heap ((e :: T.toList) ++ frs (envOfC qual scope s.heap.objs.size f cd :: outer))).StaysIn s'.heap:=fun b o e1=>PySem.W.of_hideAll _ e1
 have hen:(PySem.W.hideAll s'.heap ((e :: T.toList) ++ frs (envOfC qual scope s.heap.objs.size f cd :: outer))).get? e=none:=PySem.W.hideAll_none _ (List.mem_append_left _ List.mem_cons_self)
 have fin:∀ h',Heap.LeftW (PySem.W.hideAll s'.heap ((e :: T.toList) ++ frs (envOfC qual scope s.heap.objs.size f cd :: outer))) (envOfC qual scope s.heap.objs.size f cd :: outer) e cls a0 s'.heap h'→CXr P w outer H s E (.ref e) { s' with heap:=h' }:=fun h' ⟨k1,k2,k3,k4⟩=>by
  obtain ⟨oe,vs,T',oT,ts,x1,x2,x3,x4,x5,x6,x7,x8,x9⟩:=k3
  have notfr:∀ b o,b∈frs (envOfC qual scope s.heap.objs.size f cd :: outer)→s'.heap.get? b=some o→∃ sl,h'.get? b=some { o with slots:=sl }:=fun b o hb e1=>k4 b o e1 (I.fnd hb e1)
  have kept:∀ b o,b ∉ e :: T.toList→b ∉ frs (envOfC qual scope s.heap.objs.size f cd :: outer)→s'.heap.get? b=some o→h'.get? b=some o:=fun b o h1 h2 e1=>k1 b o (hB b o h1 h2 e1)
  have nL:∀ b o,s.heap.get? b=some o→b ∉ frs outer→b ∉ frs (envOfC qual scope s.heap.objs.size f cd :: outer):=fun b o e1 h2 z=>by
   have z':b∈s.heap.objs.size :: frs outer:=z
   rcases List.mem_cons.mp z' with z1 | z1
   ·rw [z1] at e1; exact absurd (Heap.lt_size e1) (Nat.lt_irrefl _)
   ·exact h2 z1
  have nE:∀ b o,s.heap.get? b=some o→b ∉ e :: T.toList:=fun b o e1 z=>by rw [n0 b z] at e1; cases e1
  have trk:∀ b u,H' b=some u→∀ o,s'.heap.get? b=some o→h'.get? b=some o:=fun b u hu o e1=>by
   refine kept b o (fun z=>by rw [nt b z] at hu; cases hu) (fun z=>?_) e1
   rw [I.stkFree b z] at hu; cases hu
  have hT':s.heap.get? T'=none∧H' T'=none:=by
   by_cases hz:s'.heap.get? T'=none
   ·refine ⟨?_,I.untr hz⟩
    cases q':s.heap.get? T' with
    | none=>rfl
    | some o =>
     obtain ⟨o',e'⟩:=I.base.there T' o q' (by simp [cxOf])
     rw [hz] at e'; cases e'
   ·obtain ⟨o,ho⟩:=Option.ne_none_iff_exists'.mp hz
    by_cases h1:T'∈e :: T.toList
    ·exact ⟨n0 T' h1,nt T' h1⟩
    ·by_cases h2:T'∈frs (envOfC qual scope s.heap.objs.size f cd :: outer)
     ·exfalso
      obtain ⟨sl,e'⟩:=notfr T' o h2 ho
      rw [x7] at e'
      cases e'
      exact I.fnd h2 ho ts x8
     ·rw [hB T' o h1 h2 ho] at x5; cases x5
  refine ⟨e,T',cls,a0,H',rfl,I.os,I.bare,?_,fun b u hu=>?_,fe.n0,hT'.1,fe.nt,hT'.2,⟨oe,vs,oT,ts,x1,x2,x3,x4,x6,x7,x8,x9⟩,q⟩
  ·refine Un.leave I.base (fun b o e1 h1 e2=>kept b o (nE b o e1) (nL b o e1 h1) e2) (fun b o hb e1=>notfr b o (List.mem_cons_of_mem _ hb) e1) fun b o e1 o' e2=>?_
   by_cases h2:b∈frs outer
   ·obtain ⟨sl,e'⟩:=notfr b o' (List.mem_cons_of_mem _ h2) e2
    exact ⟨_,e'⟩
   ·exact ⟨o',kept b o' (nE b o e1) (nL b o e1 h2) e2⟩
  ·refine (I.hok b u hu).stay (fun c v hc e1=>?_) (fun _ z=>z) fun _ _ z=>z
   rcases hc with z | z
   ·exact trk c u (by rw [z]; exact hu) v e1
   ·exact trk c _ z v e1
 cases T with
 | none =>
  obtain ⟨oe,vs,x1,x2,x3,x4⟩:=hx
  obtain ⟨x21,x22⟩:=x2
  subst x21
  exact wpAny_leaving_firstW hfr hl rfl x1 hkb hen x3 x4 x22 fin
 | some t =>
  obtain ⟨oe,vs,oT,ts,x1,x2,x3,x4,x5,x6,x7,x8⟩:=hx
  exact wpAny_leaving_nextW hfr hl rfl ⟨oe,vs,t,oT,ts,x1,x2,x3,x4,PySem.W.hideAll_none _ (List.mem_append_left _ (by simp)),x5,x6,x7,x8⟩ hkb hen fin
theorem Fun.okX {x qual:Str} {st:Stmt} {f:Addr} {fd:FuncData} {N ps:List Str} {k:Nat} {sp:Sp} (F:Fun K x qual st f fd) (S:FnScope N ps (Zg st)) (len:∀ vs H Q E,sp vs H Q E→vs.length=ps.length)
  (hbody:∀ (cdv:Value) (A:Around) (outer:List Env) (s:Shared) (H:Hp) (vs:List V) (Q:VK) (E:XK),Room k (A.deeper (envOfC qual (Zg st) s.heap.objs.size f cdv))→sp vs H Q E →
   ∃ t,PSsX true (cxOf (CXr P w) P w K mg base N qual (Zg st) f cdv A outer s H E).nox (Ym st) t∧t { nx:=fun _ H'=>Q .non H',rt:=Q } (fun cls _ H'=>E cls none H') (start N vs) H):FnOk P w K mg base (CXr P w) (k + 1) f fd ps sp:=by
 obtain ⟨oc,od,kV,doc,pm,an,cdv,ct,osl,rfl,lk,hcd⟩:=F.ex
 refine Zjc lk hcd S len fun A outer s H vs Q E hr hsp=>?_
 obtain ⟨t,h,q⟩:=hbody cdv A outer s H vs Q E hr hsp
 refine ⟨fun D σ H'=>t D (fun cls _ H''=>E cls none H'') σ H',fun pins s' σ' H' D I hD=>?_,q⟩
 refine wpAny_mono (h pins s' σ' H' D _ (I.wish _) hD) (fun _ _ z=>z.unwish) fun ev s'' z=>Zir (fr:=true) ?_
 obtain ⟨e,T,cls,a0,σ2,H2,h1,h2,h3,h4,h5,h7,h6⟩:=z
 exact ⟨e,T,cls,a0,σ2,H2,h1,h2.pins_of (fun p hp=>absurd hp (by simp)),h3,h4.none,fun t ht=>(h5 t ht).none,h7,h6⟩
end
end L2
set_option maxHeartbeats 4000000
namespace L2
open PySem PySem.Spec PyProof.Rows
end L2
set_option maxHeartbeats 4000000
namespace L2
open PySem PySem.Spec PyProof.Rows
section
variable {X:Cx} {pins:List (Addr × Obj)} {σ:St} {H:Hp} {s:Shared} {A:Around} {E:Value→Shared→Prop} {a:Addr}
theorem Zl1 {kvs:List (Key × V)} {k:Key} {d:V} {u r:Value} {Q:Value→Shared→Prop} (I:Inv X pins σ H s) (e:H a=some (.dK kvs)) (hl:kvs.length < sizeLine) (ry:RelV (kV k) u) (rd:RelV d r)
  (h1:∀ v w' s',valV kvs k=some v→Inv X pins σ H s'→RelV v w'→Q w' s') (h2:valV kvs k=none→∀ s',Inv X pins σ (upd H a (.dK (putK kvs k d))) s'→Q r s') :
  wpAny (model X.prog X.w) A (call (.builtin "dict.setdefault") [.ref a,u,r]) Q E s:=by
 obtain ⟨z,hd,vs,rel,dd⟩:=Zfl I.hok e
 have hz:vs.length≤sizeLine:=by rw [← rel.length]; exact z
 refine call_meetsIn PySem.F.slot_dict_setdefault dd.typeIs PySem.F.entry_dict_setdefault (PySem.F.args_dict_setdefault_3 _ _ _) (kt_meets_setdefault (Z9 X.prog X.w) a (V0 ry) hd r) ⟨vs,dd,hz,fun v hv=>?_,fun hv h' dd' hs=>?_⟩
 ·have rel':=rel.val k
  rw [hv] at rel'
  cases q:valV kvs k with
  | none=>rw [q] at rel'; exact rel'.elim
  | some y=>rw [q] at rel'; exact h1 y v _ q (I.tok _) rel'
 ·have rel':=rel.val k
  rw [hv] at rel'
  cases q:valV kvs k with
  | some y=>rw [q] at rel'; exact rel'.elim
  | none =>
   have he:∃ q,h'.get? a=some q:=let ⟨q,_,_,hq,_⟩:=dd'; ⟨q,hq⟩
   have hl2:(putK kvs k d).length≤sizeLine:=by have:=Jt kvs k d; omega
   exact h2 q _ (Oj I (by rw [e]; exact True.intro) hs he (Zcx hl2 hd (rel.put k rd) dd'))
end
noncomputable def Zk7 (td ty tx:TE):TE:=fun σ H Q=>td σ H fun x H1=>∃ a,x=.ref a∧IsD H1 a∧ty σ H1 fun y H2=>tx σ H2 fun z H3=>∃ kvs k,H3 a=some (.dK kvs)∧kvs.length < sizeLine∧y=kV k ∧
 (∀ v,valV kvs k=some v→Q v H3)∧(valV kvs k=none→Q z (upd H3 a (.dK (putK kvs k z))))
section
variable {X:Cx} {o e f:Expr} {apos cpos:Pos} {td ty tx:TE}
theorem Zib (ho:PE X o td) (he:PE X e ty) (hf:PE X f tx) (m:M2 X o "setdefault" apos e f cpos):PE X (.Call (.Attribute o "setdefault" apos) [e,f] [] cpos) (Zk7 td ty tx):=by
 intro pins s σ H Q I h
 refine wpAny_Call_method m.base m.few m.line PySem.F.plainAttrs_dict PySem.F.slot_dict_setdefault PySem.F.type_dict_setdefault (thn (ho pins s σ H _ I h) fun u s1 zz9=>?_)
 obtain ⟨x,H1,I1,rx,a,ex,d,q1⟩:=zz9
 subst ex
 obtain rfl:u=Value.ref a:=rx
 obtain ⟨t1,t2,_⟩:=Zcq I1 d
 refine ⟨t1,t2,?_⟩
 rw [m.trees]
 refine Calls.callWith_builtin rfl (Calls.evalArgs_plain (Calls.spliced_cons (thn (he pins s1 σ H1 _ I1 q1) fun iv s2 ⟨y,H2,I2,ry,q2⟩ =>
  Calls.spliced_cons (thn (hf pins s2 σ H2 _ I2 q2) fun fv s3 ⟨z,H3,I3,rz,kvs,k,hk,hl,ey,q3,q4⟩=>Calls.spliced_nil ?_))))
 subst ey
 exact Zl1 I3 hk hl ry rz (fun v w' s' hv I' rw'=>⟨v,H3,I',rw',q3 v hv⟩) fun hv s' I'=>⟨z,_,I',rz,q4 hv⟩
theorem Zcs {P:Program} {w:World} {kvs:List (Key × V)} {vs:List (Key × Value)} {ks:List Int} (rel:KV kvs vs) (hk:kvs.map (·.1)=ks.map Sum.inl) {us:List Value} (hl:us.length=vs.length)
  (hu:∀ (j:Nat) (v:Value),us[j]?=some v→∃ k x,vs[j]?=some (k,x)∧(Z9 P w).is k v=true):IntsAre us ks:=by
 have hkl:kvs.length=ks.length:=by have:=congrArg List.length hk; simpa using this
 have hvl:kvs.length=vs.length:=rel.length
 have key:∀ (j:Nat) (v:Value),us[j]?=some v→∃ i t,ks[j]?=some i∧v=Value.int i t:=fun j v hv=>by
  obtain ⟨k,x,hx,hi⟩:=hu j v hv
  have e1:(vs.map (·.1))[j]?=some k:=by rw [List.getElem?_map,hx]; rfl
  have e2:vs.map (·.1)=kvs.map (·.1):=by
   clear hk hl hu hkl hvl hx hi e1
   induction rel with
   | nil=>rfl
   | cons r t ih=>rw [List.map_cons,List.map_cons,ih,r.1]
  rw [e2,hk,List.getElem?_map] at e1
  cases q:ks[j]? with
  | none=>rw [q] at e1; cases e1
  | some i =>
   rw [q] at e1
   have e3:Sum.inl i=k:=Option.some.inj e1
   subst e3
   obtain ⟨t,ht⟩:=Value.isInt_shape (k:=i) (v:=v) hi
   exact ⟨i,t,rfl,ht⟩
 have gen:∀ (us:List Value) (ks:List Int),us.length=ks.length→(∀ (j:Nat) (v:Value),us[j]?=some v→∃ i t,ks[j]?=some i∧v=Value.int i t)→IntsAre us ks:=by
  intro us
  induction us with
  | nil =>
   intro ks hl _
   cases ks with
   | nil=>exact .nil
   | cons _ _=>simp at hl
  | cons u r ih =>
   intro ks hl h
   cases ks with
   | nil=>simp at hl
   | cons i ks =>
    obtain ⟨i',t,e1,e2⟩:=h 0 u rfl
    have e1':i=i':=by simpa using e1
    subst e1' e2
    exact .cons i t (ih ks (by simpa using hl) fun j v hv=>h (j + 1) v (by simpa using hv))
 exact gen us ks (by omega) key
theorem U7 (hc:X.calm=true):Xt X (.builtin "sorted") (fun xs H Q=>∃ (d:Addr) (kvs:List (Key × V)) (ks:List Int),xs=[.ref d]∧Rd H d (.dK kvs)∧kvs.map (·.1)=ks.map Sum.inl∧ks.length < 64 ∧
  ∀ (p:Addr) (out:List Int),H p=none→out.Perm ks→out.Pairwise (·≤·)→Q (.ref p) (upd H p (.lst (out.map V.int)))):=by
 intro pins s σ H xs us Q I r h
 obtain ⟨d,kvs,ks,rfl,hd,hk,h64,q⟩:=h
 obtain ⟨u,rfl,ru⟩:=Xw r
 obtain rfl:u=Value.ref d:=ru
 obtain ⟨z,hsys,vs,rel,dd⟩:=J9 I.hok hd
 obtain ⟨ep,hat⟩:=dd.dictAt
 have hlen:vs.length=ks.length:=by have:=congrArg List.length hk; rw [List.length_map,List.length_map] at this; have:=rel.length; omega
 have hn:vs.length≤sizeLine:=by rw [sizeLine_eq]; omega
 refine Calls.call_function_entry kind_sorted plain_sorted entry_sorted (args_sorted1 _) ?_
 unfold Builtin.«sorted»
 refine wpAny_bind (m:=checkCount "sorted" 1 1 _) (wpAny_pure ?_)
 refine wpAny_bind (PySem.W.kdu_collect (A:=X.A.in1) (PySem.W.kdl_dict (knd:=Z9 X.prog X.w) (kvs:=vs) (ep:=ep) hsys) (I.ok.hd hc) hat hn fun h' tk acc hk' hacc=>?_)
 have hl:acc.toList.length=vs.length:=by rw [Array.length_toList]; exact hacc.1
 have hI:IntsAre acc.toList ks:=Zcs (P:=X.prog) (w:=X.w) rel hk hl fun j v hv=>hacc.2 j v (by rw [← Array.getElem?_toList]; exact hv)
 refine wpAny_bind (wpAny_newList ?_ (by rw [hl]; exact hn))
 have I1:Inv X pins σ H { s with heap:=h',toks:=tk }:=I.kept hk'
 have hoL:(h'.push { cls:=.type "list",data:=.seq acc.toList.toArray }).get? h'.objs.size=some (seqObj "list" acc.toList.toArray 0):=Heap.get?_push_size _ rfl
 refine wpAny_bind (wpAny_holding (wpAny_call_entry slot_list_sort ⟨_,hoL,rfl⟩ entry_list_sort (list_sort_tree hoL hI (by omega) fun out ns' a1 a2 a3=>⟨_,rfl,?_⟩) (args_list_sort _)))
 refine wpAny_pure ⟨_,rfl,?_⟩
 obtain ⟨e,he⟩:=sortedHeap_at (out:=out) hoL
 have kp:∀ b u,h'.get? b=some u→(sortedHeap (h'.push { cls:=.type "list",data:=.seq acc.toList.toArray }) h'.objs.size acc.toList out).get? b=some u:=fun b u hb=>by
  have hlt:b < h'.objs.size:=Heap.lt_size hb
  rw [sortedHeap_old (Nat.ne_of_lt hlt) (by rw [Heap.size_push]; exact Nat.lt_succ_of_lt hlt)]
  exact Heap.get?_push_of_some _ hb
 have hv:Vals (ns'.map V.int) out.toList:=by
  clear he kp
  generalize out.toList=l at a1
  clear a2 a3
  induction a1 with
  | nil=>exact .nil
  | cons i t _ ih=>exact .cons ⟨_,rfl⟩ ih
 refine ⟨.ref h'.objs.size,upd H h'.objs.size (.lst (ns'.map V.int)),I1.laid kp (Nat.le_refl _) ?_,rfl,q _ ns' I1.fresh a2 a3⟩
 refine ⟨?_,out.toList,e,hv,?_⟩
 ·rw [List.length_map,a2.length_eq,sizeLine_eq]; omega
 ·rw [he]
end
end L2
set_option maxHeartbeats 4000000
namespace L2
open PySem PySem.Spec PyProof.Rows
section
variable {X:Cx} {pins:List (Addr × Obj)} {σ:St} {H:Hp} {s:Shared} {a:Addr}
theorem Inv.freeze {u:HO} {ob:Obj} (I:Inv X pins σ H s) (e:H a=some u) (mu:Mut (some u)) (ho:s.heap.get? a=some ob):Inv X pins σ (upd H a (.frz ob u)) s:=by
 have nown:∀ c y,H c=some (.own y)→c≠a:=fun c y r z=>by subst z; rw [r] at e; cases e; exact mu
 have ntup:∀ c xs,H c=some (.tup xs)→c≠a:=fun c xs r z=>by subst z; rw [r] at e; cases e; exact mu
 have nfrz:∀ c o xs,H c=some (.frz o xs)→c≠a:=fun c o xs r z=>by subst z; rw [r] at e; cases e; exact mu
 have ntbl:∀ c ps,H c=some (.tbl ps)→c≠a:=fun c ps r z=>by subst z; rw [r] at e; cases e; exact mu
 have un:Un X.fs [] H (upd H a (.frz ob u)) s.heap s.heap:=⟨fun _ _ q _ _ _=>q,fun _ o q _ _ _=>⟨o.slots,q⟩,fun b o q n _=>by rw [Ze (fun z=>by rw [z,e] at n; cases n)]; exact n,fun b o q _=>⟨o,q⟩,
  fun b xs q=>by rw [Ze (ntup b xs q)]; exact q,fun b o xs q=>by rw [Ze (nfrz b o xs q)]; exact q,fun b ps q=>⟨#[],by rw [Ze (ntbl b ps q),q]; simp⟩⟩
 have hok:HOk X.prog X.w (upd H a (.frz ob u)) s.heap:=fun b v q=>by
  have st:∀ c w',Ye X.prog X.w H s.heap c w'→Ye X.prog X.w (upd H a (.frz ob u)) s.heap c w':=fun c w' x=>x.stay (fun _ _ _ q=>q) (fun d r=>by rw [Ze (nown d c r)]; exact r) fun d xs r=>by rw [Ze (ntup d xs r)]; exact r
  by_cases hb:b=a
  ·subst hb
   rw [Zc] at q
   cases q
   exact ⟨ho,st _ _ (I.hok _ _ e)⟩
  ·rw [Ze hb] at q
   exact st _ _ (I.hok b v q)
 exact I.un (h':=s.heap) (t':=s.toks) un hok
end
section
theorem KV.at {kvs:List (Key × V)} {vs:List (Key × Value)} (r:KV kvs vs):∀ {i:Nat} {k:Key} {v:V},kvs[i]?=some (k,v)→∃ u,vs[i]?=some (k,u)∧RelV v u:=by
 induction r with
 | nil=>intro i k v h; simp at h
 | cons r t ih =>
  intro i k v h
  cases i with
  | zero =>
   simp at h
   subst h
   exact ⟨_,by rw [List.getElem?_cons_zero]; exact congrArg some (Prod.ext r.1.symm rfl),r.2⟩
  | succ i =>
   obtain ⟨u,h1,h2⟩:=ih (by simpa using h)
   exact ⟨u,by simpa using h1,h2⟩
theorem Zmp {P:Program} {w:World} {k:Key} {u:Value} (h:(Z9 P w).is k u=true):RelV (kV k) u:=by
 cases k with
 | inl i=>obtain ⟨t,e⟩:=Value.isInt_shape (k:=i) (v:=u) h; exact ⟨t,e⟩
 | inr x=>obtain ⟨t,e⟩:=Value.isStrOf_shape (x:=x) (v:=u) h; exact ⟨t,e⟩
theorem Jo {X:Cx} {pins:List (Addr × Obj)} {σ:St} {H:Hp} {s:Shared} {d:Addr} {o:Obj} {kvs:List (Key × V)} (I:Inv X pins σ H s) (e:H d=some (.frz o (.dK kvs))) :
  ∃ vs ep,KV kvs vs∧s.heap.DictAt (Z9 X.prog X.w) d vs ep∧s.heap.get? d=some o:=by
 obtain ⟨ho,_,_,vs,rel,dd⟩:=I.hok d _ e
 obtain ⟨ep,da⟩:=dd.dictAt
 exact ⟨vs,ep,rel,da,ho⟩
noncomputable def epOf (o:Obj):Nat:=match o.data with
 | .dict _ ep=>ep
 | _=>0
theorem Oh {P:Program} {w:World} {h:Heap} {d:Addr} {o:Obj} {vs:List (Key × Value)} {ep:Nat} (da:h.DictAt (Z9 P w) d vs ep) (ho:h.get? d=some o):ep=epOf o:=by
 obtain ⟨o',es,h1,_,h2,_⟩:=da
 rw [ho] at h1
 cases h1
 unfold epOf
 rw [h2]
theorem Zfy {P:Program} {w:World} {K:PySem.W.Frag} {tg:Expr} (d it:Addr) (kvs:List (Key × V)) (o:Obj) :
  Turn P w K tg ⟨fun i H=>i < kvs.length∧H d=some (.frz o (.dK kvs)),fun i H x H'=>H'=H∧∃ k,kvs[i]?=some (k,x),fun i H=>kvs.length≤i∧H d=some (.frz o (.dK kvs))⟩ [it] it (fun i h=>h.IsValIter it d i kvs.length (epOf o)) where
 mem:=by simp
 obj:=fun i h st b hb=>by
  have e:b=it:=by simpa using hb
  subst e
  obtain ⟨o,e,c,d⟩:=st
  exact ⟨o,e,fun v z=>by rw [d] at z; cases z⟩
 keep:=fun i h h' st k=>st.at fun o e=>k it (by simp) o e
 item:=by
  intro X hP hw hK hc i pins s σ H E I hf st hg
  subst hP hw hK
  obtain ⟨hi,hq⟩:=hg
  obtain ⟨vs,ep,rel,da,ho⟩:=Jo I hq
  have hep:=Oh da ho
  subst hep
  obtain ⟨f0,f1,f2,f3,f4,f5⟩:=hf it (by simp)
  obtain ⟨⟨k,v⟩,hx⟩:∃ p,kvs[i]?=some p:=⟨_,List.getElem?_eq_getElem hi⟩
  obtain ⟨u,hu,ru⟩:=rel.at hx
  have hlen:vs.length=kvs.length:=rel.length.symm
  rw [← hlen] at st
  refine wpAny_pyNext_values_item st da hu fun h' st' sb=>?_
  have I1:Inv X pins σ H { s with heap:=h' }:=I.turned (t':=s.toks) (fun b o hb e=>(sb.2 b hb).trans e) f0 f1 f3 f4 f5
  rw [hlen] at st'
  obtain ⟨oi,e,c,dd⟩:=id st'
  exact ⟨u,rfl,V1 (s:={ s with heap:=h' }) e c dd (by decide) ⟨v,H,I1,ru,⟨rfl,k,hx⟩,st',fun b hb=>(hf b hb).1⟩⟩
 done:=by
  intro X hP hw hK hc i pins s σ H E I hf st hg
  subst hP hw hK
  obtain ⟨hi,hq⟩:=hg
  obtain ⟨vs,ep,rel,da,ho⟩:=Jo I hq
  have hep:=Oh da ho
  subst hep
  obtain ⟨f0,f1,f2,f3,f4,f5⟩:=hf it (by simp)
  have hlen:vs.length=kvs.length:=rel.length.symm
  rw [← hlen] at st
  exact wpAny_pyNext_values_end (I.ok.hd hc) st da (by rw [List.getElem?_eq_none]; omega) fun h' eb=>⟨rfl,I.turned (t':=s.toks) (fun b o hb e=>eb b o hb e) f0 f1 f3 f4 f5⟩
 self:=fun _ _ _ _ _ st h=>wpAny_pyIter_valiter st h
end
end L2
set_option maxHeartbeats 4000000
namespace L2
open PySem PySem.Spec PyProof.Rows
section
variable {X:Cx} {tg:Expr} {l:Expr} {tl:TE}
noncomputable def Itv2 (d:Addr) (kvs:List (Key × V)) (o:Obj):It:=⟨fun i H=>i < kvs.length∧H d=some (.frz o (.dK kvs)),fun i H x H'=>H'=H∧∃ k,kvs[i]?=some (k,x),fun i H=>kvs.length≤i∧H d=some (.frz o (.dK kvs))⟩
noncomputable def Zjb (J:Addr→List (Key × V)→Obj→It) (tl:TE):TI:=fun σ H R=>tl σ H fun x H1=>∃ a kvs,x=.ref a∧((H1 a=some (.dK kvs)∧∀ o,R (J a kvs o) (upd H1 a (.frz o (.dK kvs))))∨∃ o,H1 a=some (.frz o (.dK kvs))∧R (J a kvs o) H1)
theorem Zcy {pins:List (Addr × Obj)} {σ:St} {H:Hp} {s:Shared} {a:Addr} {kvs:List (Key × V)} {R:Obj→Hp→Prop} (I:Inv X pins σ H s)
  (h:(H a=some (.dK kvs)∧∀ o,R o (upd H a (.frz o (.dK kvs))))∨∃ o,H a=some (.frz o (.dK kvs))∧R o H):∃ o H',H' a=some (.frz o (.dK kvs))∧Inv X pins σ H' s∧R o H':=by
 rcases h with ⟨e,r⟩ | ⟨o,e,r⟩
 ·obtain ⟨ob,ho⟩:=(I.hok a _ e).there
  exact ⟨ob,_,Zc,I.freeze e True.intro ho,r ob⟩
 ·exact ⟨o,H,e,I,r⟩
structure M0 (X:Cx) (o:Expr) (m:Str) (apos cpos:Pos):Prop where
 base:attributeBase o m X.env (eval o X.env)=eval o X.env
 few:((backTo cpos (starEach [] X.env)).all (fun x=>!x.1) && (backToKw cpos (keywordEach [] X.env)).all (fun x=>x.1.isSome)
  && decide (([]:List Expr).length + ([]:List Keyword).length + (if ([]:List Keyword).isEmpty then 0 else 1) < 30))=true
 line:(apos.endLine == cpos.line)=true
theorem Zka {apos cpos:Pos} (hl:PE X l tl) (m:M0 X l "values" apos cpos):PI X tg (.Call (.Attribute l "values" apos) [] [] cpos) (Zjb Itv2 tl):=by
 intro pins s σ H R I h
 refine wpAny_Call_method m.base m.few m.line PySem.F.plainAttrs_dict PySem.F.slot_dict_values PySem.F.type_dict_values (thn (hl pins s σ H _ I h) fun v s1 zz9=>?_)
 obtain ⟨x,H1,I1,r1,q1⟩:=zz9
 obtain ⟨a,kvs,e,q⟩:=q1
 subst e
 cases r1
 obtain ⟨o,H2,e2,I2,q2⟩:=Zcy (R:=fun o H=>R (Itv2 a kvs o) H) I1 q
 obtain ⟨vs,ep,rel,da,ho⟩:=Jo I2 e2
 have hep:=Oh da ho
 subst hep
 obtain ⟨_,_,hsys,_⟩:=I2.hok a _ e2
 have isd:IsD H2 a:=.inl ⟨kvs,.inr ⟨o,e2⟩⟩
 obtain ⟨t1,t2,_⟩:=Zcq I2 isd
 refine ⟨t1,t2,?_⟩
 refine Calls.callWith_builtin rfl (PyProof.Rows.evalArgs_empty ?_)
 refine call_meetsIn PySem.F.slot_dict_values da.dictOf.typeIs PySem.F.entry_dict_values (PySem.F.args_dict_values_1 _) (meets_dict_values (Z9 X.prog X.w) a hsys) ⟨⟨vs,da.dictOf⟩,?_⟩
 have I3:Inv X pins σ H2 { s1 with heap:=s1.heap.push { cls:=.type "dict_values",data:=.fields #[.ref a] } }:=I2.kept (t':=s1.toks) fun b o e=>Heap.get?_push_of_some _ e
 refine wpAny_pyIter_values ⟨_,Heap.get?_push_size _ rfl,rfl,rfl⟩ (da.push _) ?_
 have hlen:vs.length=kvs.length:=rel.length.symm
 rw [hlen]
 refine ⟨(s1.heap.push { cls:=.type "dict_values",data:=.fields #[.ref a] }).objs.size,[(s1.heap.push { cls:=.type "dict_values",data:=.fields #[.ref a] }).objs.size],_,_,H2,rfl,I3.kept (t':=s1.toks) fun b o e=>Heap.get?_push_of_some _ e,Zfy a _ kvs o,⟨_,Heap.get?_push_size _ rfl,rfl,rfl⟩,fun b hb=>?_,q2⟩
 have e:b=(s1.heap.push { cls:=.type "dict_values",data:=.fields #[.ref a] }).objs.size:=by simpa using hb
 subst e
 exact I3.fpOk (Nat.le_refl _) (I3.hok.fresh (Nat.le_refl _))
end
section
noncomputable def Ite (K:PySem.W.Frag) (a:Addr):It :=
 ⟨fun i H=>∃ xs x,SqL K H a xs∧xs[i]?=some x,fun i H x H'=>∃ q y,H q=none∧x=.ref q∧(∀ xs,SqL K H a xs→xs[i]?=some y)∧H'=upd H q (.tup [.int i,y]),fun i H=>∃ xs,SqL K H a xs∧xs.length≤i⟩
theorem Zf0 {P:Program} {w:World} {K:PySem.W.Frag} {elts:List Expr} {x1:Nat} {pos:Pos} (a e it:Addr) (hne:e≠it):Turn P w K (.Tuple elts x1 pos) (Ite K a) [e,it] e (fun i h=>(∃ old,IsEnum h e it i old)∧h.IsListIter it a i) where
 mem:=by simp
 obj:=fun i h st b hb=>by
  obtain ⟨⟨old,h1⟩,o,h2,c,d⟩:=st
  rcases List.mem_cons.mp hb with z | z
  ·subst z
   exact ⟨_,h1,fun v z=>by
    have z':Data.fields _=Data.cell v:=z
    cases z'⟩
  ·have z:b=it:=by simpa using z
   subst z
   exact ⟨o,h2,fun v z=>by rw [d] at z; cases z⟩
 keep:=fun i h h' st k=>⟨let ⟨old,h1⟩:=st.1; ⟨old,k e (by simp) _ h1⟩,st.2.at fun o q=>k it (by simp) o q⟩
 item:=by
  intro X hP hw hK hc i pins s σ H E I hf st hg
  subst hP hw hK
  obtain ⟨xs,x,hq,hx⟩:=hg
  obtain ⟨its,rv,p,hz⟩:=I.list hq
  obtain ⟨u,hu,ru⟩:=rv.get hx
  obtain ⟨f0,f1,f2,f3,f4,f5⟩:=hf e (by simp)
  obtain ⟨g0,g1,g2,g3,g4,g5⟩:=hf it (by simp)
  obtain ⟨⟨old,he⟩,hit⟩:=st
  refine wpAny_pyNext_enum_item he hit p.isList (x:=u) (by simpa using hu) hne fun h' ho' hit' ht' hsz' kk=>?_
  have eo:=Heap.lt_size he
  have io:it < s.heap.objs.size:=let ⟨o,q,_⟩:=hit; Heap.lt_size q
  refine ⟨.ref s.heap.objs.size,rfl,wpAny_letOwnedTupleGo_enum ho' fun h'' he'' sb=>?_⟩
  have keepb:∀ b o,b≠e→b≠it→s.heap.get? b=some o→h''.get? b=some o:=fun b o h1 h2 q=>(sb.2 b h1).trans (kk b o h1 h2 q)
  have ht'':h''.get? s.heap.objs.size=some { cls:=.type "tuple",data:=.seq #[.int i s.toks,u] }:=(sb.2 _ (Nat.ne_of_gt eo)).trans ht'
  have hn:H s.heap.objs.size=none:=I.hok.fresh (Nat.le_refl _)
  have I2:Inv X pins σ (upd H s.heap.objs.size (.tup [.int i,x])) { s with heap:=h'',toks:=s.toks + 1 }:=by
   refine I.step (g':=s.gens) (d':=s.drawn) (ch:=[e,it]) (fun b hb=>?_) (fun b o _ _ hc q _=>keepb b o (fun z=>hc (by simp [z])) (fun z=>hc (by simp [z])) q) (fun b o _ _ hc q _=>⟨o.slots,keepb b o (fun z=>hc (by simp [z])) (fun z=>hc (by simp [z])) q⟩) (fun b o _ q n=>by rw [Ze (Nat.ne_of_lt (Heap.lt_size q))]; exact n)
    (fun b o hc q=>⟨o,keepb b o (fun z=>hc (by simp [z])) (fun z=>hc (by simp [z])) q⟩) (fun b ys q=>by rw [Ze (Zj q hn)]; exact q) (fun b o ys q=>by rw [Ze (Zj q hn)]; exact q) (fun b ps q=>⟨#[],by rw [Ze (Zj q hn),q]; simp⟩) (fun m hm=>?_) (fun b v q=>?_) I.bare
   ·rcases List.mem_cons.mp hb with z | z
    ·subst z; exact ⟨f3,f1,f4,f5⟩
    ·have z:b=it:=by simpa using z
     subst z; exact ⟨g3,g1,g4,g5⟩
   ·obtain ⟨o,es,ep,ho,r⟩:=hm
    exact ⟨o,es,ep,keepb _ o (Ne.symm f1) (Ne.symm g1) ho,r⟩
   ·by_cases hb:b=s.heap.objs.size
    ·subst hb
     rw [Zc] at q
     cases q
     exact ⟨by show 2≤sizeLine; decide,[.int i s.toks,u],.cons ⟨_,rfl⟩ (.cons ru .nil),⟨_,ht'',rfl,_,rfl⟩⟩
    ·rw [Ze hb] at q
     refine (I.hok b v q).stay (fun c w' hc z=>keepb c w' ?_ ?_ z) (fun d z=>by rw [Ze (Zj z hn)]; exact z) fun d ys z=>by rw [Ze (Zj z hn)]; exact z
     ·rintro rfl
      rcases hc with z | z
      ·rw [z,q] at f0; cases f0
      ·rw [f0] at z; cases z
     ·rintro rfl
      rcases hc with z | z
      ·rw [z,q] at g0; cases g0
      ·rw [g0] at z; cases z
  refine ⟨.ref s.heap.objs.size,_,I2,rfl,⟨_,x,hn,rfl,fun ys hy=>by rw [I.list_inj hy hq]; exact hx,rfl⟩,⟨⟨u,he''⟩,hit'.at fun o q=>(sb.2 it (Ne.symm hne)).trans q⟩,fun b hb=>?_⟩
  rcases List.mem_cons.mp hb with z | z
  ·subst z; rw [Ze (Nat.ne_of_lt eo)]; exact f0
  ·have z:b=it:=by simpa using z
   subst z; rw [Ze (Nat.ne_of_lt io)]; exact g0
 done:=by
  intro X hP hw hK hc i pins s σ H E I hf st hg
  subst hP hw hK
  obtain ⟨xs,hq,hx⟩:=hg
  obtain ⟨its,rv,p,hz⟩:=I.list hq
  obtain ⟨g0,g1,g2,g3,g4,g5⟩:=hf it (by simp)
  obtain ⟨⟨old,he⟩,hit⟩:=st
  have hl:=rv.length
  exact wpAny_pyNext_enum_end (I.ok.hd hc) he hit p.isList (by simp; omega) fun h' eb=>⟨rfl,I.turned (t':=s.toks) (fun b o hb e=>eb b o hb e) g0 g1 g3 g4 g5⟩
 self:=fun _ _ _ _ _ st h=>by
  obtain ⟨⟨old,he⟩,_⟩:=st
  exact wpAny_pyIter_enum he h
variable {X:Cx}
noncomputable def Zmv (K:PySem.W.Frag) (ta:TA):TI:=fun σ H R=>ta σ H fun vs H1=>∃ a,vs=[.ref a]∧(∃ xs,SqL K H1 a xs)∧R (Ite K a) H1
theorem Zkc {elts:List Expr} {x1:Nat} {tpos p pos:Pos} {l:Expr} {ta:TA} (hg:Gl X "enumerate") (hm:X.mg "enumerate"=none) (ha:PA X [l] ta) (hs:starEach [l] X.env=[(false,eval l X.env)]:=by rfl):PI X (.Tuple elts x1 tpos) (.Call (.Name "enumerate" p) [l] [] pos) (Zmv X.K ta):=by
 intro pins s σ H R I h
 refine Call_ (Xs I hg hm boot_enumerate (PyProof.Rows.callWith_type1 (thn (ha pos pins s σ H _ I h) fun us s1 zz32=>?_) hs rfl))
 obtain ⟨vs,H1,I1,r1,q1⟩:=zz32
 obtain ⟨a,e,⟨xs,hq⟩,q⟩:=q1
 subst e
 obtain ⟨u,rfl,ru⟩:=Xw r1
 cases ru
 obtain ⟨its,rv,pl,hz⟩:=I1.list hq
 refine call_enumerate_list pl.isList fun h' he hit hsz hk=>wpAny_pyIter_enum he ?_
 have I2:Inv X pins σ H1 { s1 with heap:=h' }:=I1.kept (t':=s1.toks) hk
 refine ⟨s1.heap.objs.size + 1,[s1.heap.objs.size + 1,s1.heap.objs.size],_,_,H1,rfl,I2,Zf0 a _ _ (Nat.succ_ne_self _),⟨⟨.none,he⟩,hit⟩,fun b hb=>?_,q⟩
 rcases List.mem_cons.mp hb with z | z
 ·subst z; exact I1.fpOk (Nat.le_succ _) (I1.hok.fresh (Nat.le_succ _))
 ·have z:b=s1.heap.objs.size:=by simpa using z
  subst z; exact I1.fpOk (Nat.le_refl _) (I1.hok.fresh (Nat.le_refl _))
theorem Zi0 {K:PySem.W.Frag} {a:Addr} {xs:List V} {g:TG} {tb:TS} {D:Ends} {σ:St} {H:Hp} (Pv:Nat→St→Hp→Prop) (h0:Pv 0 σ H) (hl:∀ i σ H,i≤xs.length→Pv i σ H→SqL K H a xs)
  (hs:∀ i x σ H q,xs[i]?=some x→H q=none→Pv i σ H→g (.ref q) σ (upd H q (.tup [.int i,x])) fun σ2 H2=>tb { D with nx:=Pv (i + 1),ct:=Pv (i + 1),bk:=D.nx } σ2 H2) (hd:∀ σ H,Pv xs.length σ H→D.nx σ H) :
  ∃ W:Nat→Nat→St→Hp→Prop,(∃ m,W 0 m σ H)∧∀ i m σ H,W i m σ H →
   ((Ite K a).stop i H∧D.nx σ H)∨((Ite K a).go i H∧∃ N:St→Hp→Prop,(∀ σ' H',N σ' H'→∃ m',m' < m∧W (i + 1) m' σ' H')∧∀ x H',(Ite K a).yld i H x H'→g x σ H' fun σ2 H2=>tb { D with nx:=N,ct:=N,bk:=D.nx } σ2 H2):=by
 refine ⟨fun i m σ H=>m=xs.length - i∧i≤xs.length∧Pv i σ H,⟨xs.length,by simp,Nat.zero_le _,h0⟩,?_⟩
 rintro i m σ H ⟨rfl,hi,p⟩
 have q:=hl i σ H hi p
 by_cases hlt:i < xs.length
 ·refine .inr ⟨⟨xs,xs[i],q,by simp [hlt]⟩,Pv (i + 1),fun σ' H' p'=>⟨xs.length - (i + 1),by omega,rfl,hlt,p'⟩,fun x H' y=>?_⟩
  obtain ⟨c,z,hn,e1,e2,e3⟩:=y
  subst e1 e3
  exact hs i z σ H c (e2 xs q) hn p
 ·have e:i=xs.length:=by omega
  subst e
  exact .inl ⟨⟨xs,q,Nat.le_refl _⟩,hd σ H p⟩
theorem Ziz {d:Addr} {kvs:List (Key × V)} {o:Obj} {g:TG} {tb:TS} {D:Ends} {σ:St} {H:Hp} (Pv:Nat→St→Hp→Prop) (h0:Pv 0 σ H) (hl:∀ i σ H,i≤kvs.length→Pv i σ H→H d=some (.frz o (.dK kvs)))
  (hs:∀ i k x σ H,kvs[i]?=some (k,x)→Pv i σ H→g x σ H fun σ2 H2=>tb { D with nx:=Pv (i + 1),ct:=Pv (i + 1),bk:=D.nx } σ2 H2) (hd:∀ σ H,Pv kvs.length σ H→D.nx σ H) :
  ∃ W:Nat→Nat→St→Hp→Prop,(∃ m,W 0 m σ H)∧∀ i m σ H,W i m σ H →
   ((Itv2 d kvs o).stop i H∧D.nx σ H)∨((Itv2 d kvs o).go i H∧∃ N:St→Hp→Prop,(∀ σ' H',N σ' H'→∃ m',m' < m∧W (i + 1) m' σ' H')∧∀ x H',(Itv2 d kvs o).yld i H x H'→g x σ H' fun σ2 H2=>tb { D with nx:=N,ct:=N,bk:=D.nx } σ2 H2):=by
 refine ⟨fun i m σ H=>m=kvs.length - i∧i≤kvs.length∧Pv i σ H,⟨kvs.length,by simp,Nat.zero_le _,h0⟩,?_⟩
 rintro i m σ H ⟨rfl,hi,p⟩
 have q:=hl i σ H hi p
 by_cases hlt:i < kvs.length
 ·refine .inr ⟨⟨hlt,q⟩,Pv (i + 1),fun σ' H' p'=>⟨kvs.length - (i + 1),by omega,rfl,hlt,p'⟩,fun x H' y=>?_⟩
  obtain ⟨e,k,y⟩:=y
  subst e
  exact hs i k x σ _ y p
 ·have e:i=kvs.length:=by omega
  subst e
  exact .inl ⟨⟨Nat.le_refl _,q⟩,hd σ H p⟩
noncomputable def Zjm (ta:TA):TE:=fun σ H Q=>ta σ H fun vs H1=>∃ n:Nat,vs=[.int n]∧n≤1000∧∀ p,H1 p=none→Q (.ref p) (upd H1 p (.lst ((List.range n).map fun (i:Nat)=>V.int i)))
theorem Zb8 {a:Expr} {ta:TA} {p1 p2 pos pos2:Pos} (hgl:Gl X "list") (hml:X.mg "list"=none) (hg:Gl X "range") (hm:X.mg "range"=none) (hc:X.calm=true) (ha:PA X [a] ta) (hs:starEach [a] X.env=[(false,eval a X.env)]:=by rfl)
  (hs2:starEach [.Call (.Name "range" p2) [a] [] pos2] X.env=[(false,eval (.Call (.Name "range" p2) [a] [] pos2) X.env)]:=by rfl):PE X (.Call (.Name "list" p1) [.Call (.Name "range" p2) [a] [] pos2] [] pos) (Zjm ta):=by
 intro pins s σ H Q I h
 refine Call_ (Xs I hgl hml PySem.Pv.boot_list (PyProof.Rows.callWith_type1 ?_ hs2 rfl))
 rw [hs2]
 refine Calls.spliced_cons ?_
 refine Call_ (Xs I hg hm boot_range (PyProof.Rows.callWith_type1 (thn (ha pos2 pins s σ H _ I h) fun us s1 zz33=>?_) hs rfl))
 obtain ⟨vs,H1,I1,r1,q1⟩:=zz33
 obtain ⟨n,e,hn,q⟩:=q1
 subst e
 obtain ⟨u,rfl,ru⟩:=Xw r1
 obtain ⟨t,rfl⟩:=ru
 refine call_range_1 (Calls.spliced_nil ?_)
 have hr:Builtin.Range.rangeSize 0 (n:Int) 1=n:=by rw [rangeSize_one]; split <;> omega
 refine call_list_range (I.ok.hd hc) (IsRange.new ..) (small_one (by omega) (by omega) (by omega) (by omega)) hr (by omega) fun h' tk acc c' hk hS hacc=>?_
 have hk1:∀ b o,s1.heap.get? b=some o→h'.get? b=some o:=fun b o e=>hk b o (Heap.get?_push_of_some _ e)
 have hv:Vals ((List.range n).map fun (i:Nat)=>V.int i) acc.toList:=by
  have gen:∀ (l:List Value) (k:Nat),(∀ (j:Nat) (v:Value),l[j]?=some v→∃ t,v=.int ((k + j:Nat):Int) t)→Vals ((List.range' k l.length).map fun (i:Nat)=>V.int i) l:=by
   intro l
   induction l with
   | nil=>intro k _; exact .nil
   | cons v r ih =>
    intro k h
    obtain ⟨t,e⟩:=h 0 v rfl
    rw [List.length_cons,List.range'_succ,List.map_cons]
    refine .cons ⟨t,by rw [e]; rfl⟩ (ih (k + 1) fun j w hw=>?_)
    obtain ⟨t',e'⟩:=h (j + 1) w (by simpa using hw)
    exact ⟨t',by rw [e']; congr 1; omega⟩
  have hl:acc.toList.length=n:=by rw [Array.length_toList]; exact hacc.1
  have:=gen acc.toList 0 fun j v hj=>by
   obtain ⟨t,e⟩:=hacc.2 j v (by rw [← Array.getElem?_toList]; exact hj)
   exact ⟨t,by rw [e]; congr 1; omega⟩
  rw [hl,← List.range_eq_range'] at this
  exact this
 have hle:s1.heap.objs.size≤(s1.heap.push { cls:=.type "range",data:=.fields #[.int 0 s1.toks,.int (n:Int) t,.int 1 (s1.toks + 1)] }).objs.size:=by rw [Heap.size_push]; exact Nat.le_succ _
 refine ⟨.ref _,upd H1 _ (.lst ((List.range n).map fun (i:Nat)=>V.int i)),I1.laid hk1 (Nat.le_of_lt (by first | exact Nat.lt_of_le_of_lt hle (Heap.lt_size hS) | (rw [Heap.size_push]; exact Nat.lt_succ_self _))) ⟨?_,acc.toList,c',hv,?_⟩,rfl,q _ (I1.hok.fresh ?_)⟩
 ·rw [List.length_map,List.length_range,sizeLine_eq]; omega
 ·simpa using hS
 ·rw [Heap.size_push]; exact Nat.le_succ _
end
end L2
set_option maxHeartbeats 4000000
namespace L2
open PySem PySem.Spec PyProof.Rows
noncomputable abbrev TJ:=Str→TE
noncomputable def PJ (X:Cx) (es:List Expr) (t:TJ):Prop :=
 ∀ (out:Str) (pins:List (Addr × Obj)) (s:Shared) (σ:St) (H:Hp) (Q:VK),Inv X pins σ H s→t out σ H Q→wpAny (model X.prog X.w) X.A (joinParts out (evalEach es X.env)) (EP X pins σ Q) X.xe s
section
variable {X:Cx} {es:List Expr} {t:TJ} {pos:Pos}
noncomputable def jNil:TJ:=fun out _ H Q=>out.length≤sizeLine∧Q (.str out) H
theorem Zlh:PJ X [] jNil:=fun out pins s σ H Q I h=>joinParts_nil (⟨.str out,H,I.tok _,⟨_,rfl⟩,h.2⟩) h.1
noncomputable def jTxt (x:Str) (t:TJ):TJ:=fun out σ H Q=>(out ++ x).length≤sizeLine∧t (out ++ x) σ H Q
theorem Zb4 {x:Str} {k:Nat} (h:PJ X es t):PJ X (.Constant (.str x) k pos :: es) (jTxt x t):=by
 intro out pins s σ H Q I hq
 refine joinParts_cons (Calls.Constant_str ?_)
 exact ⟨hq.1,h _ pins _ σ H Q (I.tok _) hq.2⟩
noncomputable def jInt (te:TE) (t:TJ):TJ:=fun out σ H Q=>te σ H fun v H1=>∃ i:Int,v=.int i∧i.natAbs.log2 < 1920∧(out ++ (toString i:Str)).length≤sizeLine∧t (out ++ (toString i:Str)) σ H1 Q
theorem Zb5 {e:Expr} {te:TE} (he:PE X e te) (h:PJ X es t):PJ X (.FormattedValue e (-1) none pos :: es) (jInt te t):=by
 intro out pins s σ H Q I hq
 refine joinParts_cons (FormattedValue_plain (thn (he pins s σ H _ I hq) fun u s1 zz9=>?_))
 obtain ⟨v,H1,I1,r1,i,ev,hl,hz,q⟩:=zz9
 subst ev
 obtain ⟨tk,rfl⟩:=r1
 exact formatField_int_small hl ⟨hz,h _ pins _ σ H1 Q (I1.tok _) q⟩
theorem Zkd {v₁ v₂:Expr} {rest:List Expr} (h:PJ X (v₁ :: v₂ :: rest) t):PE X (.JoinedStr (v₁ :: v₂ :: rest) pos) (t Str.empty):=fun pins s σ H Q I hq=>JoinedStr_many (h Str.empty pins s σ H Q I hq)
end
end L2
set_option maxHeartbeats 4000000
namespace L2
open PySem PySem.Spec PyProof.Rows
section
variable {X:Cx}
theorem Jm (K:PySem.W.Frag) (h:X.K=K:=by rfl):IxR X (rIxL K):=h ▸ Zw
theorem Fg (K:PySem.W.Frag) (h:X.K=K:=by rfl):Xt X (.type "tuple") (fun xs H Q=>∃ p ys,xs=[.ref p]∧((SqL K H p ys∧∀ l,H l=none→Q (.ref l) (upd H l (.tup ys)))∨(SqT K H p ys∧Q (.ref p) H))):=h ▸ Zax
variable {tg l e:Expr} {tl ta:TE} {f:Str} {pos:Pos}
theorem Zd6 (K:PySem.W.Frag) (hl:PE X l tl) (h:X.K=K:=by rfl):PI X tg l (iTup K tl):=h ▸ Zli hl
end
end L2
set_option maxHeartbeats 4000000
namespace L2
open PySem PySem.Spec PyProof.Rows
end L2
set_option maxHeartbeats 4000000
namespace L2
open PySem PySem.Spec PyProof.Rows
noncomputable def Zje (w:World) (K:PySem.W.Frag) (a:Addr) (kvs:List (Key × V)):Prop :=
 ∃ o es ep vs,K.lookup a=some o∧o.ExactDict∧o.data=.dict es ep∧(∀ e∈es,∃ k,Q4 k e.key=true∧e.hash=keyH w k)∧(∀ P:Program,Pairs (Z9 P w) es.toList vs)∧(vs.map (·.1)).Nodup∧KV kvs vs∧(a == sysModules)=false
section
noncomputable def Itm2 (d:Addr) (kvs:List (Key × V)) (o:Obj):It :=
 ⟨fun i H=>i < kvs.length∧H d=some (.frz o (.dK kvs)),fun i H x H'=>∃ q k v,H q=none∧x=.ref q∧kvs[i]?=some (k,v)∧H'=upd H q (.tup [kV k,v]),fun i H=>kvs.length≤i∧H d=some (.frz o (.dK kvs))⟩
theorem Zeo {P:Program} {w:World} {K:PySem.W.Frag} {elts:List Expr} {x1:Nat} {pos:Pos} (d it:Addr) (kvs:List (Key × V)) (o:Obj) :
  Turn P w K (.Tuple elts x1 pos) (Itm2 d kvs o) [it] it (fun i h=>∃ a b,IsItemIter h it d i kvs.length (epOf o) a b) where
 mem:=by simp
 obj:=fun i h st b hb=>by
  have e:b=it:=by simpa using hb
  subst e
  obtain ⟨a,c,z⟩:=st
  exact ⟨_,z,fun v y=>by
   have y':Data.fields _=Data.cell v:=y
   cases y'⟩
 keep:=fun i h h' st k=>by
  obtain ⟨a,c,z⟩:=st
  exact ⟨a,c,k it (by simp) _ z⟩
 item:=by
  intro X hP hw hK hc i pins s σ H E I hf st hg
  subst hP hw hK
  obtain ⟨hi,hq⟩:=hg
  obtain ⟨vs,ep,rel,da,ho⟩:=Jo I hq
  have hep:=Oh da ho
  subst hep
  obtain ⟨f0,f1,f2,f3,f4,f5⟩:=hf it (by simp)
  obtain ⟨⟨k,v⟩,hx⟩:∃ p,kvs[i]?=some p:=⟨_,List.getElem?_eq_getElem hi⟩
  obtain ⟨u,hu,ru⟩:=rel.at hx
  have hlen:vs.length=kvs.length:=rel.length.symm
  obtain ⟨a0,b0,st⟩:=st
  rw [← hlen] at st
  have itlt:=Heap.lt_size st
  refine wpAny_pyNext_items_item st da hu fun key h' hk st' ht hsz kk=>?_
  rw [hlen] at st'
  refine ⟨.ref s.heap.objs.size,rfl,wpAny_letOwnedTupleGo_items st' fun h'' st'' sb=>?_⟩
  have keepb:∀ b z,b≠it→s.heap.get? b=some z→h''.get? b=some z:=fun b z hb e=>(sb.2 b hb).trans (kk b z hb e)
  have ht'':h''.get? s.heap.objs.size=some { cls:=.type "tuple",data:=.seq #[key,u] }:=(sb.2 _ (Nat.ne_of_gt itlt)).trans ht
  have hn:H s.heap.objs.size=none:=I.hok.fresh (Nat.le_refl _)
  have I2:Inv X pins σ (upd H s.heap.objs.size (.tup [kV k,v])) { s with heap:=h'' }:=by
   refine I.step (g':=s.gens) (d':=s.drawn) (ch:=[it]) (fun b hb=>?_) (fun b o _ _ hc q _=>keepb b o (fun z=>hc (by simp [z])) q) (fun b o _ _ hc q _=>⟨o.slots,keepb b o (fun z=>hc (by simp [z])) q⟩) (fun b o _ q n=>by rw [Ze (Nat.ne_of_lt (Heap.lt_size q))]; exact n)
    (fun b o hc q=>⟨o,keepb b o (fun z=>hc (by simp [z])) q⟩) (fun b ys q=>by rw [Ze (Zj q hn)]; exact q) (fun b o ys q=>by rw [Ze (Zj q hn)]; exact q) (fun b ps q=>⟨#[],by rw [Ze (Zj q hn),q]; simp⟩) (fun m hm=>?_) (fun b v' q=>?_) I.bare
   ·have z:b=it:=by simpa using hb
    subst z; exact ⟨f3,f1,f4,f5⟩
   ·obtain ⟨o,es,ep,ho,r⟩:=hm
    exact ⟨o,es,ep,keepb _ o (Ne.symm f1) ho,r⟩
   ·by_cases hb:b=s.heap.objs.size
    ·subst hb
     rw [Zc] at q
     cases q
     exact ⟨by show 2≤sizeLine; decide,[key,u],.cons (Zmp hk) (.cons ru .nil),⟨_,ht'',rfl,_,rfl⟩⟩
    ·rw [Ze hb] at q
     refine (I.hok b v' q).stay (fun c w' hc z=>keepb c w' ?_ z) (fun d z=>by rw [Ze (Zj z hn)]; exact z) fun d ys z=>by rw [Ze (Zj z hn)]; exact z
     rintro rfl
     rcases hc with z | z
     ·rw [z,q] at f0; cases f0
     ·rw [f0] at z; cases z
  refine ⟨.ref s.heap.objs.size,_,I2,rfl,⟨_,k,v,hn,rfl,hx,rfl⟩,⟨_,_,st''⟩,fun b hb=>?_⟩
  have z:b=it:=by simpa using hb
  subst z; rw [Ze (Nat.ne_of_lt itlt)]; exact f0
 done:=by
  intro X hP hw hK hc i pins s σ H E I hf st hg
  subst hP hw hK
  obtain ⟨hi,hq⟩:=hg
  obtain ⟨vs,ep,rel,da,ho⟩:=Jo I hq
  have hep:=Oh da ho
  subst hep
  obtain ⟨f0,f1,f2,f3,f4,f5⟩:=hf it (by simp)
  have hlen:vs.length=kvs.length:=rel.length.symm
  obtain ⟨a0,b0,st⟩:=st
  rw [← hlen] at st
  exact wpAny_pyNext_items_end (I.ok.hd hc) st da (by rw [List.getElem?_eq_none]; omega) fun h' eb=>⟨rfl,I.turned (t':=s.toks) (fun b o hb e=>eb b o hb e) f0 f1 f3 f4 f5⟩
 self:=fun _ _ _ _ _ st h=>by
  obtain ⟨a,b,st⟩:=st
  exact PySem.W.kcp_self st h
variable {X:Cx} {l:Expr} {tl:TE}
theorem Zb7 {elts:List Expr} {x1:Nat} {tpos apos cpos:Pos} (hl:PE X l tl) (m:M0 X l "items" apos cpos):PI X (.Tuple elts x1 tpos) (.Call (.Attribute l "items" apos) [] [] cpos) (Zjb Itm2 tl):=by
 intro pins s σ H R I h
 refine wpAny_Call_method m.base m.few m.line PySem.F.plainAttrs_dict PySem.F.slot_dict_items PySem.F.type_dict_items (thn (hl pins s σ H _ I h) fun v s1 zz9=>?_)
 obtain ⟨x,H1,I1,r1,q1⟩:=zz9
 obtain ⟨a,kvs,e,q⟩:=q1
 subst e
 cases r1
 obtain ⟨o,H2,e2,I2,q2⟩:=Zcy (R:=fun o H=>R (Itm2 a kvs o) H) I1 q
 obtain ⟨vs,ep,rel,da,ho⟩:=Jo I2 e2
 have hep:=Oh da ho
 subst hep
 obtain ⟨_,_,hsys,_⟩:=I2.hok a _ e2
 have isd:IsD H2 a:=.inl ⟨kvs,.inr ⟨o,e2⟩⟩
 obtain ⟨t1,t2,_⟩:=Zcq I2 isd
 refine ⟨t1,t2,?_⟩
 refine Calls.callWith_builtin rfl (PyProof.Rows.evalArgs_empty ?_)
 refine call_meetsIn PySem.F.slot_dict_items da.dictOf.typeIs PySem.F.entry_dict_items (PySem.F.args_dict_items_1 _) (meets_dict_items (Z9 X.prog X.w) a hsys) ⟨⟨vs,da.dictOf⟩,?_⟩
 have I3:Inv X pins σ H2 { s1 with heap:=s1.heap.push { cls:=.type "dict_items",data:=.fields #[.ref a] } }:=I2.kept (t':=s1.toks) fun b o e=>Heap.get?_push_of_some _ e
 refine wpAny_pyIter_items ⟨_,Heap.get?_push_size _ rfl,rfl,rfl⟩ (da.push _) ?_
 have hlen:vs.length=kvs.length:=rel.length.symm
 rw [hlen]
 refine ⟨(s1.heap.push { cls:=.type "dict_items",data:=.fields #[.ref a] }).objs.size,[(s1.heap.push { cls:=.type "dict_items",data:=.fields #[.ref a] }).objs.size],_,_,H2,rfl,I3.kept (t':=s1.toks) fun b o e=>Heap.get?_push_of_some _ e,Zeo a _ kvs o,⟨_,_,Heap.get?_push_size _ rfl⟩,fun b hb=>?_,q2⟩
 have e:b=(s1.heap.push { cls:=.type "dict_items",data:=.fields #[.ref a] }).objs.size:=by simpa using hb
 subst e
 exact I3.fpOk (Nat.le_refl _) (I3.hok.fresh (Nat.le_refl _))
end
section
noncomputable def Itr3 (lo st:Int) (n:Nat):It:=⟨fun i _=>i < n,fun i H x H'=>H'=H∧x=.int (lo + i * st),fun i _=>n≤i⟩
theorem Zc5 {P:Program} {w:World} {K:PySem.W.Frag} {tg:Expr} (it:Addr) (lo st:Int) (n:Nat):Turn P w K tg (Itr3 lo st n) [it] it (fun i h=>IsRangeIter h it (lo + (i:Nat) * st) ((n:Int) - (i:Nat)) st) where
 mem:=by simp
 obj:=fun i h st b hb=>by
  have e:b=it:=by simpa using hb
  subst e
  exact ⟨_,st,fun v z=>by
   have z':Data.fields _=Data.cell v:=z
   cases z'⟩
 keep:=fun i h h' st k=>k it (by simp) _ st
 item:=by
  intro X hP hw hK hc i pins s σ H E I hf st' hg
  subst hP hw hK
  obtain ⟨f0,f1,f2,f3,f4,f5⟩:=hf it (by simp)
  have W:=Walks.range (prog:=X.prog) (w:=X.w) (I.ok.hd hc) it lo st n
  refine W.item i s _ _ hg st' fun v h' tk hv st2 kk=>?_
  obtain ⟨t,rfl⟩:=hv
  have I1:Inv X pins σ H { s with heap:=h',toks:=tk }:=I.turned (fun b o hb e=>kk b o (by simpa using hb) e) f0 f1 f3 f4 f5
  exact ⟨_,rfl,V1 (s:={ s with heap:=h',toks:=tk }) (n:="range_iterator") st2 rfl rfl (by decide) ⟨.int (lo + i * st),H,I1,⟨t,rfl⟩,⟨rfl,rfl⟩,st2,fun b hb=>(hf b hb).1⟩⟩
 done:=by
  intro X hP hw hK hc i pins s σ H E I hf st' hg
  subst hP hw hK
  obtain ⟨f0,f1,f2,f3,f4,f5⟩:=hf it (by simp)
  exact wpAny_pyNext_range_end (I.ok.hd hc) st' (by have:n≤i:=hg; omega) fun h' eb=>⟨rfl,I.turned (t':=s.toks) (fun b o hb e=>eb b o hb e) f0 f1 f3 f4 f5⟩
 self:=fun _ _ _ _ _ st h=>wpAny_pyIter_rangeiter st h
end
theorem Vq {X:Cx} (K:PySem.W.Frag) (h:X.K=K:=by rfl):SlR X (rSlL K):=h ▸ Jb
theorem kdict_mk2 {w:World} {K:PySem.W.Frag} {a:Addr} {h1 h2:Int} {t1 t2 t3 t4:Tok} {ep:Nat} {x1 y1 x2 y2:Str}
  (l:K.lookup a=some ⟨.type "dict",none,.dict #[⟨h1,.str x1 t1,.str y1 t2⟩,⟨h2,.str x2 t3,.str y2 t4⟩] ep,#[]⟩) (e1:h1=hashStr w x1) (e2:h2=hashStr w x2) (ne:x1≠x2) (sy:(a == sysModules)=false) :
  Zje w K a [(Sum.inr x1,.str y1),(Sum.inr x2,.str y2)]:=by
 refine ⟨_,_,_,[(Sum.inr x1,.str y1 t2),(Sum.inr x2,.str y2 t4)],l,⟨rfl,rfl,rfl⟩,rfl,fun e he=>?_,fun P=>?_,?_,?_,sy⟩
 ·have he:e=⟨h1,.str x1 t1,.str y1 t2⟩∨e=⟨h2,.str x2 t3,.str y2 t4⟩:=by simpa using he
  rcases he with rfl | rfl
  ·exact ⟨Sum.inr x1,Jy x1 t1,e1⟩
  ·exact ⟨Sum.inr x2,Jy x2 t3,e2⟩
 ·exact .cons (Jy x1 t1) rfl (.cons (Jy x2 t3) rfl .nil)
 ·refine List.nodup_cons.mpr ⟨?_,by simp⟩
  simp [ne]
 ·exact .cons ⟨rfl,⟨_,rfl⟩⟩ (.cons ⟨rfl,⟨_,rfl⟩⟩ .nil)
end L2
set_option maxHeartbeats 4000000
namespace L2
open PySem PySem.Spec PyProof.Rows
section
variable {X:Cx}
noncomputable def rEqL (K:PySem.W.Frag):R2:=fun x y H Q=>∃ a b ns ms,x=.ref a∧y=.ref b∧SqL K H a (List.map V.int ns)∧SqL K H b (List.map V.int ms)∧Q (.bl (decide (ns=ms))) H
noncomputable def rNeL (K:PySem.W.Frag):R2:=fun x y H Q=>∃ a b ns ms,x=.ref a∧y=.ref b∧SqL K H a (List.map V.int ns)∧SqL K H b (List.map V.int ms)∧Q (.bl (!decide (ns=ms))) H
theorem Zcb (hu:X.A.units + 64 < cLine):OpR X (compareOp .Eq) (rEqL X.K):=by
 intro pins s σ H x y v u Q I rx ry h
 obtain ⟨a,b,ns,ms,rfl,rfl,ha,hb,q⟩:=h
 cases rx
 cases ry
 obtain ⟨ia,ra,pa,_⟩:=I.list ha
 obtain ⟨ib,rb,pb,_⟩:=I.list hb
 exact PySem.W.eq_intsK pa.isList (W7 ra) pb.isList (W7 rb) hu ⟨.bl _,H,I,rfl,q⟩
theorem Zln (hu:X.A.units + 64 < cLine):OpR X (compareOp .NotEq) (rNeL X.K):=by
 intro pins s σ H x y v u Q I rx ry h
 obtain ⟨a,b,ns,ms,rfl,rfl,ha,hb,q⟩:=h
 cases rx
 cases ry
 obtain ⟨ia,ra,pa,_⟩:=I.list ha
 obtain ⟨ib,rb,pb,_⟩:=I.list hb
 exact PySem.W.ne_intsK pa.isList (W7 ra) pb.isList (W7 rb) hu ⟨.bl _,H,I,rfl,q⟩
theorem Zhk (bs:List Bool):((List.range bs.length).all fun i=>bs.getD i true)=bs.all id:=by
 rw [Bool.eq_iff_iff,List.all_eq_true,List.all_eq_true]
 constructor
 ·intro h b hb
  obtain ⟨i,hi,rfl⟩:=List.mem_iff_getElem.mp hb
  have:=h i (List.mem_range.mpr hi)
  rw [List.getD_eq_getElem?_getD,List.getElem?_eq_getElem hi] at this
  exact this
 ·intro h i hi
  have hi:=List.mem_range.mp hi
  rw [List.getD_eq_getElem?_getD,List.getElem?_eq_getElem hi]
  exact h _ (List.getElem_mem hi)
theorem Kq (hc:X.calm=true):Xt X (.builtin "all") (fun xs H Q=>∃ p bs,xs=[.ref p]∧SqL X.K H p (List.map V.bl bs)∧Q (.bl (bs.all id)) H):=by
 intro pins s σ H xs us Q I r h
 obtain ⟨p,bs,rfl,hq,q⟩:=h
 obtain ⟨u,rfl,ru⟩:=Xw r
 cases ru
 obtain ⟨its,rv,pl,hz⟩:=I.list hq
 have ne:p≠s.heap.objs.size:=by obtain ⟨o,ho,_⟩:=pl.isList; exact Nat.ne_of_lt (Heap.lt_size ho)
 refine call_all_walk (wpAny_pyIter_list pl.isList ⟨s.heap.objs.size,_,_,_,_,_,fun i=>bs.getD i true,rfl,Walks.list (A:=X.A.in1) (show X.A.in1.handled=none from I.ok.hd hc) s.heap.objs.size p ne its.toArray,⟨⟨_,Heap.get?_push_size _ rfl,rfl,rfl⟩,pl.isList.push _⟩,?_,?_⟩)
 ·intro i v s' Q' E' hv hq'
  have hv:its[i]?=some v:=by simpa using hv
  have hlen:=rv.length
  rw [List.length_map] at hlen
  have hi:i < bs.length:=by have:=(List.getElem?_eq_some_iff.mp hv).1; omega
  obtain ⟨u,hu,ru⟩:=rv.get (show (bs.map V.bl)[i]?=some (V.bl bs[i]) by rw [List.getElem?_map,List.getElem?_eq_getElem hi]; rfl)
  rw [hv] at hu
  cases hu
  cases ru
  have e:bs.getD i true=bs[i]:=by rw [List.getD_eq_getElem?_getD,List.getElem?_eq_getElem hi]; rfl
  refine wpAny_truthy_bool ?_
  have hq':Q' (bs.getD i true) s':=hq'
  rw [e] at hq'
  exact hq'
 ·intro h' tk hk
  have I1:Inv X pins σ H { s with heap:=h',toks:=tk }:=I.kept fun b o e=>hk b o (fun z=>absurd (Heap.lt_size e) (by rw [List.mem_singleton.mp z]; exact Nat.lt_irrefl _)) (Heap.get?_push_of_some _ e)
  have hlen:its.toArray.size=bs.length:=by have:=rv.length; rw [List.length_map] at this; simp; omega
  refine ⟨.bl (bs.all id),H,I1,?_,q⟩
  show Value.bool _=_
  rw [hlen,Zhk]
end
section
noncomputable def Zfs (K:PySem.W.Frag) (a:Addr) (n:Nat):It :=
 ⟨fun i H=>i < n∧∃ xs,SqL K H a xs∧xs.length=n,fun i H x H'=>H'=H∧∀ xs,SqL K H a xs→xs[n - 1 - i]?=some x,fun i H=>n≤i∧∃ xs,SqL K H a xs∧xs.length=n⟩
theorem Zhp {P:Program} {w:World} {K:PySem.W.Frag} {tg:Expr} (a it:Addr) (n:Nat):Turn P w K tg (Zfs K a n) [it] it (fun i h=>i≤n∧h.IsRevIter it a ((n:Int) - 1 - i)) where
 mem:=by simp
 obj:=fun i h st b hb=>by
  have e:b=it:=by simpa using hb
  subst e
  obtain ⟨_,o,e,c,d⟩:=st
  exact ⟨o,e,fun v z=>by rw [d] at z; cases z⟩
 keep:=fun i h h' st k=>⟨st.1,st.2.at fun o e=>k it (by simp) o e⟩
 item:=by
  intro X hP hw hK hc i pins s σ H E I hf st hg
  subst hP hw hK
  obtain ⟨hi,xs,hq,hl⟩:=hg
  obtain ⟨its,rv,p,hz⟩:=I.list hq
  obtain ⟨f0,f1,f2,f3,f4,f5⟩:=hf it (by simp)
  have hlt:n - 1 - i < xs.length:=by omega
  obtain ⟨u,hu,ru⟩:=rv.get (List.getElem?_eq_getElem hlt)
  have e1:(n:Int) - 1 - i=((n - 1 - i:Nat):Int):=by omega
  have st2:=st.2
  rw [e1] at st2
  refine wpAny_pyNext_rev_item st2 p.isList (x:=u) (by simpa using hu) fun h' st' sb=>?_
  have I1:Inv X pins σ H { s with heap:=h' }:=I.turned (t':=s.toks) (fun b o hb e=>(sb.2 b hb).trans e) f0 f1 f3 f4 f5
  have e2:((n - 1 - i:Nat):Int) - 1=(n:Int) - 1 - ((i + 1:Nat):Int):=by omega
  rw [e2] at st'
  obtain ⟨o,e,c,d⟩:=id st'
  exact ⟨u,rfl,V1 (s:={ s with heap:=h' }) e c d (by decide) ⟨xs[n - 1 - i],H,I1,ru,⟨rfl,fun ys hy=>by rw [I.list_inj hy hq]; exact List.getElem?_eq_getElem hlt⟩,⟨hi,st'⟩,fun b hb=>(hf b hb).1⟩⟩
 done:=by
  intro X hP hw hK hc i pins s σ H E I hf st hg
  subst hP hw hK
  obtain ⟨hi,xs,hq,hl⟩:=hg
  obtain ⟨f0,f1,f2,f3,f4,f5⟩:=hf it (by simp)
  have st2:=st.2
  rw [show (n:Int) - 1 - i=-1 by have:=st.1; omega] at st2
  exact wpAny_pyNext_rev_end (I.ok.hd hc) st2 fun h' eb=>⟨rfl,I.turned (t':=s.toks) (fun b o hb e=>eb b o hb e) f0 f1 f3 f4 f5⟩
 self:=fun _ _ _ _ _ st h=>wpAny_pyIter_revIter st.2 h
variable {X:Cx} {tg:Expr}
noncomputable def iRev (K:PySem.W.Frag) (ta:TA):TI:=fun σ H R=>ta σ H fun vs H1=>∃ a xs,vs=[.ref a]∧SqL K H1 a xs∧R (Zfs K a xs.length) H1
theorem Zgo {l:Expr} {ta:TA} {p pos:Pos} (hg:Gl X "reversed") (hm:X.mg "reversed"=none) (ha:PA X [l] ta) (hs:starEach [l] X.env=[(false,eval l X.env)]:=by rfl):PI X tg (.Call (.Name "reversed" p) [l] [] pos) (iRev X.K ta):=by
 intro pins s σ H R I h
 refine Call_ (Xs I hg hm boot_reversed (PyProof.Rows.callWith_type1 (thn (ha pos pins s σ H _ I h) fun us s1 zz34=>?_) hs rfl))
 obtain ⟨vs,H1,I1,r1,q1⟩:=zz34
 obtain ⟨a,xs,e,hq,q⟩:=q1
 subst e
 obtain ⟨u,rfl,ru⟩:=Xw r1
 cases ru
 obtain ⟨its,rv,pl,hz⟩:=I1.list hq
 refine call_reversed_list pl.isList ?_
 have I2:Inv X pins σ H1 { s1 with heap:=s1.heap.push (revObj a ((its.toArray.size:Int) - 1)) }:=I1.kept (t':=s1.toks) fun b o e=>Heap.get?_push_of_some _ e
 have hn:its.toArray.size=xs.length:=by have:=rv.length; simp; omega
 rw [hn] at I2 ⊢
 have st:(s1.heap.push (revObj a ((xs.length:Int) - 1))).IsRevIter s1.heap.objs.size a ((xs.length:Int) - 1 - ((0:Nat):Int)):=by
  rw [show (xs.length:Int) - 1 - ((0:Nat):Int)=(xs.length:Int) - 1 by simp]
  exact ⟨_,Heap.get?_push_size _ rfl,rfl,rfl⟩
 refine wpAny_pyIter_revIter st ?_
 refine ⟨s1.heap.objs.size,[s1.heap.objs.size],_,_,H1,rfl,I2,Zhp a _ xs.length,⟨Nat.zero_le _,st⟩,fun b hb=>?_,q⟩
 have e:b=s1.heap.objs.size:=by simpa using hb
 subst e
 exact I1.fpOk (Nat.le_refl _) (I1.hok.fresh (Nat.le_refl _))
theorem Zcn {K:PySem.W.Frag} {a:Addr} {xs:List V} {g:TG} {tt:TT} {tb:TB} {R:St→Hp→Prop} {σ:St} {H:Hp} (Pv:Nat→St→Hp→Prop) (h0:Pv 0 σ H) (hl:∀ i σ H,i≤xs.length→Pv i σ H→SqL K H a xs)
  (hs:∀ (i:Nat) x σ H,xs.reverse[i]?=some x→Pv i σ H→g x σ H fun σ2 H2=>tt σ2 H2 fun b H3=>if b=true then tb σ2 H3 (Pv (i + 1)) else Pv (i + 1) σ2 H3) (hd:∀ σ H,Pv xs.length σ H→R σ H):Wg (Zfs K a xs.length) g tt tb R σ H:=by
 refine ⟨fun i m σ H=>m=xs.length - i∧i≤xs.length∧Pv i σ H,⟨xs.length,by simp,Nat.zero_le _,h0⟩,?_⟩
 rintro i m σ H ⟨rfl,hi,p⟩
 have q:=hl i σ H hi p
 by_cases hlt:i < xs.length
 ·refine .inr ⟨⟨hlt,xs,q,rfl⟩,Pv (i + 1),fun σ' H' p'=>⟨xs.length - (i + 1),by omega,rfl,hlt,p'⟩,fun x H' y=>?_⟩
  obtain ⟨e,y⟩:=y
  subst e
  exact hs i x σ _ (by rw [List.getElem?_reverse hlt]; exact y xs q) p
 ·have e:i=xs.length:=by omega
  subst e
  exact .inl ⟨⟨Nat.le_refl _,xs,q,rfl⟩,hd σ H p⟩
end
section
noncomputable def Itz (K:PySem.W.Frag) (a b:Addr):It :=
  ⟨fun i H=>∃ xs ys x y,SqL K H a xs∧SqL K H b ys∧xs[i]?=some x∧ys[i]?=some y,
   fun i H v H'=>∃ q x y,H q=none∧v=.ref q∧(∀ xs,SqL K H a xs→xs[i]?=some x)∧(∀ ys,SqL K H b ys→ys[i]?=some y)∧H'=upd H q (.tup [x,y]),
   fun i H=>∃ xs ys,SqL K H a xs∧SqL K H b ys∧(xs.length≤i∨ys.length≤i)⟩
theorem Zhm {P:Program} {w:World} {K:PySem.W.Frag} {elts:List Expr} {x1:Nat} {pos:Pos} (a b z TI TO i1 i2:Addr) (D:ZipApart z TI TO i1 i2 a b) :
  Turn P w K (.Tuple elts x1 pos) (Itz K a b) [z,TI,TO,i1,i2] z (fun i h=>IsZip h z TI TO .none∧IsPair h TI (.ref i1) (.ref i2)∧(∃ u v,IsPair h TO u v)∧h.IsListIter i1 a i∧h.IsListIter i2 b i) where
 mem:=by simp
 obj:=fun i h st c hc=>by
  obtain ⟨s1,s2,⟨u,v,s3⟩,⟨o4,e4,c4,d4⟩,o5,e5,c5,d5⟩:=st
  have hc:c=z∨c=TI∨c=TO∨c=i1∨c=i2:=by simpa using hc
  rcases hc with rfl | rfl | rfl | rfl | rfl
  ·exact ⟨_,s1,fun v y=>by have y':Data.fields _=Data.cell v:=y; cases y'⟩
  ·exact ⟨_,s2,fun v y=>by have y':Data.seq _ _=Data.cell v:=y; cases y'⟩
  ·exact ⟨_,s3,fun v y=>by have y':Data.seq _ _=Data.cell v:=y; cases y'⟩
  ·exact ⟨o4,e4,fun v y=>by rw [d4] at y; cases y⟩
  ·exact ⟨o5,e5,fun v y=>by rw [d5] at y; cases y⟩
 keep:=fun i h h' st k=>by
  obtain ⟨s1,s2,⟨u,v,s3⟩,s4,s5⟩:=st
  exact ⟨k z (by simp) _ s1,k TI (by simp) _ s2,⟨u,v,k TO (by simp) _ s3⟩,s4.at fun o e=>k i1 (by simp) o e,s5.at fun o e=>k i2 (by simp) o e⟩
 item:=by
  intro X hP hw hK hc i pins s σ H E I hf st hg
  subst hP hw hK
  obtain ⟨xs,ys,x,y,hqx,hqy,hx,hy⟩:=hg
  obtain ⟨itx,rvx,px,_⟩:=I.list hqx
  obtain ⟨ity,rvy,py,_⟩:=I.list hqy
  obtain ⟨u,hu,ru⟩:=rvx.get hx
  obtain ⟨v,hv,rv⟩:=rvy.get hy
  obtain ⟨s1,s2,⟨u0,v0,s3⟩,s4,s5⟩:=st
  refine wpAny_pyNext_zip_item D s1 s2 s3 s4 s5 px.isList py.isList (x:=u) (y:=v) (by simpa using hu) (by simpa using hv) fun h' a1 a2 a3 a4 a5 a6 a7=>?_
  refine ⟨.ref s.heap.objs.size,rfl,wpAny_letOwnedTupleGo_zip a1 fun h'' b1 sb=>?_⟩
  have lt:∀ c∈[z,TI,TO,i1,i2],c < s.heap.objs.size:=fun c hc=>by
   obtain ⟨o,e,_⟩:∃ o,s.heap.get? c=some o∧True:=by
    have hc:c=z∨c=TI∨c=TO∨c=i1∨c=i2:=by simpa using hc
    rcases hc with rfl | rfl | rfl | rfl | rfl
    ·exact ⟨_,s1,trivial⟩
    ·exact ⟨_,s2,trivial⟩
    ·exact ⟨_,s3,trivial⟩
    ·obtain ⟨o,e,_⟩:=s4; exact ⟨o,e,trivial⟩
    ·obtain ⟨o,e,_⟩:=s5; exact ⟨o,e,trivial⟩
   exact Heap.lt_size e
  have keepb:∀ c o,c≠z→c≠TO→c≠i1→c≠i2→s.heap.get? c=some o→h''.get? c=some o:=fun c o n1 n2 n3 n4 e=>(sb.2 c n1).trans (a7 c o n1 n2 n3 n4 e)
  have zl:=lt z (by simp)
  have ht'':h''.get? s.heap.objs.size=some { cls:=.type "tuple",data:=.seq #[u,v] }:=(sb.2 _ (Nat.ne_of_gt zl)).trans a5
  have hn:H s.heap.objs.size=none:=I.hok.fresh (Nat.le_refl _)
  have I2:Inv X pins σ (upd H s.heap.objs.size (.tup [x,y])) { s with heap:=h'' }:=by
   have out:∀ c,c ∉ [z,TO,i1,i2]→c≠z∧c≠TO∧c≠i1∧c≠i2:=fun c hc=>by simpa using hc
   refine I.step (g':=s.gens) (d':=s.drawn) (ch:=[z,TO,i1,i2]) (fun c hc=>?_) (fun c o _ _ hc q _=>?_) (fun c o _ _ hc q _=>⟨o.slots,?_⟩) (fun c o _ q n=>by rw [Ze (Nat.ne_of_lt (Heap.lt_size q))]; exact n)
    (fun c o hc q=>⟨o,?_⟩) (fun c zs q=>by rw [Ze (Zj q hn)]; exact q) (fun c o zs q=>by rw [Ze (Zj q hn)]; exact q) (fun c ps q=>⟨#[],by rw [Ze (Zj q hn),q]; simp⟩) (fun m hm=>?_) (fun c v' q=>?_) I.bare
   ·have hc:c=z∨c=TO∨c=i1∨c=i2:=by simpa using hc
    have hm:c∈[z,TI,TO,i1,i2]:=by rcases hc with rfl | rfl | rfl | rfl <;> simp
    obtain ⟨f0,f1,f2,f3,f4,f5⟩:=hf c hm
    exact ⟨f3,f1,f4,f5⟩
   ·obtain ⟨n1,n2,n3,n4⟩:=out c hc; exact keepb c o n1 n2 n3 n4 q
   ·obtain ⟨n1,n2,n3,n4⟩:=out c hc; exact keepb c o n1 n2 n3 n4 q
   ·obtain ⟨n1,n2,n3,n4⟩:=out c hc; exact keepb c o n1 n2 n3 n4 q
   ·obtain ⟨o,es,ep,ho,r⟩:=hm
    exact ⟨o,es,ep,keepb _ o (Ne.symm (hf z (by simp)).2.1) (Ne.symm (hf TO (by simp)).2.1) (Ne.symm (hf i1 (by simp)).2.1) (Ne.symm (hf i2 (by simp)).2.1) ho,r⟩
   ·by_cases hb:c=s.heap.objs.size
    ·subst hb
     rw [Zc] at q
     cases q
     exact ⟨by show 2≤sizeLine; decide,[u,v],.cons ru (.cons rv .nil),⟨_,ht'',rfl,_,rfl⟩⟩
    ·rw [Ze hb] at q
     refine (I.hok c v' q).stay (fun e w' he y'=>keepb e w' ?_ ?_ ?_ ?_ y') (fun d y'=>by rw [Ze (Zj y' hn)]; exact y') fun d zs y'=>by rw [Ze (Zj y' hn)]; exact y'
     all_goals
      rintro rfl
      have hz0:H e=none:=(hf e (by simp)).1
      rcases he with y' | y'
      ·rw [y',q] at hz0; cases hz0
      ·rw [hz0] at y'; cases y'
  refine ⟨.ref s.heap.objs.size,_,I2,rfl,⟨_,x,y,hn,rfl,fun xs' hy'=>by rw [I.list_inj hy' hqx]; exact hx,fun ys' hy'=>by rw [I.list_inj hy' hqy]; exact hy,rfl⟩,
   ⟨b1,(sb.2 TI D.TIz).trans (a7 TI _ D.TIz D.TITO D.TIi1 D.TIi2 s2),⟨u,v,(sb.2 TO D.TOz).trans a2⟩,a3.at fun o e=>(sb.2 i1 D.i1z).trans e,a4.at fun o e=>(sb.2 i2 D.i2z).trans e⟩,fun c hc=>?_⟩
  rw [Ze (Nat.ne_of_lt (lt c hc))]
  exact (hf c hc).1
 done:=by
  intro X hP hw hK hc i pins s σ H E I hf st hg
  subst hP hw hK
  obtain ⟨xs,ys,hqx,hqy,hlen⟩:=hg
  obtain ⟨itx,rvx,px,_⟩:=I.list hqx
  obtain ⟨ity,rvy,py,_⟩:=I.list hqy
  obtain ⟨s1,s2,⟨u0,v0,s3⟩,s4,s5⟩:=st
  have l1:=rvx.length
  have l2:=rvy.length
  refine wpAny_pyNext_zip_end (I.ok.hd hc) D s1 s2 s3 s4 s5 px.isList py.isList ?_ fun h' eb=>⟨rfl,?_⟩
  ·rcases hlen with z | z
   ·exact .inl (by simp; omega)
   ·exact .inr (by simp; omega)
  ·have out:∀ c,c ∉ [z,TO,i1,i2]→c≠z∧c≠TO∧c≠i1∧c≠i2:=fun c hc=>by simpa using hc
   refine I.step (g':=s.gens) (d':=s.drawn) (t':=s.toks) (ch:=[z,TO,i1,i2]) (fun c hc=>?_) (fun c o _ _ hc q _=>?_) (fun c o _ _ hc q _=>⟨o.slots,?_⟩) (fun c o _ q n=>n)
    (fun c o hc q=>⟨o,?_⟩) (fun c zs q=>q) (fun c o zs q=>q) (fun c ps q=>⟨#[],by rw [q]; simp⟩) (fun m hm=>?_) (fun c v' q=>?_) I.bare
   ·have hc:c=z∨c=TO∨c=i1∨c=i2:=by simpa using hc
    have hm:c∈[z,TI,TO,i1,i2]:=by rcases hc with rfl | rfl | rfl | rfl <;> simp
    obtain ⟨f0,f1,f2,f3,f4,f5⟩:=hf c hm
    exact ⟨f3,f1,f4,f5⟩
   ·obtain ⟨n1,n2,n3,n4⟩:=out c hc; exact eb c o n1 n2 n3 n4 q
   ·obtain ⟨n1,n2,n3,n4⟩:=out c hc; exact eb c o n1 n2 n3 n4 q
   ·obtain ⟨n1,n2,n3,n4⟩:=out c hc; exact eb c o n1 n2 n3 n4 q
   ·obtain ⟨o,es,ep,ho,r⟩:=hm
    exact ⟨o,es,ep,eb _ o (Ne.symm (hf z (by simp)).2.1) (Ne.symm (hf TO (by simp)).2.1) (Ne.symm (hf i1 (by simp)).2.1) (Ne.symm (hf i2 (by simp)).2.1) ho,r⟩
   ·refine (I.hok c v' q).stay (fun e w' he y'=>eb e w' ?_ ?_ ?_ ?_ y') (fun d y'=>y') fun d zs y'=>y'
    all_goals
     rintro rfl
     have hz0:H e=none:=(hf e (by simp)).1
     rcases he with y' | y'
     ·rw [y',q] at hz0; cases hz0
     ·rw [hz0] at y'; cases y'
 self:=fun _ _ _ _ _ st h=>wpAny_pyIter_zip st.1 h
theorem Zft {N a b:Nat} (la:a < N) (lb:b < N):ZipApart (N + 4) (N + 2) (N + 3) N (N + 1) a b:=by
 constructor <;> (intro z; first | exact absurd (show (_:Nat)=_ from z) (by omega) | omega)
variable {X:Cx}
noncomputable def iZip (K:PySem.W.Frag) (ta:TA):TI:=fun σ H R=>ta σ H fun vs H1=>∃ a b xs ys,vs=[.ref a,.ref b]∧SqL K H1 a xs∧SqL K H1 b ys∧R (Itz K a b) H1
theorem Zgn {elts:List Expr} {x1:Nat} {tpos p pos:Pos} {l m:Expr} {ta:TA} (hg:Gl X "zip") (hm:X.mg "zip"=none) (ha:PA X [l,m] ta) (hs:starEach [l,m] X.env=[(false,eval l X.env),(false,eval m X.env)]:=by rfl) (hs2:starEach [m] X.env=[(false,eval m X.env)]:=by rfl) :
  PI X (.Tuple elts x1 tpos) (.Call (.Name "zip" p) [l,m] [] pos) (iZip X.K ta):=by
 intro pins s σ H R I h
 refine Call_ (Xs I hg hm boot_zip (PyProof.Rows.callWith_type1 (thn (ha pos pins s σ H _ I h) fun us s1 ⟨vs,H1,I1,r1,q1⟩=>?_) (by rw [hs,hs2]) (by rw [hs2]; rfl)))
 obtain ⟨a,b,xs,ys,e,hqx,hqy,q⟩:=q1
 subst e
 obtain ⟨u,v,rfl,ru,rv⟩:=r1.two
 cases ru
 cases rv
 obtain ⟨itx,rvx,px,_⟩:=I1.list hqx
 obtain ⟨ity,rvy,py,_⟩:=I1.list hqy
 have la:a < s1.heap.objs.size:=by obtain ⟨o,ho,_⟩:=px.isList; exact Heap.lt_size ho
 have lb:b < s1.heap.objs.size:=by obtain ⟨o,ho,_⟩:=py.isList; exact Heap.lt_size ho
 refine call_zip_2 px.isList py.isList fun h' z1 z2 z3 z4 z5 z6 z7=>wpAny_pyIter_zip z1 ?_
 have I2:Inv X pins σ H1 { s1 with heap:=h' }:=I1.kept (t':=s1.toks) z7
 generalize hN:s1.heap.objs.size=N at *
 refine ⟨N + 4,[N + 4,N + 2,N + 3,N,N + 1],_,_,H1,rfl,I2,Zhm a b (N + 4) (N + 2) (N + 3) N (N + 1) (Zft la lb),⟨z1,z2,⟨_,_,z3⟩,z4,z5⟩,fun c hc=>?_,q⟩
 have hc:s1.heap.objs.size≤c:=by
  have hc:c=N + 4∨c=N + 2∨c=N + 3∨c=N∨c=N + 1:=by simpa using hc
  rw [hN]
  rcases hc with rfl | rfl | rfl | rfl | rfl
  ·exact Nat.le_add_right _ _
  ·exact Nat.le_add_right _ _
  ·exact Nat.le_add_right _ _
  ·exact Nat.le_refl _
  ·exact Nat.le_add_right _ _
 exact I1.fpOk hc (I1.hok.fresh hc)
theorem Zcl {K:PySem.W.Frag} {a b:Addr} {xs ys:List V} {g:TG} {tt:TT} {tb:TB} {R:St→Hp→Prop} {σ:St} {H:Hp} (hlen:xs.length=ys.length) (Pv:Nat→St→Hp→Prop) (h0:Pv 0 σ H) (hl:∀ i σ H,i≤xs.length→Pv i σ H→SqL K H a xs∧SqL K H b ys)
  (hs:∀ (i:Nat) x y σ H q,xs[i]?=some x→ys[i]?=some y→H q=none→Pv i σ H→g (.ref q) σ (upd H q (.tup [x,y])) fun σ2 H2=>tt σ2 H2 fun b H3=>if b=true then tb σ2 H3 (Pv (i + 1)) else Pv (i + 1) σ2 H3) (hd:∀ σ H,Pv xs.length σ H→R σ H):Wg (Itz K a b) g tt tb R σ H:=by
 refine ⟨fun i m σ H=>m=xs.length - i∧i≤xs.length∧Pv i σ H,⟨xs.length,by simp,Nat.zero_le _,h0⟩,?_⟩
 rintro i m σ H ⟨rfl,hi,p⟩
 obtain ⟨q1,q2⟩:=hl i σ H hi p
 by_cases hlt:i < xs.length
 ·have hlt2:i < ys.length:=by omega
  refine .inr ⟨⟨xs,ys,xs[i],ys[i],q1,q2,by simp [hlt],by simp [hlt2]⟩,Pv (i + 1),fun σ' H' p'=>⟨xs.length - (i + 1),by omega,rfl,hlt,p'⟩,fun x H' y=>?_⟩
  obtain ⟨c,u,v,hn,e1,y1,y2,e2⟩:=y
  subst e1 e2
  exact hs i u v σ H c (y1 xs q1) (y2 ys q2) hn p
 ·have e:i=xs.length:=by omega
  subst e
  exact .inl ⟨⟨xs,ys,q1,q2,.inl (Nat.le_refl _)⟩,hd σ H p⟩
end
end L2
set_option maxHeartbeats 4000000
namespace L2
open PySem PySem.Spec PyProof.Rows
section
variable {prog:Program} {w:World} {A:Around} {E:Value→Shared→Prop} {s:Shared}
noncomputable abbrev upIt (a n:Int):Obj:={ cls:=.type "range_iterator",data:=.fields #[rawInt (a + (n - 1) * 1),rawInt n,rawInt (-1)] }
theorem Vo {z:Int} (h1:-(2 ^ 62)≤z) (h2:z < 2 ^ 62):Builtin.Range.rangeFitsLong z=true:=by
 unfold Builtin.Range.rangeFitsLong
 rw [Bool.and_eq_true,decide_eq_true_eq,decide_eq_true_eq]
 omega
theorem Zh4 (r:Addr) (a b:Int) (t u v:Tok) (hs:(Builtin.Range.rangeFitsLong a && Builtin.Range.rangeFitsLong b && Builtin.Range.rangeFitsLong 1 && Builtin.Range.rangeFitsLong (-1) && Builtin.Range.rangeFitsLong (a - 1) && Builtin.Range.rangeFitsLong (Builtin.Range.rangeSize a b 1))=true) :
  Meets (Builtin.«range.__reversed__» ⟨[.ref r],[]⟩) (fun _ R s=>IsRange s.heap r a b 1 t u v∧R (.ok (.ret (.ref s.heap.objs.size))) { s with heap:=s.heap.push (upIt a (Builtin.Range.rangeSize a b 1)) }) :=
 .of_wp fun prog w A R s h=>by
  obtain ⟨hp,g,d,tk,os⟩:=s
  obtain ⟨hl,h⟩:=h
  unfold Builtin.«range.__reversed__»
  refine wpAny_bind (wpAny_of_eq (a:=Value.ref r) rfl ?_)
  refine wpAny_bind (m:=Builtin.Range.rangeFields (.ref r)) ?_
  unfold Builtin.Range.rangeFields
  refine wpAny_bind (wpAny_field hl rfl (x:=.int a t) rfl ?_)
  refine wpAny_bind (wpAny_of_eq (a:=some a) rfl ?_)
  refine wpAny_bind (wpAny_field hl rfl (x:=.int b u) rfl ?_)
  refine wpAny_bind (wpAny_of_eq (a:=some b) rfl ?_)
  refine wpAny_bind (wpAny_field hl rfl (x:=.int 1 v) rfl ?_)
  refine wpAny_bind (wpAny_of_eq (a:=some 1) rfl ?_)
  refine wpAny_pure ?_
  dsimp only
  simp only [hs,Bool.not_true,Bool.false_eq_true,if_false,if_true]
  exact wpAny_bind (wpAny_newObj_type (wpAny_pure ⟨_,rfl,h⟩))
theorem Zle:isSubtype (.type "range_iterator") (.type "reversed")=pure false:=by
 rw [isSubtype_type]
 kernel_rfl
theorem Zj4 {r:Addr} {a b:Int} {t u v:Tok} {Z:Value→Shared→Prop} (hr:IsRange s.heap r a b 1 t u v)
  (hs:(Builtin.Range.rangeFitsLong a && Builtin.Range.rangeFitsLong b && Builtin.Range.rangeFitsLong 1 && Builtin.Range.rangeFitsLong (-1) && Builtin.Range.rangeFitsLong (a - 1) && Builtin.Range.rangeFitsLong (Builtin.Range.rangeSize a b 1))=true)
  (q:Z (.ref s.heap.objs.size) { s with heap:=s.heap.push (upIt a (Builtin.Range.rangeSize a b 1)) }) :
  codeAny (model prog w) A (.call (.builtin "reversed.__new__") ⟨[.type "reversed",.ref r],[]⟩) (wants Z E) s:=by
 have hT:s.TypeIs (.ref r) "range":=⟨_,hr,rfl⟩
 refine codeAny_of_tree (show wpAny _ A.in1 (checkBuiltinCall "reversed.__new__" ⟨[.type "reversed",.ref r],[]⟩ >>= fun _=>again (.builtin "reversed.__new__" ⟨[.type "reversed",.ref r],[]⟩)) _ _ s from ?_)
 refine wpAny_bind (wpAny_of_eq (PySem.F.newCall_reversed_1 (.ref r)) (wpAny_pure ⟨plainId_quiet PySem.F.plain_reversed_new _,codeAny_builtin PySem.F.entry_reversed_new ?_⟩))
 rw [Around.under_plainId PySem.F.plain_reversed_new _]
 unfold Builtin.«reversed.__new__»
 refine wpAny_bind (wpAny_of_eq (newClass_reversed (.ref r)) ?_)
 refine wpAny_bind (wpAny_of_eq (a:=()) (by first | rfl | kernel_rfl) (wpAny_bind (wpAny_of_eq (a:=()) (by first | rfl | kernel_rfl) ?_)))
 refine wpAny_bind (wpAny_specialOf hT PySem.F.slot_range_reversed.lookup (wpAny_bind (wpAny_of_eq (PySem.F.slot_range_reversed.bind (.ref r)) ?_)))
 have ne:¬ ((Value.builtin "range.__reversed__" == Value.none)=true):=Bool.false_ne_true
 dsimp only
 first | rw [if_neg ne] | (show wpAny _ _ (if (Value.builtin "range.__reversed__" == Value.none)=true then _ else _) _ _ _; rw [if_neg ne])
 refine wpAny_bind (wpAny_rule (wpAny_bind (m:=runValue (.call (.builtin "range.__reversed__") ⟨[.ref r],[]⟩)) ?_))
 show wpAny _ _ (call (.builtin "range.__reversed__") [.ref r]) _ _ _
 refine call_meets PySem.F.slot_range_reversed hT PySem.F.entry_range_reversed (PySem.F.args_range_reversed_1 _) (Zh4 r a b t u v hs) ⟨hr,?_⟩
 first | exact wpAny_pure q | exact wpAny_bind (wpAny_pure (wpAny_pure q))
theorem Zj5 {r:Addr} {a b:Int} {t u v:Tok} {Q:Value→Shared→Prop} (hr:IsRange s.heap r a b 1 t u v)
  (hs:(Builtin.Range.rangeFitsLong a && Builtin.Range.rangeFitsLong b && Builtin.Range.rangeFitsLong 1 && Builtin.Range.rangeFitsLong (-1) && Builtin.Range.rangeFitsLong (a - 1) && Builtin.Range.rangeFitsLong (Builtin.Range.rangeSize a b 1))=true)
  (q:Q (.ref s.heap.objs.size) { s with heap:=s.heap.push (upIt a (Builtin.Range.rangeSize a b 1)) }):wpAny (model prog w) A (call (.type "reversed") [.ref r]) Q E s:=by
 refine callType_other (U:="range_iterator") (Q₁:=fun o z=>o=.ref s.heap.objs.size∧z={ s with heap:=s.heap.push (upIt a (Builtin.Range.rangeSize a b 1)) }) (by decide +kernel) PySem.F.create_reversed ⟨_,_,PySem.F.mro_reversed⟩ PySem.F.made_reversed Zle (PySem.F.typeCall_reversed_1 _) (Zj4 hr hs ⟨rfl,rfl⟩) ?_
 rintro o z ⟨rfl,rfl⟩
 exact ⟨⟨_,Heap.get?_push_size _ rfl,rfl⟩,q⟩
end
section
variable {X:Cx} {tg:Expr}
noncomputable def Zmt (ta:TA):TI:=fun σ H R=>ta σ H fun vs H1=>∃ (i:Int) (n:Nat),vs=[.int i,.int (i + n)]∧0≤i∧i + n≤100000∧R (Itr3 (i + n - 1) (-1) n) H1
theorem Zkb {a b:Expr} {ta:TA} {p1 p2 pos pos2:Pos} (hgl:Gl X "reversed") (hml:X.mg "reversed"=none) (hg:Gl X "range") (hm:X.mg "range"=none) (ha:PA X [a,b] ta) (hs:starEach [a,b] X.env=[(false,eval a X.env),(false,eval b X.env)]:=by rfl) (hsb:starEach [b] X.env=[(false,eval b X.env)]:=by rfl)
  (hs2:starEach [.Call (.Name "range" p2) [a,b] [] pos2] X.env=[(false,eval (.Call (.Name "range" p2) [a,b] [] pos2) X.env)]:=by rfl):PI X tg (.Call (.Name "reversed" p1) [.Call (.Name "range" p2) [a,b] [] pos2] [] pos) (Zmt ta):=by
 intro pins s σ H R I h
 refine Call_ (Xs I hgl hml boot_reversed (PyProof.Rows.callWith_type1 ?_ hs2 rfl))
 rw [hs2]
 refine Calls.spliced_cons ?_
 refine Call_ (Xs I hg hm boot_range (PyProof.Rows.callWith_type1 (thn (ha pos2 pins s σ H _ I h) fun us s1 ⟨vs,H1,I1,r1,q1⟩=>?_) (by rw [hs,hsb]) (by rw [hsb]; rfl)))
 obtain ⟨i,n,e,h0,h1,q⟩:=q1
 subst e
 obtain ⟨u,v,rfl,ru,rv⟩:=r1.two
 obtain ⟨t,rfl⟩:=ru
 obtain ⟨t',rfl⟩:=rv
 refine call_range_2 (Calls.spliced_nil ?_)
 have hr:Builtin.Range.rangeSize i (i + n) 1=n:=by rw [rangeSize_one]; split <;> omega
 have fits:(Builtin.Range.rangeFitsLong i && Builtin.Range.rangeFitsLong (i + n) && Builtin.Range.rangeFitsLong 1 && Builtin.Range.rangeFitsLong (-1) && Builtin.Range.rangeFitsLong (i - 1) && Builtin.Range.rangeFitsLong (Builtin.Range.rangeSize i (i + n) 1))=true:=by
  rw [hr,Vo (by omega) (by omega),Vo (by omega) (by omega),Vo (by decide) (by decide),Vo (by decide) (by decide),Vo (by omega) (by omega),Vo (by omega) (by omega)]
  rfl
 refine Zj5 (IsRange.new ..) fits ?_
 rw [hr]
 have I2:Inv X pins σ H1 { s1 with heap:=s1.heap.push { cls:=.type "range",data:=.fields #[.int i t,.int (i + n) t',.int 1 s1.toks] },toks:=s1.toks + 1 }:=I1.kept fun b o e=>Heap.get?_push_of_some _ e
 have st:IsRangeIter ((s1.heap.push { cls:=.type "range",data:=.fields #[.int i t,.int (i + n) t',.int 1 s1.toks] }).push (upIt i n)) (s1.heap.push { cls:=.type "range",data:=.fields #[.int i t,.int (i + n) t',.int 1 s1.toks] }).objs.size (i + n - 1 + ((0:Nat):Int) * (-1)) ((n:Int) - ((0:Nat):Int)) (-1):=by
  have e1:i + (n:Int) - 1 + ((0:Nat):Int) * (-1)=i + ((n:Int) - 1) * 1:=by simp; omega
  have e2:(n:Int) - ((0:Nat):Int)=n:=by simp
  rw [e1,e2]
  exact Heap.get?_push_size _ rfl
 refine wpAny_pyIter_rangeiter st ?_
 refine ⟨_,[(s1.heap.push { cls:=.type "range",data:=.fields #[.int i t,.int (i + n) t',.int 1 s1.toks] }).objs.size],_,_,H1,rfl,I2.kept (t':=s1.toks + 1) fun b o e=>Heap.get?_push_of_some _ e,Zc5 _ (i + n - 1) (-1) n,st,fun b hb=>?_,q⟩
 have e:b=(s1.heap.push { cls:=.type "range",data:=.fields #[.int i t,.int (i + n) t',.int 1 s1.toks] }).objs.size:=by simpa using hb
 subst e
 exact I2.fpOk (Nat.le_refl _) (I2.hok.fresh (Nat.le_refl _))
theorem Zfj {lo st:Int} {n:Nat} {g:TG} {tb:TS} {D:Ends} {σ:St} {H:Hp} (Pv:Nat→St→Hp→Prop) (h0:Pv 0 σ H)
  (hs:∀ (i:Nat) σ H,i < n→Pv i σ H→g (.int (lo + i * st)) σ H fun σ2 H2=>tb { D with nx:=Pv (i + 1),ct:=Pv (i + 1),bk:=D.nx } σ2 H2) (hd:∀ σ H,Pv n σ H→D.nx σ H) :
  ∃ W:Nat→Nat→St→Hp→Prop,(∃ m,W 0 m σ H)∧∀ i m σ H,W i m σ H →
   ((Itr3 lo st n).stop i H∧D.nx σ H)∨((Itr3 lo st n).go i H∧∃ N:St→Hp→Prop,(∀ σ' H',N σ' H'→∃ m',m' < m∧W (i + 1) m' σ' H')∧∀ x H',(Itr3 lo st n).yld i H x H'→g x σ H' fun σ2 H2=>tb { D with nx:=N,ct:=N,bk:=D.nx } σ2 H2):=by
 refine ⟨fun i m σ H=>m=n - i∧i≤n∧Pv i σ H,⟨n,by simp,Nat.zero_le _,h0⟩,?_⟩
 rintro i m σ H ⟨rfl,hi,p⟩
 by_cases hlt:i < n
 ·refine .inr ⟨hlt,Pv (i + 1),fun σ' H' p'=>⟨n - (i + 1),by omega,rfl,hlt,p'⟩,fun x H' y=>?_⟩
  obtain ⟨e,y⟩:=y
  subst e y
  exact hs i σ _ hlt p
 ·have e:i=n:=by omega
  subst e
  exact .inl ⟨Nat.le_refl _,hd σ H p⟩
theorem Vi {pos:Pos} (K:PySem.W.Frag) {es:List Expr} {k:Nat} {t:TGs} {n:Nat} (hc:X.calm=true) (h:PGs X es t)
  (hn:(assignEach es X.env).length=n:=by rfl) (hst:(assignEach es X.env).findIdx? (·.1)=none:=by rfl) (hk:X.K=K:=by rfl):PG X (.Tuple es k pos) (gTup K n t):=hk ▸ W0 hc h hn hst
end
end L2
set_option maxHeartbeats 4000000
namespace KT
open PySem L2
noncomputable def mV:Option Nat→V
 | none=>.non
 | some j=>.int j
structure TD (M:List (Option Nat)) (ns:List Int):Prop where
 n:∃ n,1≤n∧n≤40∧M.length=3 * n
 len:ns.length=M.length
 inv:∀ (i j:Nat),M[i]?=some (some j)→M[j]?=some (some i)∧i≠j
 rng:∀ (i:Nat) x,ns[i]?=some x→0≤x∧x≤9999
 eqv:∀ (i j:Nat) x,ns[i]?=some x→ns[j]?=some x→i=j∨M[i]?=some (some j)
 eqm:∀ (i j:Nat),M[i]?=some (some j)→ns[j]?=ns[i]?
structure SewOk (N:Nat) (F:List Nat) (M:List (Option Nat)):Prop where
 len:M.length=N
 nd:F.Nodup
 free:∀ f∈F,f < N∧M[f]?=some none
 inv:∀ (i j:Nat),M[i]?=some (some j)→M[j]?=some (some i)∧i≠j
theorem SewOk.start (N:Nat):SewOk N (List.range N) (List.replicate N none):=by
 refine ⟨by simp,List.nodup_range,fun f hf=>?_,fun i j h=>?_⟩
 ·have h:=List.mem_range.mp hf
  exact ⟨h,by rw [List.getElem?_replicate,if_pos h]⟩
 ·rw [List.getElem?_replicate] at h
  split at h <;> cases h
theorem SewOk.skip {N:Nat} {one:Nat} {F:List Nat} {M:List (Option Nat)} (h:SewOk N (one :: F) M):SewOk N F M :=
 ⟨h.len,(List.nodup_cons.mp h.nd).2,fun f hf=>h.free f (List.mem_cons_of_mem _ hf),h.inv⟩
theorem SewOk.pair {N:Nat} {one other k:Nat} {F:List Nat} {M:List (Option Nat)} (h:SewOk N (one :: F) M) (hk:F[k]?=some other):SewOk N (F.eraseIdx k) ((M.set one (some other)).set other (some one)):=by
 obtain ⟨n1,n2⟩:=List.nodup_cons.mp h.nd
 have hm:other∈F:=List.mem_of_getElem? hk
 have hne:one≠other:=fun z=>n1 (z ▸ hm)
 obtain ⟨h1,f1⟩:=h.free one List.mem_cons_self
 obtain ⟨h2,f2⟩:=h.free other (List.mem_cons_of_mem _ hm)
 have l1:one < M.length:=by rw [h.len]; exact h1
 have l2:other < M.length:=by rw [h.len]; exact h2
 have g1:((M.set one (some other)).set other (some one))[one]?=some (some other):=by
  rw [List.getElem?_set_ne (Ne.symm hne),List.getElem?_set_self l1]
 have g2:((M.set one (some other)).set other (some one))[other]?=some (some one):=by
  rw [List.getElem?_set_self (by rw [List.length_set]; exact l2)]
 have g3:∀ i,i≠one→i≠other→((M.set one (some other)).set other (some one))[i]?=M[i]?:=fun i a b=>by
  rw [List.getElem?_set_ne (Ne.symm b),List.getElem?_set_ne (Ne.symm a)]
 refine ⟨by rw [List.length_set,List.length_set]; exact h.len,n2.sublist (List.eraseIdx_sublist F k),fun f hf=>?_,fun i j e=>?_⟩
 ·obtain ⟨i,hi,hik,e⟩:=List.mem_eraseIdx_iff_getElem.mp hf
  have fm:f∈F:=e ▸ List.getElem_mem hi
  obtain ⟨a,b⟩:=h.free f (List.mem_cons_of_mem _ fm)
  have c1:f≠one:=fun z=>n1 (z ▸ fm)
  have c2:f≠other:=fun z=>by
   obtain ⟨hk',ek⟩:=List.getElem?_eq_some_iff.mp hk
   exact hik ((List.getElem_inj n2).mp (e.trans (z.trans ek.symm)))
  exact ⟨a,by rw [g3 f c1 c2]; exact b⟩
 ·by_cases c1:i=one
  ·subst c1
   rw [g1] at e
   cases e
   exact ⟨g2,hne⟩
  ·by_cases c2:i=other
   ·subst c2
    rw [g2] at e
    cases e
    exact ⟨g1,Ne.symm hne⟩
   ·rw [g3 i c1 c2] at e
    obtain ⟨a,b⟩:=h.inv i j e
    have d1:j≠one:=fun z=>by rw [z,f1] at a; cases a
    have d2:j≠other:=fun z=>by rw [z,f2] at a; cases a
    exact ⟨by rw [g3 j d1 d2]; exact a,b⟩
noncomputable def nm (s t:Int) (i:Nat):Int:=(s + t * i) % 10000
noncomputable def rep (M:List (Option Nat)) (i:Nat):Nat:=match M[i]? with
 | some (some j)=>if j < i then j else i
 | _=>i
noncomputable def flat (M:List (Option Nat)) (s t:Int):List Int:=(List.range M.length).map fun i=>nm s t (rep M i)
noncomputable def Vp:List Int:=[1,3,7,9,37,1009,3333,9999]
theorem nm_d:∀ t∈Vp,∀ d:Fin 42,t * ((d.val:Nat):Int) % 10000=0→d.val=0:=by decide +kernel
theorem Zlr {s t:Int} (ht:t∈Vp) {i j:Nat} (hi:i < 42) (hj:j < 42) (h:nm s t i=nm s t j):i=j:=by
  have key:∀ a b:Nat,b≤a→a < 42→nm s t a=nm s t b→a=b:=fun a b hab ha e=>by
    have e2:=Int.emod_eq_emod_iff_emod_sub_eq_zero.mp e
    rw [Int.add_sub_add_left,← Int.mul_sub,← Int.natCast_sub hab] at e2
    have:=nm_d t ht ⟨a - b,Nat.lt_of_le_of_lt (Nat.sub_le _ _) ha⟩ e2
    exact Nat.le_antisymm (Nat.sub_eq_zero_iff_le.mp this) hab
  rcases Nat.le_total i j with h' | h'
  · exact (key j i h' hj h.symm).symm
  · exact key i j h' hi h
theorem Zgi {M:List (Option Nat)} {i N:Nat} (h:i < N):rep M i < N:=by
 unfold rep
 split
 ·split <;> omega
 ·exact h
theorem Uu (M:List (Option Nat)) (i:Nat):rep M i=i∨(∃ j,M[i]?=some (some j)∧j < i∧rep M i=j):=by
 cases e:M[i]? with
 | none=>exact .inl (by unfold rep; rw [e])
 | some o =>
  cases o with
  | none=>exact .inl (by unfold rep; rw [e])
  | some j =>
   by_cases h:j < i
   ·exact .inr ⟨j,rfl,h,by unfold rep; rw [e]; exact if_pos h⟩
   ·exact .inl (by unfold rep; rw [e]; exact if_neg h)
theorem Kn {M:List (Option Nat)} {s t:Int} {i:Nat} {x:Int} (h:(flat M s t)[i]?=some x):i < M.length∧x=nm s t (rep M i):=by
 unfold flat at h
 rw [List.getElem?_map] at h
 by_cases hi:i < M.length
 ·rw [List.getElem?_range hi] at h
  exact ⟨hi,(Option.some.inj h).symm⟩
 ·rw [List.getElem?_eq_none (by simpa using hi)] at h
  cases h
theorem Zee {M:List (Option Nat)} {s t:Int} {i:Nat} (hi:i < M.length):(flat M s t)[i]?=some (nm s t (rep M i)):=by
 unfold flat
 rw [List.getElem?_map,List.getElem?_range hi]
 rfl
theorem Zjk {M:List (Option Nat)} {s t:Int} {n:Nat} (h1:1≤n) (h2:n≤14) (hM:M.length=3 * n) (hinv:∀ (i j:Nat),M[i]?=some (some j)→M[j]?=some (some i)∧i≠j) (ht:t∈Vp):TD M (flat M s t) where
 n:=⟨n,h1,by omega,hM⟩
 len:=by unfold flat; simp
 inv:=hinv
 rng:=fun i x h=>by
  obtain ⟨_,rfl⟩:=Kn h
  unfold nm
  omega
 eqv:=fun i j x hi hj=>by
  obtain ⟨li,ei⟩:=Kn hi
  obtain ⟨lj,ej⟩:=Kn hj
  have e:rep M i=rep M j:=Zlr ht (by have:=Zgi (M:=M) li; omega) (by have:=Zgi (M:=M) lj; omega) (ei.symm.trans ej)
  rcases Uu M i with a | ⟨a,ha,la,ra⟩
  ·rcases Uu M j with b | ⟨b,hb,lb,rb⟩
   ·exact .inl (a.symm.trans (e.trans b))
   ·have:b=i:=by rw [← rb,← e,a]
    subst this
    exact .inr (hinv j b hb).1
  ·rcases Uu M j with b | ⟨b,hb,lb,rb⟩
   ·have:a=j:=by rw [← ra,e,b]
    subst this
    exact .inr ha
   ·have:a=b:=by rw [← ra,e,rb]
    subst this
    have c1:=(hinv i a ha).1
    have c2:=(hinv j a hb).1
    rw [c1] at c2
    exact .inl (by cases c2; rfl)
 eqm:=fun i j h=>by
  obtain ⟨h',hne⟩:=hinv i j h
  have li:i < M.length:=(List.getElem?_eq_some_iff.mp h).1
  have lj:j < M.length:=(List.getElem?_eq_some_iff.mp h').1
  rw [Zee li,Zee lj]
  have e:rep M j=rep M i:=by
   by_cases c:j < i
   ·have a:rep M i=j:=by unfold rep; rw [h]; exact if_pos c
    have b:rep M j=j:=by unfold rep; rw [h']; exact if_neg (by omega)
    rw [a,b]
   ·have a:rep M i=i:=by unfold rep; rw [h]; exact if_neg c
    have b:rep M j=i:=by unfold rep; rw [h']; exact if_pos (by omega)
    rw [a,b]
  rw [e]
end KT
set_option maxHeartbeats 4000000
namespace KT
open PySem L2
noncomputable def pl (ns:List Int) (n:Nat) (x:Int):List Nat:=(List.range n).filter fun i=>decide (ns[i]?=some x)
noncomputable def keys (ns:List Int):Nat→List Int
 | 0=>[]
 | n + 1=>match ns[n]? with
  | some x=>if x∈keys ns n then keys ns n else keys ns n ++ [x]
  | none=>keys ns n
theorem Y0 {ns:List Int} {n:Nat} {x:Int} {i:Nat}:i∈pl ns n x ↔ i < n∧ns[i]?=some x:=by
 unfold pl
 rw [List.mem_filter,List.mem_range]
 simp
theorem Zh9 (ns:List Int) (n:Nat) (x:Int):(pl ns n x).Nodup:=(List.nodup_range).sublist List.filter_sublist
theorem Zgm (ns:List Int) (n:Nat) (x:Int):(pl ns n x).Pairwise (· < ·):=(List.pairwise_lt_range).sublist List.filter_sublist
theorem Zd5 {ns:List Int} {n:Nat} {x:Int} (h:ns[n]?=some x):pl ns (n + 1) x=pl ns n x ++ [n]:=by
 unfold pl
 rw [List.range_succ,List.filter_append]
 congr 1
 simp [h]
theorem Zb2 {ns:List Int} {n:Nat} {x:Int} (h:ns[n]?≠some x):pl ns (n + 1) x=pl ns n x:=by
 unfold pl
 rw [List.range_succ,List.filter_append]
 simp [h]
theorem Jx {ns:List Int} {n:Nat} {x:Int} (h:ns[n]?=some x):keys ns (n + 1)=if x∈keys ns n then keys ns n else keys ns n ++ [x]:=by
 show (match ns[n]? with | some x=>if x∈keys ns n then keys ns n else keys ns n ++ [x] | none=>keys ns n)=_
 rw [h]
theorem X8 {ns:List Int}:∀ {n:Nat} {x:Int},x∈keys ns n ↔ ∃ i,i < n∧ns[i]?=some x
 | 0,x=>by simp [keys]
 | n + 1,x=>by
  have ih:=X8 (ns:=ns) (n:=n) (x:=x)
  have e:x∈keys ns (n + 1) ↔ x∈keys ns n∨ns[n]?=some x:=by
   cases h:ns[n]? with
   | none =>
    have:keys ns (n + 1)=keys ns n:=by
     show (match ns[n]? with | some x=>if x∈keys ns n then keys ns n else keys ns n ++ [x] | none=>keys ns n)=_
     rw [h]
    rw [this]; simp
   | some y =>
    rw [Jx h]
    split
    ·constructor
     ·exact .inl
     ·rintro (z | z)
      ·exact z
      ·cases z; assumption
    ·rw [List.mem_append,List.mem_singleton]
     constructor
     ·rintro (z | z)
      ·exact .inl z
      ·exact .inr (by rw [z])
     ·rintro (z | z)
      ·exact .inl z
      ·exact .inr (by cases z; rfl)
  rw [e,ih]
  constructor
  ·rintro (⟨i,h1,h2⟩ | h)
   ·exact ⟨i,by omega,h2⟩
   ·exact ⟨n,by omega,h⟩
  ·rintro ⟨i,h1,h2⟩
   by_cases c:i=n
   ·subst c; exact .inr h2
   ·exact .inl ⟨i,by omega,h2⟩
theorem Vz (ns:List Int):∀ n,(keys ns n).Nodup
 | 0=>List.nodup_nil
 | n + 1=>by
  have ih:=Vz ns n
  cases h:ns[n]? with
  | none =>
   have:keys ns (n + 1)=keys ns n:=by
    show (match ns[n]? with | some x=>if x∈keys ns n then keys ns n else keys ns n ++ [x] | none=>keys ns n)=_
    rw [h]
   rw [this]; exact ih
  | some y =>
   rw [Jx h]
   split
   ·exact ih
   ·rename_i c
    refine List.nodup_append.mpr ⟨ih,by simp,fun a ha b hb=>?_⟩
    rw [List.mem_singleton] at hb
    subst hb
    rintro rfl
    exact c ha
theorem Qq (ns:List Int):∀ n,(keys ns n).length≤n
 | 0=>Nat.le_refl _
 | n + 1=>by
  have ih:=Qq ns n
  cases h:ns[n]? with
  | none =>
   have:keys ns (n + 1)=keys ns n:=by
    show (match ns[n]? with | some x=>if x∈keys ns n then keys ns n else keys ns n ++ [x] | none=>keys ns n)=_
    rw [h]
   rw [this]; omega
  | some y =>
   rw [Jx h]
   split
   ·omega
   ·rw [List.length_append,List.length_singleton]; omega
theorem Zlg {ns:List Int} {n:Nat} {x:Int} (h:x ∉ keys ns n):pl ns n x=[]:=by
 cases e:pl ns n x with
 | nil=>rfl
 | cons a r =>
  have:a∈pl ns n x:=by rw [e]; exact List.mem_cons_self
  obtain ⟨h1,h2⟩:=Y0.mp this
  exact absurd (X8.mpr ⟨a,h1,h2⟩) h
theorem Zb3 {M:List (Option Nat)} {ns:List Int} (td:TD M ns) (n:Nat) (x:Int):(pl ns n x).length≤2:=by
 match e:pl ns n x with
 | []=>simp
 | [_]=>simp
 | [_,_]=>simp
 | a :: b :: c :: r =>
  exfalso
  have nd:=Zh9 ns n x
  rw [e] at nd
  have ha:=(Y0.mp (show a∈pl ns n x by rw [e]; simp)).2
  have hb:=(Y0.mp (show b∈pl ns n x by rw [e]; simp)).2
  have hc:=(Y0.mp (show c∈pl ns n x by rw [e]; simp)).2
  simp only [List.nodup_cons,List.mem_cons,not_or] at nd
  obtain ⟨⟨n1,n2,_⟩,⟨n3,_⟩,_⟩:=nd
  rcases td.eqv a b x ha hb with z | z
  ·exact n1 z
  ·rcases td.eqv a c x ha hc with y | y
   ·exact n2 y
   ·rw [z] at y
    cases y
    exact n3 rfl
theorem Vw {M:List (Option Nat)} {ns:List Int} (td:TD M ns) {x:Int} (hx:x∈keys ns ns.length) :
  (∃ a,pl ns ns.length x=[a]∧ns[a]?=some x∧M[a]?=some none)∨(∃ a b,a < b∧pl ns ns.length x=[a,b]∧ns[a]?=some x∧ns[b]?=some x∧M[a]?=some (some b)∧M[b]?=some (some a)):=by
 obtain ⟨i,h1,h2⟩:=X8.mp hx
 have mi:i∈pl ns ns.length x:=Y0.mpr ⟨h1,h2⟩
 have l2:=Zb3 td ns.length x
 have st:=Zgm ns ns.length x
 match e:pl ns ns.length x with
 | []=>rw [e] at mi; simp at mi
 | [a] =>
  obtain ⟨ga,ha⟩:=Y0.mp (show a∈pl ns ns.length x by rw [e]; simp)
  refine .inl ⟨a,rfl,ha,?_⟩
  have la:a < M.length:=by rw [← td.len]; exact ga
  cases q:M[a]? with
  | none=>rw [List.getElem?_eq_none_iff] at q; omega
  | some o =>
   cases o with
   | none=>rfl
   | some b =>
    exfalso
    have hb:ns[b]?=some x:=by rw [td.eqm a b q]; exact ha
    have mb:b∈pl ns ns.length x:=Y0.mpr ⟨(List.getElem?_eq_some_iff.mp hb).1,hb⟩
    rw [e,List.mem_singleton] at mb
    exact (td.inv a b q).2 mb.symm
 | [a,b] =>
  obtain ⟨ga,ha⟩:=Y0.mp (show a∈pl ns ns.length x by rw [e]; simp)
  obtain ⟨gb,hb⟩:=Y0.mp (show b∈pl ns ns.length x by rw [e]; simp)
  rw [e] at st
  have hab:a < b:=by simpa using st
  rcases td.eqv a b x ha hb with z | z
  ·omega
  ·exact .inr ⟨a,b,hab,rfl,ha,hb,z,(td.inv a b z).1⟩
 | a :: b :: c :: r=>rw [e] at l2; simp at l2
noncomputable def part (M:List (Option Nat)) (ns:List Int) (ks:List Int):List (Option Nat):=(List.range M.length).map fun i=>match ns[i]? with
 | some x=>if x∈ks then M.getD i none else none
 | none=>none
theorem Xv (M:List (Option Nat)) (ns ks:List Int):(part M ns ks).length=M.length:=by unfold part; simp
theorem Jj {M:List (Option Nat)} {ns ks:List Int} (td:TD M ns) {i:Nat} {x:Int} (h:ns[i]?=some x):(part M ns ks)[i]?=some (if x∈ks then M.getD i none else none):=by
 have li:i < M.length:=by rw [← td.len]; exact (List.getElem?_eq_some_iff.mp h).1
 unfold part
 rw [List.getElem?_map,List.getElem?_range li]
 simp [h]
theorem Zid {M:List (Option Nat)} {ns:List Int} (td:TD M ns):part M ns []=List.replicate M.length none:=by
 apply List.ext_getElem?
 intro i
 by_cases li:i < M.length
 ·obtain ⟨x,hx⟩:∃ x,ns[i]?=some x:=⟨_,List.getElem?_eq_getElem (by rw [td.len]; exact li)⟩
  rw [Jj td hx,List.getElem?_replicate,if_pos li]
  simp
 ·rw [List.getElem?_eq_none (by rw [Xv]; omega),List.getElem?_eq_none (by simp; omega)]
theorem Zie {M:List (Option Nat)} {ns:List Int} (td:TD M ns):part M ns (keys ns ns.length)=M:=by
 apply List.ext_getElem?
 intro i
 by_cases li:i < M.length
 ·have ln:i < ns.length:=by rw [td.len]; exact li
  obtain ⟨x,hx⟩:∃ x,ns[i]?=some x:=⟨_,List.getElem?_eq_getElem ln⟩
  rw [Jj td hx,if_pos (X8.mpr ⟨i,ln,hx⟩),List.getD_eq_getElem?_getD,List.getElem?_eq_getElem li]
  rfl
 ·rw [List.getElem?_eq_none (by rw [Xv]; omega),List.getElem?_eq_none (by omega)]
theorem Zic {M:List (Option Nat)} {ns ks:List Int} (td:TD M ns) {x:Int} {a:Nat} (hp:pl ns ns.length x=[a]) (hm:M[a]?=some none):part M ns (ks ++ [x])=part M ns ks:=by
 apply List.ext_getElem?
 intro i
 by_cases li:i < M.length
 ·have ln:i < ns.length:=by rw [td.len]; exact li
  obtain ⟨y,hy⟩:∃ x,ns[i]?=some x:=⟨_,List.getElem?_eq_getElem ln⟩
  rw [Jj td hy,Jj td hy]
  by_cases c:y=x
  ·subst c
   have:i∈pl ns ns.length y:=Y0.mpr ⟨ln,hy⟩
   rw [hp,List.mem_singleton] at this
   subst this
   have:M.getD i none=none:=by rw [List.getD_eq_getElem?_getD,hm]; rfl
   rw [this]
   simp
  ·simp [c]
 ·rw [List.getElem?_eq_none (by rw [Xv]; omega),List.getElem?_eq_none (by rw [Xv]; omega)]
theorem Zgt {M:List (Option Nat)} {ns ks:List Int} (td:TD M ns) {x:Int} {a b:Nat} (hp:pl ns ns.length x=[a,b]) (hab:a < b) (ha:M[a]?=some (some b)) (hb:M[b]?=some (some a)) :
  part M ns (ks ++ [x])=((part M ns ks).set a (some b)).set b (some a):=by
 have la:a < M.length:=(List.getElem?_eq_some_iff.mp ha).1
 have lb:b < M.length:=(List.getElem?_eq_some_iff.mp hb).1
 have na:=(Y0.mp (show a∈pl ns ns.length x by rw [hp]; simp)).2
 have nb:=(Y0.mp (show b∈pl ns ns.length x by rw [hp]; simp)).2
 apply List.ext_getElem?
 intro i
 by_cases li:i < M.length
 ·have ln:i < ns.length:=by rw [td.len]; exact li
  obtain ⟨y,hy⟩:∃ x,ns[i]?=some x:=⟨_,List.getElem?_eq_getElem ln⟩
  rw [Jj td hy]
  by_cases cb:i=b
  ·subst cb
   rw [nb] at hy; cases hy
   rw [List.getElem?_set_self (by rw [List.length_set,Xv]; exact lb),if_pos (by simp),List.getD_eq_getElem?_getD,hb]
   rfl
  ·rw [List.getElem?_set_ne (Ne.symm cb)]
   by_cases ca:i=a
   ·subst ca
    rw [na] at hy; cases hy
    rw [List.getElem?_set_self (by rw [Xv]; exact la),if_pos (by simp),List.getD_eq_getElem?_getD,ha]
    rfl
   ·rw [List.getElem?_set_ne (Ne.symm ca),Jj td hy]
    have:y≠x:=by
     rintro rfl
     have:i∈pl ns ns.length y:=Y0.mpr ⟨ln,hy⟩
     rw [hp] at this
     simp at this
     omega
    simp [this]
 ·rw [List.getElem?_eq_none (by rw [Xv]; omega),List.getElem?_eq_none (by rw [List.length_set,List.length_set,Xv]; omega)]
end KT
set_option maxHeartbeats 4000000
namespace KT
open PySem L2
noncomputable def nV (i:Nat):V:=.int (i:Int)
theorem W9 {g:Int→V} {y:Int}:∀ {ks:List Int},valV (ks.map fun x=>((Sum.inl x:Key),g x)) (Sum.inl y)=if y∈ks then some (g y) else none
 | []=>by simp [valV]
 | k :: r=>by
  have ih:=W9 (g:=g) (y:=y) (ks:=r)
  unfold valV at ih ⊢
  rw [List.map_cons,List.find?_cons]
  by_cases c:k=y
  ·subst c
   simp
  ·have:(decide ((Sum.inl k:Key)=Sum.inl y))=false:=by
    rw [decide_eq_false_iff_not]
    intro z
    cases z
    exact c rfl
   simp only [this]
   rw [ih]
   have:(y∈k :: r) ↔ y∈r:=by
    rw [List.mem_cons]
    exact ⟨fun z=>z.elim (fun w=>absurd w.symm c) id,.inr⟩
   simp only [this]
theorem Zd3 {g:Int→V} {y:Int} {v:V} {ks:List Int} (h:y ∉ ks):putK (ks.map fun x=>((Sum.inl x:Key),g x)) (Sum.inl y) v=(ks.map fun x=>((Sum.inl x:Key),g x)) ++ [(Sum.inl y,v)]:=by
 unfold putK
 rw [if_neg]
 intro z
 rw [List.any_eq_true] at z
 obtain ⟨kv,h1,h2⟩:=z
 obtain ⟨x,hx,rfl⟩:=List.mem_map.mp h1
 have:(Sum.inl x:Key)=Sum.inl y:=of_decide_eq_true h2
 cases this
 exact h hx
theorem Zj8 {g:Int→V} {y:Int} {v:V} {ks:List Int} (h:y∈ks):putK (ks.map fun x=>((Sum.inl x:Key),g x)) (Sum.inl y) v=ks.map fun x=>((Sum.inl x:Key),if x=y then v else g x):=by
 unfold putK
 rw [if_pos]
 ·rw [List.map_map]
  apply List.map_congr_left
  intro x hx
  show (if (Sum.inl x:Key)=Sum.inl y then ((Sum.inl x:Key),v) else (Sum.inl x,g x))=_
  by_cases c:x=y
  ·subst c; simp
  ·rw [if_neg (fun z=>by cases z; exact c rfl),if_neg c]
 ·rw [List.any_eq_true]
  exact ⟨_,List.mem_map.mpr ⟨y,h,rfl⟩,by simp⟩
theorem Yk {α:Type} {f:α→V} {l:List α} {i:Nat} {x:α} (h:l[i]?=some x):atI (l.map f) (i:Int)=some (f x):=X4 (by rw [List.getElem?_map,h]; rfl)
theorem Xc {H:Hp} {p q:Addr} {o:HO} (h:upd H p o q=none):q≠p∧H q=none:=by
 by_cases c:q=p
 ·subst c; rw [Zc] at h; cases h
 ·rw [Ze c] at h; exact ⟨c,h⟩
end KT
set_option maxHeartbeats 4000000
namespace KT
open PySem L2
noncomputable def after (p:Int):Int:=if p % 3=2 then p - 2 else p + 1
noncomputable def Wk (p:Int):Int:=if p % 3=0 then p + 2 else p - 1
noncomputable def Zmy (left:Bool) (a b:Nat):List Int:=if left then [after a,Wk b,after b,Wk a] else [after a,Wk a,after b,Wk b]
noncomputable def mvI (left:Bool) (a b:Nat) (z:Int):Int :=
 if z=after a then (if left then Wk b else Wk a) else if z=Wk b then (if left then after b else after a) else if z=after b then (if left then Wk a else Wk b) else if z=Wk a then (if left then after a else after b) else z
end KT
set_option maxHeartbeats 4000000
namespace KT
open PySem L2
noncomputable def mvN (left:Bool) (i j z:Nat):Nat:=(mvI left i j z).toNat
noncomputable def nst (left:Bool) (i j:Nat) (ns:List Int) (k:Nat):List Int:=(List.range ns.length).map fun z=>if ((mvN (!left) i j z:Nat):Int)∈(Zmy left i j).take k then ns.getD (mvN (!left) i j z) 0 else ns.getD z 0
end KT
set_option maxHeartbeats 4000000
namespace KT
open PySem L2
noncomputable def side (p k:Nat):Nat:=p - p % 3 + (p + k) % 3
theorem Zj2 {p k n:Nat} (h:p < 3 * n):side p k < 3 * n:=by unfold side; omega
theorem Zbf (p k:Nat):side p k / 3=p / 3:=by unfold side; omega
end KT
set_option maxHeartbeats 4000000
namespace KT
open PySem L2
noncomputable def X3 (M:List (Option Nat)) (p:Int):Bool:=decide (0≤p∧p < M.length) && (M.getD p.toNat none).isSome
noncomputable def Wp (M:List (Option Nat)) (a p:Int):Bool:=match M.getD a.toNat none with
 | some m=>decide (p / 3=(m:Int) / 3) && !decide (p=(m:Int))
 | none=>false
noncomputable def rot {α:Type} (ws:List α) (s:Nat):List α:=ws.drop s ++ ws.take s
noncomputable def W3 (M:List (Option Nat)) (ws vs:List Int):List Bool:=(ws.zip vs).map fun p=>Wp M p.1 p.2
noncomputable def Ws (M:List (Option Nat)) (ws:List Int):Bool:=!ws.isEmpty && ((ws.map (X3 M)).all id && (W3 M ws (rot ws (1 % ws.length))).all id)
theorem Jd {α:Type} (ws:List α) {s:Nat} (h:s≤ws.length):(rot ws s).length=ws.length:=by
 unfold rot
 rw [List.length_append,List.length_drop,List.length_take]
 omega
theorem Ke {α:Type} (ws:List α):rot ws 0=ws:=by unfold rot; simp
theorem U8 {α:Type} {ws:List α} {s k:Nat} (hs:s < ws.length) (hk:k < ws.length):(rot ws s)[k]?=ws[(k + s) % ws.length]?:=by
 unfold rot
 by_cases c:k < ws.length - s
 ·rw [List.getElem?_append_left (by rw [List.length_drop]; exact c),List.getElem?_drop,Nat.mod_eq_of_lt (by omega),Nat.add_comm]
 ·rw [List.getElem?_append_right (by rw [List.length_drop]; omega),List.length_drop,List.getElem?_take_of_lt (by omega)]
  have:(k + s) % ws.length=k - (ws.length - s):=by
   rw [show k + s=(k - (ws.length - s)) + ws.length by omega,Nat.add_mod_right,Nat.mod_eq_of_lt (by omega)]
  rw [this]
structure Pl (M:List (Option Nat)) (ws:List Nat):Prop where
 ne:ws≠[]
 has:∀ p∈ws,∃ m,M[p]?=some (some m)
 nxt:∀ (k:Nat) (a p:Nat),ws[k]?=some a→ws[(k + 1) % ws.length]?=some p→∀ m,M[a]?=some (some m)→p / 3=m / 3∧p≠m
noncomputable abbrev wI (ws:List Nat):List Int:=ws.map fun (x:Nat)=>(x:Int)
theorem F4 {M:List (Option Nat)} {p:Nat}:X3 M (p:Int)=true ↔ ∃ m,M[p]?=some (some m):=by
 unfold X3
 rw [Bool.and_eq_true,decide_eq_true_eq,Int.toNat_natCast]
 constructor
 ·rintro ⟨⟨_,h1⟩,h2⟩
  have h1:p < M.length:=by omega
  rw [List.getD_eq_getElem?_getD,List.getElem?_eq_getElem h1] at h2
  obtain ⟨m,hm⟩:=Option.isSome_iff_exists.mp h2
  exact ⟨m,by rw [List.getElem?_eq_getElem h1]; exact congrArg some hm⟩
 ·rintro ⟨m,hm⟩
  have h1:p < M.length:=(List.getElem?_eq_some_iff.mp hm).1
  exact ⟨⟨by omega,by omega⟩,by rw [List.getD_eq_getElem?_getD,hm]; rfl⟩
theorem Go {M:List (Option Nat)} {a p m:Nat} (h:M[a]?=some (some m)):Wp M (a:Int) (p:Int)=true ↔ p / 3=m / 3∧p≠m:=by
 unfold Wp
 rw [Int.toNat_natCast,List.getD_eq_getElem?_getD,h]
 show (decide ((p:Int) / 3=(m:Int) / 3) && !decide ((p:Int)=(m:Int)))=true ↔ _
 rw [Bool.and_eq_true,decide_eq_true_eq,Bool.not_eq_true',decide_eq_false_iff_not]
 omega
theorem Zdp {M:List (Option Nat)} {ws vs:List Int} (hl:ws.length=vs.length):(W3 M ws vs).all id=true ↔ ∀ (k:Nat) (a p:Int),ws[k]?=some a→vs[k]?=some p→Wp M a p=true:=by
 unfold W3
 rw [List.all_eq_true]
 constructor
 ·intro h k a p ha hp
  refine h (Wp M a p) (List.mem_map.mpr ⟨(a,p),?_,rfl⟩)
  exact List.mem_of_getElem? (i:=k) (by rw [List.getElem?_zip_eq_some]; exact ⟨ha,hp⟩)
 ·intro h b hb
  obtain ⟨⟨a,p⟩,hm,rfl⟩:=List.mem_map.mp hb
  obtain ⟨k,hk⟩:=List.getElem?_of_mem hm
  rw [List.getElem?_zip_eq_some] at hk
  exact h k a p hk.1 hk.2
theorem Uw {M:List (Option Nat)} {ws:List Nat}:Ws M (wI ws)=true ↔ Pl M ws:=by
 have hl:(wI ws).length=ws.length:=by simp
 unfold Ws
 rw [Bool.and_eq_true,Bool.and_eq_true,Bool.not_eq_true',hl]
 constructor
 ·rintro ⟨h0,h1,h2⟩
  have hne:ws≠[]:=by
   rintro rfl
   cases h0
  have hpos:0 < ws.length:=by cases ws with | nil=>exact absurd rfl hne | cons _ _=>simp
  have hh:∀ p∈ws,∃ m,M[p]?=some (some m):=fun p hp=>by
   refine F4.mp (List.all_eq_true.mp h1 _ (List.mem_map.mpr ⟨(p:Int),List.mem_map.mpr ⟨p,hp,rfl⟩,rfl⟩))
  refine ⟨hne,hh,fun k a p ha hp m hm=>?_⟩
  have hs:1 % ws.length < (wI ws).length:=by rw [hl]; exact Nat.mod_lt _ hpos
  have hk:k < (wI ws).length:=by rw [hl]; exact (List.getElem?_eq_some_iff.mp ha).1
  refine (Go hm).mp ((Zdp (by rw [Jd _ (Nat.le_of_lt hs)])).mp h2 k a p (by rw [List.getElem?_map,ha]; rfl) ?_)
  rw [U8 hs hk,hl,show (k + 1 % ws.length) % ws.length=(k + 1) % ws.length by rw [Nat.add_mod_mod],List.getElem?_map,hp]
  rfl
 ·rintro ⟨h0,h1,h2⟩
  have hpos:0 < ws.length:=by cases ws with | nil=>exact absurd rfl h0 | cons _ _=>simp
  have hs:1 % ws.length < (wI ws).length:=by rw [hl]; exact Nat.mod_lt _ hpos
  refine ⟨by cases ws with | nil=>exact absurd rfl h0 | cons _ _=>rfl,?_,?_⟩
  ·rw [List.all_eq_true]
   intro b hb
   obtain ⟨p',hp',rfl⟩:=List.mem_map.mp hb
   obtain ⟨p,hp,rfl⟩:=List.mem_map.mp hp'
   exact F4.mpr (h1 p hp)
  ·refine (Zdp (by rw [Jd _ (Nat.le_of_lt hs)])).mpr fun k a p ha hp=>?_
   have hk:k < (wI ws).length:=(List.getElem?_eq_some_iff.mp ha).1
   rw [U8 hs hk,hl,show (k + 1 % ws.length) % ws.length=(k + 1) % ws.length by rw [Nat.add_mod_mod]] at hp
   rw [List.getElem?_map] at ha hp
   cases ea:ws[k]? with
   | none=>rw [ea] at ha; cases ha
   | some a' =>
    cases ep:ws[(k + 1) % ws.length]? with
    | none=>rw [ep] at hp; cases hp
    | some p' =>
     rw [ea] at ha; cases ha
     rw [ep] at hp; cases hp
     obtain ⟨m,hm⟩:=h1 a' (List.mem_of_getElem? ea)
     exact (Go hm).mpr (h2 k a' p' ea ep m hm)
structure Ch (M:List (Option Nat)) (row:List Nat):Prop where
 has:∀ p∈row,∃ m,M[p]?=some (some m)
 nxt:∀ (k:Nat) (a p m:Nat),row[k]?=some a→row[k + 1]?=some p→M[a]?=some (some m)→p / 3=m / 3∧p≠m
theorem Ch.one {M:List (Option Nat)} {p m:Nat} (h:M[p]?=some (some m)):Ch M [p]:=by
 refine ⟨fun q hq=>?_,fun k a q m' _ hq=>?_⟩
 ·rw [List.mem_singleton] at hq; subst hq; exact ⟨m,h⟩
 ·simp at hq
theorem Ch.snoc {M:List (Option Nat)} {row:List Nat} {a p m:Nat} (h:Ch M row) (hl:row.getLast?=some a) (hm:M[a]?=some (some m)) (h1:p / 3=m / 3) (h2:p≠m) (hp:∃ q,M[p]?=some (some q)):Ch M (row ++ [p]):=by
 refine ⟨fun q hq=>?_,fun k b q m' hb hq hm'=>?_⟩
 ·rcases List.mem_append.mp hq with z | z
  ·exact h.has q z
  ·rw [List.mem_singleton] at z; subst z; exact hp
 ·by_cases c:k + 1 < row.length
  ·rw [List.getElem?_append_left c] at hq
   rw [List.getElem?_append_left (by omega)] at hb
   exact h.nxt k b q m' hb hq hm'
  ·have hk:k + 1 < (row ++ [p]).length:=(List.getElem?_eq_some_iff.mp hq).1
   rw [List.length_append,List.length_singleton] at hk
   have hk:k + 1=row.length:=by omega
   rw [List.getElem?_append_right (by omega),hk] at hq
   have:q=p:=by simpa using hq.symm
   subst this
   rw [List.getElem?_append_left (by omega)] at hb
   rw [List.getLast?_eq_getElem?,show row.length - 1=k by omega,hb] at hl
   cases hl
   rw [hm] at hm'
   cases hm'
   exact ⟨h1,h2⟩
theorem Ch.cut {M:List (Option Nat)} {row:List Nat} {s e a:Nat} (h:Ch M row) (hse:s < e) (h1:row[s]?=some a) (h2:row[e]?=some a):Pl M ((row.drop s).take (e - s)):=by
 have he:e < row.length:=(List.getElem?_eq_some_iff.mp h2).1
 have hl:((row.drop s).take (e - s)).length=e - s:=by rw [List.length_take,List.length_drop]; omega
 have gt:∀ k,k < e - s→((row.drop s).take (e - s))[k]?=row[s + k]?:=fun k hk=>by rw [List.getElem?_take_of_lt hk,List.getElem?_drop]
 refine ⟨fun z=>by rw [z] at hl; simp at hl; omega,fun p hp=>?_,fun k b p hb hp m hm=>?_⟩
 ·exact h.has p (List.mem_of_mem_drop (List.mem_of_mem_take hp))
 ·rw [hl] at hp
  have hk:k < e - s:=by have:=(List.getElem?_eq_some_iff.mp hb).1; rw [hl] at this; exact this
  rw [gt k hk] at hb
  by_cases c:k + 1 < e - s
  ·rw [Nat.mod_eq_of_lt c,gt _ c] at hp
   exact h.nxt (s + k) b p m hb (by rw [show s + k + 1=s + (k + 1) by omega]; exact hp) hm
  ·have hk:k + 1=e - s:=by omega
   rw [hk,Nat.mod_self,gt 0 (by omega),Nat.add_zero,h1] at hp
   cases hp
   exact h.nxt (s + k) b a m hb (by rw [show s + k + 1=e by omega]; exact h2) hm
end KT
set_option maxHeartbeats 4000000
namespace KT
open PySem L2
section
variable {α:Type}
theorem Zbz (l:List α):∀ (m k:Nat),k < m * l.length→(List.replicate m l).flatten[k]?=l[k % l.length]?
 | 0,k,h=>by simp at h
 | m + 1,k,h=>by
  rw [List.replicate_succ,List.flatten_cons]
  by_cases c:k < l.length
  ·rw [List.getElem?_append_left c,Nat.mod_eq_of_lt c]
  ·have hl:0 < l.length:=by
    cases l with
    | nil=>simp at h
    | cons _ _=>simp
   rw [List.getElem?_append_right (by omega),Zbz l m (k - l.length) (by rw [Nat.succ_mul] at h; omega)]
   congr 1
   rw [Nat.mod_eq_sub_mod (by omega:k ≥ l.length)]
theorem Zh5 (l:List α) (m:Nat):(List.replicate m l).flatten.length=m * l.length:=by
 induction m with
 | zero=>simp
 | succ m ih=>rw [List.replicate_succ,List.flatten_cons,List.length_append,ih,Nat.succ_mul,Nat.add_comm]
end
end KT
set_option maxHeartbeats 4000000
namespace L2
open PySem PySem.Spec PyProof.Rows
end L2
set_option maxHeartbeats 4000000
namespace L2
open PySem PySem.Spec PyProof.Rows
section
variable {X:Cx}
noncomputable def V5 (i j:Int):Prop:=0 < j∧j.natAbs.log2 < 9000
theorem Ql:OpR X (binaryOp .FloorDiv) (rI V5 fun i j=>.int (i / j)):=opI fun i j _ _ _ _ _ hc q=>by
 have h1:(0:Int) < j:=hc.1
 exact floordiv_int (by omega) (by rw [Int.fdiv_eq_ediv_of_nonneg i (by omega)]; exact q) (.inl (PyProof.noPylong_of_log2 hc.2))
theorem X2:OpR X (binaryOp .Mult) (rI IntMulOk fun i j=>.int (i * j)):=opI fun _ _ _ _ _ _ _ hc q=>mul_int q hc
theorem log2_lt {j:Int} {k:Nat} (h:j.natAbs < 2 ^ k) (hk:0 < k):j.natAbs.log2 < k:=by
 by_cases e:j.natAbs=0
 ·rw [e]; simpa using hk
 ·exact (Nat.log2_lt e).mpr h
theorem Fh {j:Int} {k:Nat} (h:j.natAbs < 2 ^ k) (hk:0 < k):Builtin.Int.intBits j≤k:=by
 unfold Builtin.Int.intBits
 have:=log2_lt h hk
 split
 ·omega
 ·omega
noncomputable def rEqT (K:PySem.W.Frag):R2:=fun x y H Q=>∃ a b ns ms,x=.ref a∧y=.ref b∧SqT K H a (List.map V.int ns)∧SqT K H b (List.map V.int ms)∧Q (.bl (decide (ns=ms))) H
theorem Zlp (hu:X.A.units + 64 < cLine):OpR X (compareOp .Eq) (rEqT X.K):=by
 intro pins s σ H x y v u Q I rx ry h
 obtain ⟨a,b,ns,ms,rfl,rfl,ha,hb,q⟩:=h
 cases rx
 cases ry
 obtain ⟨ia,ra,pa,_⟩:=I.tuple ha
 obtain ⟨ib,rb,pb,_⟩:=I.tuple hb
 have la:ia.length=ns.length:=by rw [← ra.length,List.length_map]
 have lb:ib.length=ms.length:=by rw [← rb.length,List.length_map]
 refine PySem.SeqAt.eq_tupleAt (e:=fun j=>ns.getD j 0 == ms.getD j 0) pa pb (Nat.lt_of_le_of_lt (Nat.le_add_right _ _) hu) ?_ ?_
 ·intro j h1 h2
  have h1':j < ns.length:=by rw [List.size_toArray] at h1; omega
  have h2':j < ms.length:=by rw [List.size_toArray] at h2; omega
  obtain ⟨u1,e1,r1⟩:=ra.get (i:=j) (show (ns.map V.int)[j]?=some (V.int ns[j]) by rw [List.getElem?_map,List.getElem?_eq_getElem h1']; rfl)
  obtain ⟨u2,e2,r2⟩:=rb.get (i:=j) (show (ms.map V.int)[j]?=some (V.int ms[j]) by rw [List.getElem?_map,List.getElem?_eq_getElem h2']; rfl)
  obtain ⟨t1,rfl⟩:=r1
  obtain ⟨t2,rfl⟩:=r2
  have g1:ia.toArray[j]=.int ns[j] t1:=by
   have:=List.getElem?_eq_some_iff.mp e1
   simpa using this.2
  have g2:ib.toArray[j]=.int ms[j] t2:=by
   have:=List.getElem?_eq_some_iff.mp e2
   simpa using this.2
  rw [g1,g2,show ns.getD j 0=ns[j] by rw [List.getD_eq_getElem?_getD,List.getElem?_eq_getElem h1']; rfl,show ms.getD j 0=ms[j] by rw [List.getD_eq_getElem?_getD,List.getElem?_eq_getElem h2']; rfl]
  exact PySem.SeqAt.EqAt.int_int _ _ _ _
 ·refine Z6 I q ?_
  rw [List.size_toArray,List.size_toArray,la,lb,Bool.eq_iff_iff]
  simp only [decide_eq_true_eq,Bool.and_eq_true,List.all_eq_true,List.mem_range,beq_iff_eq]
  constructor
  ·rintro rfl
   exact ⟨fun _ _=>rfl,rfl⟩
  ·rintro ⟨h1,h2⟩
   apply List.ext_getElem h2
   intro i g1 g2
   have:=h1 i (by omega)
   rw [List.getD_eq_getElem?_getD,List.getD_eq_getElem?_getD,List.getElem?_eq_getElem g1,List.getElem?_eq_getElem g2] at this
   exact this
end
end L2
set_option maxHeartbeats 4000000
namespace HL
open PySem PyProof.Rows HT
section
open PySem.SeqAt
open PySem.AutoSeq1 (wpAny_loadPart')
open PySem.MeetsSeq PySem.MeetsSeq2 PySem.MeetsSeq3
theorem Zed {us:List Value} {ns:List Int} (h:IntsAre us ns):∀ {i:Nat},i < us.length→∃ t,us[i]?=some (.int (ns.getD i 0) t):=by
 induction h with
 | nil=>intro i hi; simp at hi
 | cons n t h ih =>
  intro i hi
  cases i with
  | zero=>exact ⟨t,rfl⟩
  | succ i=>obtain ⟨t',e⟩:=ih (i:=i) (by simpa using hi); exact ⟨t',e⟩
theorem Zkk {a b:List Int} {i:Nat} (h:a.length≤i∨b.length≤i):lexLt (a.drop i) (b.drop i)=decide (a.length - i < b.length - i):=by
 by_cases ha:a.length≤i
 ·rw [List.drop_eq_nil_of_le ha]
  by_cases hb:b.length≤i
  ·rw [List.drop_eq_nil_of_le hb,Uf]; exact (decide_eq_false (by omega)).symm
  ·cases e:b.drop i with
   | nil=>exact absurd (List.drop_eq_nil_iff.mp e) hb
   | cons c t=>rw [Jl]; exact (decide_eq_true (by omega)).symm
 ·have hb:b.length≤i:=by omega
  rw [List.drop_eq_nil_of_le hb]
  cases e:a.drop i with
  | nil=>exact absurd (List.drop_eq_nil_iff.mp e) ha
  | cons c t=>rw [Wo]; exact (decide_eq_false (by omega)).symm
theorem Zef {a:List Int} {i:Nat} (h:i < a.length):a.drop i=a.getD i 0 :: a.drop (i + 1):=by
 rw [List.drop_eq_getElem_cons h,List.getD_eq_getElem?_getD,List.getElem?_eq_getElem h]; rfl
theorem Zkh (l b:Addr) (xs ys:Array Value) (n n2:Nat) (dd dd2:Option Addr) (sl sl2:Array (Option Value)) (ns ms:List Int) (hi:IntsAre xs.toList ns) (hj:IntsAre ys.toList ms) (k:Nat) :
  ∀ i:Nat,i≤xs.size→i≤ys.size→min xs.size ys.size - i=k→Meets (Builtin.«list.__eq__.loop» ⟨[.ref l,.ref b,rawInt i,rawInt 0],[]⟩)
   (fun _ R s=>s.heap.get? l=some { cls:=.type "list",dict:=dd,data:=.seq xs n,slots:=sl }∧s.heap.get? b=some { cls:=.type "list",dict:=dd2,data:=.seq ys n2,slots:=sl2 }∧R (.ok (.ret (.bool (lexLt (ns.drop i) (ms.drop i))))) s):=by
 have z1:xs.size=ns.length:=by rw [← hi.length]; simp
 have z2:ys.size=ms.length:=by rw [← hj.length]; simp
 induction k with
 | zero =>
  intro i b1 b2 hk prog w A R s h
  obtain ⟨hp,g,d,tk,os⟩:=s
  obtain ⟨hl,hb,h⟩:=h
  rw [Zkk (by omega)] at h
  have hv:(decide (ns.length - i < ms.length - i))=decide (xs.size < ys.size):=by
   apply decide_eq_decide.mpr
   omega
  rw [hv] at h
  wp_walk using wpAny_loadPart' hl,wpAny_loadPart' hb
  by_cases c:i < xs.size
  ·have e1:xs[((i:Nat):Int).toNat]?=some xs[i]:=by simp [c]
   have e2:ys[((i:Nat):Int).toNat]?=none:=by simp; omega
   rw [e1,e2]
   wp_walk using wpAny_loadPart' hl,wpAny_loadPart' hb
   exact h
  ·have e1:xs[((i:Nat):Int).toNat]?=none:=by simp; omega
   rw [e1]
   wp_walk using wpAny_loadPart' hl,wpAny_loadPart' hb
   exact h
 | succ k ih =>
  intro i b1 b2 hk prog w A R s h
  obtain ⟨hp,g,d,tk,os⟩:=s
  obtain ⟨hl,hb,h⟩:=h
  have c1:i < xs.size:=by omega
  have c2:i < ys.size:=by omega
  obtain ⟨t1,q1⟩:=Zed hi (i:=i) (by simpa using c1)
  obtain ⟨t2,q2⟩:=Zed hj (i:=i) (by simpa using c2)
  have e1:xs[((i:Nat):Int).toNat]?=some (.int (ns.getD i 0) t1):=by simpa using q1
  have e2:ys[((i:Nat):Int).toNat]?=some (.int (ms.getD i 0) t2):=by simpa using q2
  have hc:((i:Int) + 1)=((i + 1:Nat):Int):=by push_cast; rfl
  rw [Zef (a:=ns) (i:=i) (by omega),Zef (a:=ms) (i:=i) (by omega),J8] at h
  wp_walk using wpAny_loadPart' hl,wpAny_loadPart' hb
  rw [e1,e2]
  obtain ⟨ev,he,hiff⟩:=Zi2 A.in1 ⟨hp,g,d,tk,os⟩ (ns.getD i 0) t1 (ms.getD i 0) t2
  refine wpAny_bind (he prog w _ _ ?_)
  cases ev with
  | true =>
   rw [if_pos (hiff.mp rfl)] at h
   wp_walk
   rw [hc]
   refine ⟨plainId_quiet plain_eq_loop _,codeAny_builtin entry_eq_loop ?_⟩
   rw [Around.under_plainId plain_eq_loop _]
   exact ih (i + 1) (by omega) (by omega) (by omega) prog w A R _ ⟨hl,hb,h⟩
  | false =>
   rw [if_neg (fun q=>absurd (hiff.mpr q) Bool.false_ne_true)] at h
   wp_walk using wpAny_loadPart' hl,wpAny_loadPart' hb
   rw [e1,e2]
   have hri:=Zh6 A.in1 ⟨hp,g,d,tk,os⟩ (ns.getD i 0) t1 (ms.getD i 0) t2 prog w
   wp_walk using hri
   exact h
theorem Zkj (l b:Addr) (xs ys:Array Value) (n n2:Nat) (dd dd2:Option Addr) (sl sl2:Array (Option Value)) (ns ms:List Int) (hi:IntsAre xs.toList ns) (hj:IntsAre ys.toList ms) :
  Meets (Builtin.«list.__lt__» ⟨[.ref l,.ref b],[]⟩)
   (fun _ R s=>s.heap.get? l=some { cls:=.type "list",dict:=dd,data:=.seq xs n,slots:=sl }∧s.heap.get? b=some { cls:=.type "list",dict:=dd2,data:=.seq ys n2,slots:=sl2 }∧R (.ok (.ret (.bool (lexLt ns ms)))) s):=by
 intro prog w A R s h
 obtain ⟨hp,g,d,tk,os⟩:=s
 obtain ⟨hl,hb,h⟩:=h
 have f3:=AutoSeq1.sub_list_list
 wp_walk using wpAny_loadPart' hl,wpAny_loadPart' hb
 refine ⟨plainId_quiet plain_eq_loop _,codeAny_builtin entry_eq_loop ?_⟩
 rw [Around.under_plainId plain_eq_loop _]
 exact Zkh l b xs ys n n2 dd dd2 sl sl2 ns ms hi hj _ 0 (Nat.zero_le _) (Nat.zero_le _) rfl prog w A R _ ⟨hl,hb,h⟩
end
section
variable {prog:Program} {w:World} {A:Around} {E:Value→Shared→Prop} {s:Shared}
theorem lt_lists {l b:Addr} {xs ys:Array Value} {ns ms:List Int} {Q:Value→Shared→Prop} (hl:s.heap.IsList l xs) (hb:s.heap.IsList b ys) (hi:IntsAre xs.toList ns) (hj:IntsAre ys.toList ms)
  (hu:A.units < cLine) (h:Q (.bool (lexLt ns ms)) s):wpAny (model prog w) A (richCompare .Lt (.ref l) (.ref b)) Q E s:=by
 obtain ⟨⟨cls,dd,data,sl⟩,ho,hc,n,hd⟩:=id hl
 obtain ⟨⟨cls2,dd2,data2,sl2⟩,ho2,hc2,n2,hd2⟩:=id hb
 simp only at hc hd hc2 hd2
 subst hc hd hc2 hd2
 exact richCompare_meets_room (op:=.Lt) ⟨_,ho,rfl⟩ ⟨_,ho2,rfl⟩ PySem.F.slot_list_lt PySem.F.entry_list_lt (PySem.F.args_list_lt_2 _ _) (Zkj l b xs ys n n2 dd dd2 sl sl2 ns ms hi hj)
  ⟨ho,ho2,show Value.bool (lexLt ns ms)≠Value.notImplemented∧Q (.bool (lexLt ns ms)) s from ⟨(fun x=>nomatch x),h⟩⟩ hu
end
section
variable {prog:Program} {w:World} {A:Around} {R:Result→Shared→Prop} {I:Addr} {fp wr:List Addr} {n:Nat} {P:Nat→Value→Prop} {St:Nat→Heap→Prop}
theorem Od {g:Heap} {B:Addr} {f:Obj→Obj} (b:Addr) (o:Obj) (bB:b≠B) (e:g.get? b=some o):(g.update B f).get? b=some o:=(Heap.get?_update_other _ _ (Ne.symm bB)).trans e
noncomputable def CmpIn (prog:Program) (w:World) (A:Around) (J:Heap→Prop) (P:Nat→Value→Prop) (bt:Nat→Nat→Bool):Prop :=
 ∀ i j vi vj (s:Shared) (Q:Value→Shared→Prop) (E:Value→Shared→Prop),J s.heap→P i vi→P j vj→Q (.bool (bt i j)) s→wpAny (model prog w) A (richCompare .Lt vi vj) Q E s
theorem Zls {J:Heap→Prop} (V:Walks prog w A.in1 I fp wr n P St) (bt:Nat→Nat→Bool) (cmp:CmpIn prog w A.in1 J P bt) (B:Addr) (nB:B ∉ fp) (stay:∀ h h':Heap,J h→(∀ b o,b ∉ wr→b≠B→h.get? b=some o→h'.get? b=some o)→J h') :
  ∀ (k j:Nat) (s:Shared) (u:Value) (c:Nat),n - (j + 1)=k→j + 1≤n→St (j + 1) s.heap→J s.heap→P (argBest bt j) u→s.heap.get? B=some { cls:=.type "list",dict:=none,data:=.seq #[u,u] c,slots:=#[] } →
  (∀ v h' tk,P (argBest bt (n - 1)) v→(∀ b o,b ∉ wr→b≠B→s.heap.get? b=some o→h'.get? b=some o)→R (.ok (.ret v)) { s with heap:=h',toks:=tk }) →
  codeAny (model prog w) A (.builtin "min.loop" ⟨[.ref I,.none,.ref B],[]⟩) R s:=by
 have nW:B ∉ wr:=fun z=>nB (V.sub _ z)
 have nm:(toString "min" ++ toString ".loop":String)="min.loop":=by decide
 intro k
 induction k with
 | zero =>
  intro j s u c ek lj st hJ pu hB out
  have last:j + 1=n:=by omega
  refine codeAny_builtin F.entry_min_loop ?_; rw [Around.under_plainId F.plain_min_loop _]
  show wpAny _ A.in1 (seqItems? (.ref B) >>= _) _ _ s
  refine wpAny_bind (wpAny_seqItems hB rfl ?_); show wpAny _ A.in1 (tryCatch (pyNext (.ref I)) _ >>= _) _ _ s
  refine wpAny_bind (wpAny_tryCatch (V.done s _ _ (last ▸ st) fun g tk kp=>?_))
  have hB2:=kp B _ nW hB
  show wpAny _ A.in1 (updateSeq B (fun _=>#[]) >>= _) _ _ _
  refine wpAny_bind (wpAny_updateSeq hB2 rfl (wpAny_bind (wpAny_letGo (wpAny_pure ?_))))
  exact out u _ tk (by rw [← last]; exact pu) fun b o bw bB e=>(Heap.get?_update_other _ _ (Ne.symm bB)).trans (kp b o bw e)
 | succ k ih =>
  intro j s u c ek lj st hJ pu hB out
  have more:j + 1 < n:=by omega
  refine codeAny_builtin F.entry_min_loop ?_; rw [Around.under_plainId F.plain_min_loop _]
  show wpAny _ A.in1 (seqItems? (.ref B) >>= _) _ _ s
  refine wpAny_bind (wpAny_seqItems hB rfl ?_); show wpAny _ A.in1 (tryCatch (pyNext (.ref I)) _ >>= _) _ _ s
  refine wpAny_bind (wpAny_tryCatch (V.item (j + 1) s _ _ more st fun v g tk pv st2 kp=>?_))
  have hB2:=kp B _ nW hB
  have hJ2:J g:=stay _ _ hJ fun b o bw _ e=>kp b o bw e
  show wpAny _ A.in1 (tryCatch (holding [v,v] (richCompare .Lt v u >>= _)) _ >>= _) _ _ _
  refine wpAny_bind (wpAny_tryCatch (wpAny_holding (wpAny_bind (cmp (j + 1) (argBest bt j) v u _ _ _ hJ2 pv pu ?_))))
  refine wpAny_bind (wpAny_holding (wpAny_truthy_bool ?_)); refine wpAny_bind (wpAny_letGo (wpAny_pure ?_))
  cases less:bt (j + 1) (argBest bt j) with
  | true =>
   simp only [if_true]
   refine wpAny_bind (wpAny_updateSeq hB2 rfl (wpAny_bind (wpAny_letGo ?_))); rw [nm]
   refine wpAny_pure ⟨plainId_quiet F.plain_min_loop _,ih (j + 1) _ v _ (by omega) more (V.frame _ _ _ st2 fun b bf o e=>Od b o (fun z=>nB (z ▸ bf)) e) (stay _ _ hJ2 fun b o _ bB e=>Od b o bB e) (by simp only [argBest,less,if_true]; exact pv) (Heap.get?_update_self _ hB2 rfl) fun v' g' tk' pv' kp'=>?_⟩
   exact out v' g' tk' pv' fun b o bw bB e=>kp' b o bw bB (Od b o bB (kp b o bw e))
  | false =>
   simp only [Bool.false_eq_true,if_false]
   refine wpAny_bind (wpAny_letGo ?_); rw [nm]
   refine wpAny_pure ⟨plainId_quiet F.plain_min_loop _,ih (j + 1) _ u c (by omega) more st2 hJ2 (by simp only [argBest,less,Bool.false_eq_true,if_false]; exact pu) hB2 fun v' g' tk' pv' kp'=>?_⟩
   exact out v' g' tk' pv' fun b o bw bB e=>kp' b o bw bB (kp b o bw e)
theorem Fy {J:Heap→Prop} (V:Walks prog w A.in1 I fp wr n P St) (bt:Nat→Nat→Bool) (cmp:CmpIn prog w A.in1 J P bt) (B:Addr) (nB:B ∉ fp) (stay:∀ h h':Heap,J h→(∀ b o,b ∉ wr→b≠B→h.get? b=some o→h'.get? b=some o)→J h') (hn:0 < n) {s:Shared} {c:Nat} (st:St 0 s.heap) (hJ:J s.heap)
  (hB:s.heap.get? B=some { cls:=.type "list",dict:=none,data:=.seq #[] c,slots:=#[] })
  (out:∀ v h' tk,P (argBest bt (n - 1)) v→(∀ b o,b ∉ wr→b≠B→s.heap.get? b=some o→h'.get? b=some o)→R (.ok (.ret v)) { s with heap:=h',toks:=tk }) :
  codeAny (model prog w) A (.builtin "min.loop" ⟨[.ref I,.none,.ref B],[]⟩) R s:=by
 have nW:B ∉ wr:=fun z=>nB (V.sub _ z)
 have nm:(toString "min" ++ toString ".loop":String)="min.loop":=by decide
 refine codeAny_builtin F.entry_min_loop ?_; rw [Around.under_plainId F.plain_min_loop _]
 show wpAny _ A.in1 (seqItems? (.ref B) >>= _) _ _ s
 refine wpAny_bind (wpAny_seqItems hB rfl ?_); show wpAny _ A.in1 (tryCatch (pyNext (.ref I)) _ >>= _) _ _ s
 refine wpAny_bind (wpAny_tryCatch (V.item 0 s _ _ hn st fun v g tk pv st2 kp=>?_))
 have hB2:=kp B _ nW hB
 have hJ2:J g:=stay _ _ hJ fun b o bw _ e=>kp b o bw e
 show wpAny _ A.in1 (updateSeq B (fun _=>#[v,v]) >>= _) _ _ _
 refine wpAny_bind (wpAny_updateSeq hB2 rfl ?_); rw [nm]
 refine wpAny_pure ⟨plainId_quiet F.plain_min_loop _,Zls V bt cmp B nB stay _ 0 _ v _ rfl hn (V.frame _ _ _ st2 fun b bf o e=>Od b o (fun z=>nB (z ▸ bf)) e) (stay _ _ hJ2 fun b o _ bB e=>Od b o bB e) pv (Heap.get?_update_self _ hB2 rfl) fun v' g' tk' pv' kp'=>?_⟩
 exact out v' g' tk' pv' fun b o bw bB e=>kp' b o bw bB (Od b o bB (kp b o bw e))
end
section
variable {prog:Program} {w:World} {A:Around} {E:Value→Shared→Prop} {s:Shared}
theorem min_walk {x:Value} {Q:Value→Shared→Prop} (h:wpAny (model prog w) A.in1 (pyIter x) (fun it s₂=>∃ I fp wr n P St bt J,it=.ref I∧Walks prog w A.in1 I fp wr n P St∧St 0 s₂.heap∧(∀ b∈fp,b < s₂.heap.objs.size)∧0 < n∧CmpIn prog w A.in1 J P bt ∧
   J s₂.heap∧(∀ h h':Heap,J h→(∀ b o,b ∉ wr→b≠s₂.heap.objs.size→h.get? b=some o→h'.get? b=some o)→J h') ∧
   ∀ v h' tk,P (argBest bt (n - 1)) v→(∀ b o,b ∉ wr→s₂.heap.get? b=some o→h'.get? b=some o)→Q v { s₂ with heap:=h',toks:=tk }) E s) :
  wpAny (model prog w) A (call (.builtin "min") [x]) Q E s:=by
 have nm:(toString "min" ++ toString ".loop":String)="min.loop":=by decide
 refine call_function_tree F.kind_min F.plain_min F.entry_min (F.args_min1 _) ?_
 show wpAny _ A.in1 (Builtin.Builtins.bindParams "min" ["key","default"] 0 ⟨[],[]⟩ >>= _) _ _ s
 have none2:Builtin.Builtins.bindParams "min" ["key","default"] 0 ⟨[],[]⟩=pure [none,none]:=rfl
 refine wpAny_bind (wpAny_of_eq none2 ?_); refine wpAny_bind (wpAny_pure ?_)
 refine wpAny_bind (wpAny_mono h (fun it s₂ q=>?_) fun _ _ z=>z)
 obtain ⟨I,fp,wr,n,P,St,bt,J,rfl,V,st,lo,hn,cmp,hJ,stay,out⟩:=q
 refine wpAny_bind (wpAny_newObj_type ?_)
 have nB:s₂.heap.objs.size ∉ fp:=fun z=>Nat.lt_irrefl _ (lo _ z)
 have hJ2:=stay _ _ hJ fun b o _ _ e=>Heap.get?_push_of_some { cls:=.type "list",data:=.seq #[] } e
 rw [nm]
 refine wpAny_pure ⟨plainId_quiet F.plain_min_loop _,Fy V bt cmp s₂.heap.objs.size nB stay hn (V.frame _ _ _ st fun b _ o e=>Heap.get?_push_of_some _ e) hJ2 (Heap.get?_push_size _ rfl) fun v g tk pv kp=>?_⟩
 exact out v g tk pv fun b o bw e=>kp b o bw (Nat.ne_of_lt (Heap.lt_size e)) (Heap.get?_push_of_some _ e)
theorem min_pair {a b:Value} {Q:Value→Shared→Prop} (h:wpAny (model prog w) A.in1 (pyIter (.ref s.heap.objs.size)) (fun it s₂=>∃ I fp wr n P St bt J,it=.ref I∧Walks prog w A.in1 I fp wr n P St∧St 0 s₂.heap∧(∀ b∈fp,b < s₂.heap.objs.size)∧0 < n∧CmpIn prog w A.in1 J P bt ∧
   J s₂.heap∧(∀ h h':Heap,J h→(∀ b o,b ∉ wr→b≠s₂.heap.objs.size→h.get? b=some o→h'.get? b=some o)→J h') ∧
   ∀ v h' tk,P (argBest bt (n - 1)) v→(∀ b o,b ∉ wr→s₂.heap.get? b=some o→h'.get? b=some o)→Q v { s₂ with heap:=h',toks:=tk }) E
   { s with heap:=s.heap.push { cls:=.type "tuple",data:=.seq #[a,b] } }):wpAny (model prog w) A (call (.builtin "min") [a,b]) Q E s:=by
 have nm:(toString "min" ++ toString ".loop":String)="min.loop":=by decide
 refine call_function_tree F.kind_min F.plain_min F.entry_min (F.args_min2 _ _) ?_
 show wpAny _ A.in1 (Builtin.Builtins.bindParams "min" ["key","default"] 0 ⟨[],[]⟩ >>= _) _ _ s
 have none2:Builtin.Builtins.bindParams "min" ["key","default"] 0 ⟨[],[]⟩=pure [none,none]:=rfl
 refine wpAny_bind (wpAny_of_eq none2 ?_); show wpAny _ A.in1 (newTuple [a,b] >>= _) _ _ s
 refine wpAny_bind (wpAny_newObj_type (wpAny_bind (wpAny_mono h (fun it s₂ q=>?_) fun _ _ z=>z)))
 obtain ⟨I,fp,wr,n,P,St,bt,J,rfl,V,st,lo,hn,cmp,hJ,stay,out⟩:=q
 refine wpAny_bind (wpAny_newObj_type ?_)
 have nB:s₂.heap.objs.size ∉ fp:=fun z=>Nat.lt_irrefl _ (lo _ z)
 have hJ2:=stay _ _ hJ fun b o _ _ e=>Heap.get?_push_of_some { cls:=.type "list",data:=.seq #[] } e
 rw [nm]
 refine wpAny_pure ⟨plainId_quiet F.plain_min_loop _,Fy V bt cmp s₂.heap.objs.size nB stay hn (V.frame _ _ _ st fun b _ o e=>Heap.get?_push_of_some _ e) hJ2 (Heap.get?_push_size _ rfl) fun v g tk pv kp=>?_⟩
 exact out v g tk pv fun b o bw e=>kp b o bw (Nat.ne_of_lt (Heap.lt_size e)) (Heap.get?_push_of_some _ e)
end
end HL
set_option maxHeartbeats 4000000
namespace L2
open PySem PySem.Spec PyProof.Rows
section
variable {X:Cx}
noncomputable def LsAt (as:List Addr) (nss:Nat→List Int) (h:Heap):Prop:=∀ i a,as[i]?=some a→∃ its:List Value,h.IsList a its.toArray∧IntsAre its (nss i)
theorem LsAt.cmp {P:Program} {w:World} {A:Around} {as:List Addr} {nss:Nat→List Int} (hu:A.units < cLine) :
  HL.CmpIn P w A (LsAt as nss) (fun i v=>∃ a,as[i]?=some a∧v=.ref a) fun i j=>HT.lexLt (nss i) (nss j):=by
 rintro i j vi vj s Q E hJ ⟨a,ea,rfl⟩ ⟨b,eb,rfl⟩ q
 obtain ⟨ia,la,na⟩:=hJ i a ea
 obtain ⟨ib,lb,nb⟩:=hJ j b eb
 exact HL.lt_lists la lb (by simpa using na) (by simpa using nb) hu q
theorem LsAt.stay {as:List Addr} {nss:Nat→List Int} {h h':Heap} {no:Addr→Prop} (hJ:LsAt as nss h) (hno:∀ (i:Nat) (a:Addr),as[i]?=some a→¬ no a) (k:∀ b o,¬ no b→h.get? b=some o→h'.get? b=some o):LsAt as nss h':=by
 intro i a e
 obtain ⟨its,⟨o,ho,hc⟩,n⟩:=hJ i a e
 exact ⟨its,⟨o,k a o (hno i a e) ho,hc⟩,n⟩
theorem LsAt.of {pins:List (Addr × Obj)} {σ:St} {H:Hp} {s:Shared} {as:List Addr} {nss:Nat→List Int} (I:Inv X pins σ H s) (h:∀ i a,as[i]?=some a→SqL X.K H a ((nss i).map V.int)):LsAt as nss s.heap:=by
 intro i a e
 obtain ⟨its,r,p,_⟩:=I.list (h i a e)
 exact ⟨its,p.isList,W7 r⟩
theorem LsAt.lt {as:List Addr} {nss:Nat→List Int} {h:Heap} (hJ:LsAt as nss h) {i:Nat} {a:Addr} (e:as[i]?=some a):a < h.objs.size:=by
 obtain ⟨_,⟨o,ho,_⟩,_⟩:=hJ i a e
 exact Heap.lt_size ho
noncomputable def Zl3 (nss:Nat→List Int) (n:Nat):Nat:=argBest (fun i j=>HT.lexLt (nss i) (nss j)) (n - 1)
theorem Zfp (hc:X.calm=true) (hu:X.A.units + 64 < cLine):Xt X (.builtin "min") (fun xs H Q=>∃ (p:Addr) (as:List Addr) (nss:Nat→List Int),xs=[.ref p]∧SqL X.K H p (as.map V.ref)∧(∀ i a,as[i]?=some a→SqL X.K H a ((nss i).map V.int))∧0 < as.length ∧
  ∀ a,as[Zl3 nss as.length]?=some a→Q (.ref a) H):=by
 intro pins s σ H xs us Q I r h
 obtain ⟨p,as,nss,rfl,hp,hl,hn,q⟩:=h
 obtain ⟨u,rfl,ru⟩:=Xw r
 cases ru
 obtain ⟨its,rv,pl,hz⟩:=I.list hp
 have hJ:LsAt as nss s.heap:=LsAt.of I hl
 have ne:p≠s.heap.objs.size:=by obtain ⟨o,ho,_⟩:=pl.isList; exact Nat.ne_of_lt (Heap.lt_size ho)
 have hlen:its.toArray.size=as.length:=by have:=rv.length; rw [List.length_map] at this; simp; omega
 have hat:∀ (i:Nat) (v:Value),its.toArray[i]?=some v→∃ a,as[i]?=some a∧v=.ref a:=fun i v e=>by
  have e':its[i]?=some v:=by simpa using e
  have hi:i < as.length:=by have:=(List.getElem?_eq_some_iff.mp e').1; rw [List.size_toArray] at hlen; omega
  obtain ⟨u,hu',ru⟩:=rv.get (i:=i) (show (as.map V.ref)[i]?=some (V.ref as[i]) by rw [List.getElem?_map,List.getElem?_eq_getElem hi]; rfl)
  rw [e'] at hu'
  cases hu'
  cases ru
  exact ⟨as[i],List.getElem?_eq_getElem hi,rfl⟩
 have W:=Walks.list (prog:=X.prog) (w:=X.w) (A:=X.A.in1) (show X.A.in1.handled=none from I.ok.hd hc) s.heap.objs.size p ne its.toArray
 refine HL.min_walk (wpAny_pyIter_list pl.isList ⟨s.heap.objs.size,_,_,_,fun i v=>∃ a,as[i]?=some a∧v=.ref a,_,fun i j=>HT.lexLt (nss i) (nss j),LsAt as nss,rfl,
  ⟨W.sub,W.frame,fun i s' Q' E' hi st hQ=>W.item i s' Q' E' hi st fun v h' tk e st' k=>hQ v h' tk (hat i v e) st' k,W.done,W.self⟩,⟨⟨_,Heap.get?_push_size _ rfl,rfl,rfl⟩,pl.isList.push _⟩,?_,by rw [hlen]; exact hn,LsAt.cmp (by show X.A.units + 1 < cLine; omega),?_,?_,?_⟩)
 ·intro b hb
  show b < (s.heap.push _).objs.size
  rw [Heap.size_push]
  rcases List.mem_cons.mp hb with rfl | hb
  ·exact Nat.lt_succ_self _
  ·have:=List.mem_singleton.mp hb
   subst this
   obtain ⟨o,ho,_⟩:=pl.isList
   exact Nat.lt_succ_of_lt (Heap.lt_size ho)
 ·exact hJ.stay (no:=fun _=>False) (fun _ _ _=>id) fun b o _ e=>Heap.get?_push_of_some _ e
 ·intro h h' j k
  refine j.stay (no:=fun b=>b∈[s.heap.objs.size]∨b=(s.heap.push { cls:=.type "list_iterator",data:=.fields #[.ref p,.int 0 0] }).objs.size) (fun i a e=>?_) (fun b o n e=>k b o (fun z=>n (.inl z)) (fun z=>n (.inr z)) e)
  have l:=hJ.lt e
  rw [Heap.size_push,List.mem_singleton]
  exact fun z=>z.elim (fun z=>Nat.ne_of_lt l z) fun z=>Nat.ne_of_lt (Nat.lt_succ_of_lt l) z
 ·rintro v h' tk ⟨a,ea,rfl⟩ hk
  have I1:Inv X pins σ H { s with heap:=h',toks:=tk }:=I.kept fun b o e=>hk b o (fun z=>absurd (Heap.lt_size e) (by rw [List.mem_singleton.mp z]; exact Nat.lt_irrefl _)) (Heap.get?_push_of_some _ e)
  rw [hlen] at ea
  exact ⟨.ref a,H,I1,rfl,q a ea⟩
theorem Gr (hc:X.calm=true) (hu:X.A.units + 64 < cLine):Xt X (.builtin "min") (fun xs H Q=>∃ (a b:Addr) (ns ms:List Int),xs=[.ref a,.ref b]∧SqL X.K H a (ns.map V.int)∧SqL X.K H b (ms.map V.int) ∧
  Q (.ref (if HT.lexLt ms ns=true then b else a)) H):=by
 intro pins s σ H xs us Q I r h
 obtain ⟨a,b,ns,ms,rfl,ha,hb,q⟩:=h
 obtain ⟨u,v,rfl,ru,rv⟩:=Zl6 r
 cases ru
 cases rv
 let as:List Addr:=[a,b]
 let nss:Nat→List Int:=fun i=>if i=0 then ns else ms
 have hJ:LsAt as nss s.heap:=LsAt.of I fun i c e=>by
  match i,e with
  | 0,e=>cases e; exact ha
  | 1,e=>cases e; exact hb
  | n + 2,e=>cases e
 have hT:(s.heap.push { cls:=.type "tuple",data:=.seq #[.ref a,.ref b] }).IsTuple s.heap.objs.size #[.ref a,.ref b]:=⟨_,Heap.get?_push_size _ rfl,rfl,0,rfl⟩
 have hsz:(s.heap.push { cls:=.type "tuple",data:=.seq #[.ref a,.ref b] }).objs.size=s.heap.objs.size + 1:=Heap.size_push ..
 have W:=Walks.tuple (prog:=X.prog) (w:=X.w) (A:=X.A.in1) (show X.A.in1.handled=none from I.ok.hd hc) (s.heap.push { cls:=.type "tuple",data:=.seq #[.ref a,.ref b] }).objs.size s.heap.objs.size (by rw [hsz]; exact Nat.ne_of_lt (Nat.lt_succ_self _)) #[.ref a,.ref b]
 have hat:∀ (i:Nat) (v:Value),(#[Value.ref a,Value.ref b]:Array Value)[i]?=some v→∃ c,as[i]?=some c∧v=.ref c:=fun i v e=>by
  match i,e with
  | 0,e=>cases e; exact ⟨a,rfl,rfl⟩
  | 1,e=>cases e; exact ⟨b,rfl,rfl⟩
  | n + 2,e=>simp at e
 refine HL.min_pair (wpAny_pyIter_tuple hT ⟨_,[_,s.heap.objs.size],[_],_,fun i v=>∃ c,as[i]?=some c∧v=.ref c,_,fun i j=>HT.lexLt (nss i) (nss j),LsAt as nss,rfl,
  ⟨W.sub,W.frame,fun i s' Q' E' hi st hQ=>W.item i s' Q' E' hi st fun v h' tk e st' k=>hQ v h' tk (hat i v e) st' k,W.done,W.self⟩,⟨⟨_,Heap.get?_push_size _ rfl,rfl,rfl⟩,hT.push _⟩,?_,Nat.succ_pos 1,LsAt.cmp (by show X.A.units + 1 < cLine; omega),?_,?_,?_⟩)
 ·intro c hc'
  show c < ((s.heap.push _).push _).objs.size
  rw [Heap.size_push,hsz]
  rcases List.mem_cons.mp hc' with rfl | hc'
  ·rw [hsz]; exact Nat.lt_succ_self _
  ·have:=List.mem_singleton.mp hc'
   subst this
   exact Nat.lt_succ_of_lt (Nat.lt_succ_self _)
 ·exact hJ.stay (no:=fun _=>False) (fun _ _ _=>id) fun c o _ e=>Heap.get?_push_of_some _ (Heap.get?_push_of_some _ e)
 ·intro h h' j k
  refine j.stay (no:=fun c=>c∈[(s.heap.push { cls:=.type "tuple",data:=.seq #[.ref a,.ref b] }).objs.size]∨c=((s.heap.push { cls:=.type "tuple",data:=.seq #[.ref a,.ref b] }).push { cls:=.type "tuple_iterator",data:=.fields #[.ref s.heap.objs.size,.int 0 0] }).objs.size) (fun i c e=>?_) (fun c o n e=>k c o (fun z=>n (.inl z)) (fun z=>n (.inr z)) e)
  have l:=hJ.lt e
  rw [List.mem_singleton,Heap.size_push,Heap.size_push,Heap.size_push]
  exact fun z=>z.elim (fun z=>Nat.ne_of_lt (Nat.lt_succ_of_lt l) z) fun z=>Nat.ne_of_lt (Nat.lt_succ_of_lt (Nat.lt_succ_of_lt l)) z
 ·rintro v h' tk ⟨c,ec,rfl⟩ hk
  have I1:Inv X pins σ H { s with heap:=h',toks:=tk }:=I.kept fun d o e=>hk d o (fun z=>by
   have l:=Heap.lt_size e
   rw [List.mem_singleton.mp z,hsz] at l
   exact absurd l (Nat.not_lt_of_le (Nat.le_succ _))) (Heap.get?_push_of_some _ (Heap.get?_push_of_some _ e))
  have e1:c=if HT.lexLt ms ns=true then b else a:=by
   have ec':as[argBest (fun i j=>HT.lexLt (nss i) (nss j)) 1]?=some c:=ec
   have eb:argBest (fun i j=>HT.lexLt (nss i) (nss j)) 1=if HT.lexLt ms ns=true then 1 else 0:=rfl
   rw [eb] at ec'
   by_cases z:HT.lexLt ms ns=true
   ·rw [if_pos z] at ec' ⊢; cases ec'; rfl
   ·rw [if_neg z] at ec' ⊢; cases ec'; rfl
  rw [e1]
  exact ⟨.ref _,H,I1,rfl,q⟩
end
end L2
namespace HT
theorem lex_irr:∀ a:List Int,lexLt a a=false
 | []=>rfl
 | x :: a=>by rw [J8,if_pos rfl]; exact lex_irr a
theorem U3:∀ a b:List Int,lexLt a b=false→lexLt b a=false→a=b
 | [],[],_,_=>rfl
 | [],_ :: _,h,_=>by rw [Jl] at h; cases h
 | _ :: _,[],_,h=>by rw [Jl] at h; cases h
 | x :: a,y :: b,h1,h2=>by
  rw [J8] at h1 h2
  by_cases e:x=y
  ·subst e
   rw [if_pos rfl] at h1 h2
   rw [U3 a b h1 h2]
  ·rw [if_neg e] at h1
   rw [if_neg (fun z=>e z.symm)] at h2
   have:=of_decide_eq_false h1
   have:=of_decide_eq_false h2
   omega
theorem lex_trans:∀ a b c:List Int,lexLt a b=true→lexLt b c=true→lexLt a c=true
 | [],[],_,h,_=>by rw [Uf] at h; cases h
 | [],_ :: _,[],_,h=>by rw [Wo] at h; cases h
 | [],_ :: _,_ :: _,_,_=>rfl
 | _ :: _,[],_,h,_=>by rw [Wo] at h; cases h
 | _ :: _,_ :: _,[],_,h=>by rw [Wo] at h; cases h
 | x :: a,y :: b,z :: c,h1,h2=>by
  rw [J8] at h1 h2 ⊢
  by_cases e1:x=y
  ·subst e1
   rw [if_pos rfl] at h1
   by_cases e2:x=z
   ·subst e2
    rw [if_pos rfl] at h2 ⊢
    exact lex_trans a b c h1 h2
   ·rw [if_neg e2] at h2 ⊢; exact h2
  ·rw [if_neg e1] at h1
   have g1:=of_decide_eq_true h1
   by_cases e2:y=z
   ·subst e2
    rw [if_neg e1]; exact h1
   ·rw [if_neg e2] at h2
    have g2:=of_decide_eq_true h2
    rw [if_neg (by omega)]
    exact decide_eq_true (by omega)
theorem lex_le {a b c:List Int} (h1:lexLt b a=false) (h2:lexLt c b=false):lexLt c a=false:=by
 cases e:lexLt c a with
 | false=>rfl
 | true =>
  cases f:lexLt b c with
  | true=>rw [lex_trans b c a f e] at h1; cases h1
  | false =>
   have:=U3 b c f h2
   subst this
   rw [e] at h1
   cases h1
theorem best_le (nss:Nat→List Int):∀ n i,i≤n→lexLt (nss i) (nss (PySem.argBest (fun i j=>lexLt (nss i) (nss j)) n))=false
 | 0,i,h=>by
  have:i=0:=by omega
  subst this
  exact lex_irr _
 | n + 1,i,h=>by
  have ih:=best_le nss n
  unfold PySem.argBest
  cases e:lexLt (nss (n + 1)) (nss (PySem.argBest (fun i j=>lexLt (nss i) (nss j)) n)) with
  | true =>
   rw [if_pos rfl]
   by_cases c:i=n + 1
   ·subst c; exact lex_irr _
   ·cases f:lexLt (nss i) (nss (n + 1)) with
    | false=>rfl
    | true =>
     have:=lex_trans _ _ _ f e
     rw [ih i (by omega)] at this
     cases this
  | false =>
   rw [if_neg (by decide)]
   by_cases c:i=n + 1
   ·subst c; exact e
   ·exact ih i (by omega)
noncomputable def IsLeast (S:List Int→Prop) (a:List Int):Prop:=S a∧∀ b,S b→lexLt b a=false
theorem IsLeast.eq {S T:List Int→Prop} {a b:List Int} (h1:IsLeast S a) (h2:IsLeast T b) (hST:∀ x,S x ↔ T x):a=b :=
 U3 a b (h2.2 a ((hST a).mp h1.1)) (h1.2 b ((hST b).mpr h2.1))
end HT
set_option maxHeartbeats 4000000
namespace L2
open PySem PySem.Spec PyProof.Rows
end L2
set_option maxHeartbeats 4000000
namespace L2
open PySem PySem.Spec PyProof.Rows
section
variable {X:Cx} {pins:List (Addr × Obj)} {σ:St} {H:Hp} {s:Shared} {a:Addr} {y v:V} {u r:Value} {A:Around} {E:Value→Shared→Prop}
theorem Zm0 {kvs:List (Key × V)} {k:Key} {Q:Unit→Shared→Prop} (I:Inv X pins σ H s) (e:H a=some (.dK kvs)) (l:kvs.length < sizeLine) (ry:RelV (kV k) u) (rv:RelV v r) (h:∀ s',Inv X pins σ (upd H a (.dK (putK kvs k v))) s'→Q () s') :
  wpAny (model X.prog X.w) A (dictSet a u r) Q E s:=by
 obtain ⟨z,hd,vs,rel,dd⟩:=Zfl I.hok e
 have hz:vs.length≤sizeLine:=by rw [← rel.length]; exact z
 have hl:(putK kvs k v).length≤sizeLine:=by have:=Jt kvs k v; omega
 refine wpAny_dictSet_pairs (hsz:=hz) (V0 ry) dd fun h' dd' hs=>h _ ?_
 have he:∃ q,h'.get? a=some q:=let ⟨q,_,_,hq,_⟩:=dd'; ⟨q,hq⟩
 exact Oj I (by rw [e]; exact True.intro) hs he (Zcx hl hd (rel.put k rv) dd')
end
noncomputable def Zk9 (tk tv:TE) (D:Addr):TB:=fun σ H N=>tk σ H fun x H1=>tv σ H1 fun v H2=>∃ kvs k,x=kV k∧H2 D=some (.dK kvs)∧kvs.length < sizeLine∧N σ (upd H2 D (.dK (putK kvs k v)))
section
variable {X:Cx}
theorem Ki {kx vx:Expr} {tk tv:TE} {D:Addr} {c:Code} {p:Pos} (hk:PE X kx tk) (hv:PE X vx tv) :
  PB X ((eval kx X.env >>= fun kv=>holding [kv] (eval vx X.env) >>= fun vv=>standAt p >>= fun _=>holding [kv,vv] (dictSet D kv vv)) >>= fun _=>again c) c (Zk9 tk tv D):=by
 intro pins s σ H N I h
 refine wpAny_bind (wpAny_bind (thn (hk pins s σ H _ I h) fun u s1 zz35=>?_))
 obtain ⟨x,H1,I1,r1,q1⟩:=zz35
 refine wpAny_bind (wpAny_holding (thn (hv pins s1 σ H1 _ I1 q1) fun w s2 zz36=>?_))
 obtain ⟨v,H2,I2,r2,q2⟩:=zz36
 refine wpAny_bind (wpAny_standAt (wpAny_holding ?_))
 obtain ⟨kvs,k,rfl,hD,hl,q⟩:=q2
 exact Zm0 I2 hD hl r1 r2 fun s3 I3=>wpAny_pure ⟨rfl,σ,_,I3,q⟩
end
noncomputable def Zf2 (ts:List Str) (fv:List (Str × Nat)) (wi:TI) (g:TG) (tt:TT) (tb:Addr→TB):TE:=fun σ H Q=>wi σ H fun J H1=>∀ D,H1 D=none →
 Wg J g tt (tb D) (fun _ H'=>Q (.ref D) H') (blkS ts fv σ) (upd H1 D (.dK []))
section
variable {X:Cx} {ts:List Str} {fv:List (Str × Nat)} {scope:Scope} {kx vx t0 i0:Expr} {f0:List Expr} {rest:List Comprehension} {pos:Pos} {wi:TI} {g:TG} {tt:TT} {tb:Addr→TB} {kont:Env→Addr→Addr→Sem Fin}
theorem Zfm (B:BlkOk X scope fv) (hc:X.calm=true) (hi:PI X t0 i0 wi)
  (hg:∀ C s₀ H₀ ex,PG (Yd X (blkN ts fv) scope C s₀ H₀ ex) t0 g) (ht:∀ C s₀ H₀ ex,PTs (Yd X (blkN ts fv) scope C s₀ H₀ ex) f0 tt)
  (heq:∀ (env:Env) (it D:Addr),compTurn (.DictComp kx vx (⟨t0,i0,f0,0⟩ :: rest) scope pos) 0 (.ref it) (.ref D) env=(standAt i0.pos >>= fun _=>pyNext (.ref it) >>= fun r=>match r with
   | none=>pure (.done .next)
   | some v=>letOwnedTupleGo t0 (.ref it) v >>= fun _=>assign t0 env v >>= fun _ =>
    (forIn f0 true fun c r=>if r=true then do let ok ← isTrue c env (eval c env); pure (ForInStep.yield ok) else pure (ForInStep.yield r)) >>= fun ok =>
     if ok=true then kont env it D else again (.compLoop (.DictComp kx vx (⟨t0,i0,f0,0⟩ :: rest) scope pos) 0 (.ref it) (.ref D) env)))
  (hb:∀ C s₀ H₀ ex it D,PB (Yd X (blkN ts fv) scope C s₀ H₀ ex) (kont (Yd X (blkN ts fv) scope C s₀ H₀ ex).env it D) (.compLoop (.DictComp kx vx (⟨t0,i0,f0,0⟩ :: rest) scope pos) 0 (.ref it) (.ref D) (Yd X (blkN ts fv) scope C s₀ H₀ ex).env) (tb D))
  {pins:List (Addr × Obj)} {s:Shared} {σ:St} {H:Hp} {Q:VK} {RR:Value→Addr→Result→Shared→Prop} (I:Inv X pins σ H s) (h:Zf2 ts fv wi g tt tb σ H Q)
  (hRR:∀ D C s' H',Inv X pins σ H' s'→H' C=none→X.s₀.heap.objs.size≤C→C≠X.env.locals→(∀ x c,X.env.cells.lookup x=some c→c≠C)→(∀ p∈X.pn ++ pins,p.1≠C)→(∃ m,s'.heap.Ns C m)→Q (.ref D) H'→RR (.ref D) C (.ok .next) s') :
  wpAny (model X.prog X.w) X.A (eval i0 X.env) (fun x s₁=>wpAny (model X.prog X.w) X.A (pyIter x) (fun it s₂=>wpAny (model X.prog X.w) X.A newDict (fun acc s₃ =>
   wpAny (model X.prog X.w) X.A (newFunctionEnv scope X.env.globals (Yo X.env scope.names []) [] X.env.qual none .none (some X.env)) (fun cenv s₄ =>
    codeAny (model X.prog X.w) X.A (.compStart (.DictComp kx vx (⟨t0,i0,f0,0⟩ :: rest) scope pos) 0 it acc { cenv with scope:=relabel scope X.env }) (RR acc cenv.locals) s₄) X.xe s₃) X.xe s₂) X.xe s₁) X.xe s:=by
 refine thn (hi pins s σ H _ I h) fun v s1 h1=>thn h1 fun itv s2 h2=>?_
 obtain ⟨it,fp,tn,J,H2,e,I2,T,st2,f2,L⟩:=h2
 subst e
 have L:=L s2.heap.objs.size I2.fresh
 refine wpAny_newObj_type ?_
 have I3:Inv X pins σ (upd H2 s2.heap.objs.size (.dK [])) { s2 with heap:=s2.heap.push { cls:=.type "dict",data:=.dict #[] },toks:=s2.toks }:=I2.laid (a:=s2.heap.objs.size) (o:=.dK []) (t':=s2.toks) (fun _ _ q=>Heap.get?_push_of_some _ q) (Nat.le_refl _) (Kp s2.heap I2.big)
 have ho2:∀ b∈fp,∃ o,s2.heap.get? b=some o∧∀ v,o.data≠.cell v:=T.obj _ _ st2
 have f3:∀ b∈fp,FpOk X pins (upd H2 s2.heap.objs.size (.dK [])) b:=fun b hb=>by
  obtain ⟨o,ho,_⟩:=ho2 b hb
  refine ⟨?_,(f2 b hb).2⟩
  rw [Ze (Nat.ne_of_lt (Heap.lt_size ho))]
  exact (f2 b hb).1
 have st3:tn 0 (s2.heap.push { cls:=.type "dict",data:=.dict #[] }):=T.keep _ _ _ st2 fun b _ o e=>Heap.get?_push_of_some _ e
 have ho3:∀ b∈fp,∃ o,(s2.heap.push { cls:=.type "dict",data:=.dict #[] }).get? b=some o:=fun b hb=>let ⟨o,e,_⟩:=ho2 b hb; ⟨o,Heap.get?_push_of_some _ e⟩
 generalize hs3:({ s2 with heap:=s2.heap.push { cls:=.type "dict",data:=.dict #[] },toks:=s2.toks }:Shared)=s3 at I3
 have eh:s2.heap.push { cls:=.type "dict",data:=.dict #[] }=s3.heap:=by rw [← hs3]
 rw [eh] at st3 ho3
 refine wpAny_newFunctionEnv B.nocell (by intro y hy; simp at hy) (fun h₁ hns hsb=>?_) B.kind
 have hk:∀ b o,s3.heap.get? b=some o→h₁.get? b=some o:=fun b o e=>hsb.extBut b o (Nat.ne_of_lt (Heap.lt_size e)) (Heap.get?_push_of_some _ e)
 have I4:=F6 (ts:=ts) (tk:=s3.toks + ([]:List (Str × Value)).length) B I3 f3 ho3 hns hk
 have f4:∀ b∈fp,FpOk (Yd X (blkN ts fv) scope s3.heap.objs.size s3 (upd H2 s2.heap.objs.size (.dK [])) fp) [] (upd H2 s2.heap.objs.size (.dK [])) b:=fun b hb=>by
  obtain ⟨f0,f1,f2',f3',f4',f5'⟩:=f3 b hb
  obtain ⟨o,eo⟩:=ho3 b hb
  exact ⟨f0,Nat.ne_of_lt (Heap.lt_size eo),I4.ok.exfs b hb,.inl hb,(I4.ok.exf b hb).2,fun p hp=>absurd (show p∈([]:List (Addr × Obj)) from hp) (by simp)⟩
 have st4:tn 0 h₁:=T.keep _ _ _ st3 fun b _ o e=>hk b o e
 have loop:codeAny (model X.prog X.w) X.A (.compLoop (.DictComp kx vx (⟨t0,i0,f0,0⟩ :: rest) scope pos) 0 (.ref it) (.ref s2.heap.objs.size) (Yd X (blkN ts fv) scope s3.heap.objs.size s3 (upd H2 s2.heap.objs.size (.dK [])) fp).env)
   (RR (.ref s2.heap.objs.size) s3.heap.objs.size) { s3 with heap:=h₁,toks:=s3.toks + ([]:List (Str × Value)).length }:=by
  refine U6 (X:=Yd X (blkN ts fv) scope s3.heap.objs.size s3 (upd H2 s2.heap.objs.size (.dK [])) fp) (tg:=t0) (ifs:=f0) (R:=fun _ H'=>Q (.ref s2.heap.objs.size) H') rfl rfl rfl rfl (heq _ it s2.heap.objs.size) T hc (hg _ _ _ _) (ht _ _ _ _) (hb _ _ _ _ it s2.heap.objs.size) f4 I4 st4 L fun s' σ' H' J' q=>?_
  obtain ⟨e1,e2,e3,e4,e5,e6⟩:=Zej I3 f3 (Nat.le_refl _) J'
  obtain ⟨m,hm,_⟩:=J'.loc
  exact hRR _ _ s' H' e1 e2 e3 e4 e5 e6 ⟨m,hm⟩ q
 exact codeAny_compStart_dict loop (T.self _ _ _ _ _ st4 loop)
theorem Uy (B:BlkOk X scope fv) (hc:X.calm=true) (hi:PI X t0 i0 wi)
  (hg:∀ C s₀ H₀ ex,PG (Yd X (blkN ts fv) scope C s₀ H₀ ex) t0 g) (ht:∀ C s₀ H₀ ex,PTs (Yd X (blkN ts fv) scope C s₀ H₀ ex) f0 tt)
  (heq:∀ (env:Env) (it D:Addr),compTurn (.DictComp kx vx (⟨t0,i0,f0,0⟩ :: rest) scope pos) 0 (.ref it) (.ref D) env=(standAt i0.pos >>= fun _=>pyNext (.ref it) >>= fun r=>match r with
   | none=>pure (.done .next)
   | some v=>letOwnedTupleGo t0 (.ref it) v >>= fun _=>assign t0 env v >>= fun _ =>
    (forIn f0 true fun c r=>if r=true then do let ok ← isTrue c env (eval c env); pure (ForInStep.yield ok) else pure (ForInStep.yield r)) >>= fun ok =>
     if ok=true then kont env it D else again (.compLoop (.DictComp kx vx (⟨t0,i0,f0,0⟩ :: rest) scope pos) 0 (.ref it) (.ref D) env)))
  (hb:∀ C s₀ H₀ ex it D,PB (Yd X (blkN ts fv) scope C s₀ H₀ ex) (kont (Yd X (blkN ts fv) scope C s₀ H₀ ex).env it D) (.compLoop (.DictComp kx vx (⟨t0,i0,f0,0⟩ :: rest) scope pos) 0 (.ref it) (.ref D) (Yd X (blkN ts fv) scope C s₀ H₀ ex).env) (tb D))
  (hs:∀ x,foldedSetIterable i0 X.env x=pure x:=by intro _; rfl) :
  PE X (.DictComp kx vx (⟨t0,i0,f0,0⟩ :: rest) scope pos) (Zf2 ts fv wi g tt tb):=by
 intro pins s σ H Q I h
 show wpAny _ X.A (comprehension (.DictComp kx vx (⟨t0,i0,f0,0⟩ :: rest) scope pos) scope X.env _ newDict false (eval i0 X.env)) _ _ s
 refine wpAny_comprehension_free (use:=none) rfl hs (Q8 fun y hy e=>I.ok.has y.1 (B.free y hy e)) B.kind B.names ?_
 refine Zfm (RR:=fun acc C=>compPost (model X.prog X.w) X.A X.xe none (EP X pins σ Q) acc C) B hc hi hg ht heq hb I h fun D C s' H' I' e2 e3 e4 e5 e6 hm q=>?_
 obtain ⟨m,hm⟩:=hm
 exact ⟨m,hm,fun h' hs'=>⟨.ref D,H',I'.apart hs' e2 e3 e4 e5 e6,rfl,q⟩⟩
end
end L2
set_option maxHeartbeats 4000000
namespace L2
open PySem PySem.Spec PyProof.Rows
section
variable {X:Cx} {pins:List (Addr × Obj)} {σ:St} {H:Hp} {s:Shared} {a:Addr}
theorem Inv.thaw {kvs:List (Key × V)} {ob:Obj} (I:Inv X pins σ H s) (e:H a=some (.frz ob (.dK kvs))) (h0:∀ o u,X.H₀ a≠some (.frz o u)):Inv X pins σ (upd H a (.dK kvs)) s:=by
 have nown:∀ c y,H c=some (.own y)→c≠a:=fun c y r z=>by subst z; rw [r] at e; cases e
 have ntup:∀ c xs,H c=some (.tup xs)→c≠a:=fun c xs r z=>by subst z; rw [r] at e; cases e
 have nnon:∀ c,H c=none→c≠a:=fun c r z=>by subst z; rw [r] at e; cases e
 have hok:HOk X.prog X.w (upd H a (.dK kvs)) s.heap:=fun b v q=>by
  have st:∀ c w',Ye X.prog X.w H s.heap c w'→Ye X.prog X.w (upd H a (.dK kvs)) s.heap c w':=fun c w' x=>x.stay (fun _ _ _ q=>q) (fun d r=>by rw [Ze (nown d c r)]; exact r) fun d xs r=>by rw [Ze (ntup d xs r)]; exact r
  by_cases hb:b=a
  ·subst hb
   rw [Zc] at q
   cases q
   exact st _ _ (I.hok _ _ e).2
  ·rw [Ze hb] at q
   exact st _ _ (I.hok b v q)
 refine ⟨I.ok,I.os,I.bare,⟨I.base.keep,I.base.slot,fun b o q n hx=>?_,I.base.there,fun b xs q=>?_,fun b o u q=>?_,fun b ps q=>?_⟩,I.loc,I.cell,?_,fun x c q=>?_,fun p hp=>?_,hok,I.len⟩
 ·have:=I.base.free b o q n hx
  rw [Ze (nnon b this)]; exact this
 ·have:=I.base.tups b xs q
  rw [Ze (ntup b xs this)]; exact this
 ·have:=I.base.frzs b o u q
  rw [Ze (fun z=>by subst z; exact h0 _ _ q)]; exact this
 ·obtain ⟨more,z⟩:=I.base.tbls b ps q
  exact ⟨more,by rw [Ze (fun w=>by subst w; rw [z] at e; cases e)]; exact z⟩
 ·have:=I.free
  rw [Ze (nnon _ this)]; exact this
 ·have:=I.freeC x c q
  rw [Ze (nnon _ this)]; exact this
 ·obtain ⟨q1,q2,q3⟩:=I.pin p hp
  exact ⟨q1,by rw [Ze (nnon _ q2)]; exact q2,q3⟩
end
end L2
set_option maxHeartbeats 4000000
namespace L2
open PySem PySem.Spec PyProof.Rows
section
variable {X:Cx}
theorem Kr {ys:List Str}:∀ {us:List Value},Vals (ys.map V.str) us→StrsAre us ys:=by
 induction ys with
 | nil=>intro us r; rw [List.map_nil] at r; cases r; exact .nil
 | cons y ys ih =>
  intro us r
  rw [List.map_cons] at r
  cases r with
  | cons r1 r2 =>
   obtain ⟨t,e⟩:=r1
   subst e
   exact .cons y t (ih r2)
noncomputable def Zml (K:PySem.W.Frag):V→List V→Hp→VK→Prop:=fun o xs H Q=>∃ sep p ys,o=.str sep∧xs=[.ref p]∧SqL K H p (List.map V.str ys)∧sep.length≤16∧(ys.map (·.length)).sum + ys.length≤1048576∧Q (.str (Txt.join sep ys)) H
theorem Zd9:MtR X "str.join" (Zml X.K):=by
 intro pins s σ H x xs v us Q I rx rs h
 obtain ⟨sep,p,ys,rfl,rfl,hq,h1,h2,q⟩:=h
 obtain ⟨t,rfl⟩:=rx
 obtain ⟨u,rfl,ru⟩:=Xw rs
 cases ru
 obtain ⟨its,rv,pl,_⟩:=I.list hq
 exact join_listW pl.isList (by simpa using Kr rv) h1 h2 fun t' k=>⟨.str _,H,I.tok _,⟨_,rfl⟩,q⟩
end
end L2
namespace L2
open PySem PySem.Spec PyProof.Rows
theorem F2:∀ (l:List Str) (a:Array Nat),(l.foldl (fun acc p=>acc ++ (Str.ofString "").cps ++ p.cps) a).toList=a.toList ++ (l.map fun y=>y.cps.toList).flatten
 | [],a=>by simp
 | y :: r,a=>by
  rw [List.foldl_cons,F2 r]
  have:(Str.ofString "").cps=#[]:=by decide +kernel
  rw [this]
  simp
theorem Ziu (ys:List Str):(Txt.join (Str.ofString "") ys).cps.toList=(ys.map fun y=>y.cps.toList).flatten:=by
 unfold Txt.join Builtin.Str.glued
 cases ys with
 | nil=>rfl
 | cons y r =>
  show ((r.foldl (fun acc p=>acc ++ (Str.ofString "").cps ++ p.cps) y.cps)).toList=_
  rw [F2]
  simp
end L2
set_option maxHeartbeats 4000000
namespace KT
open PySem L2
noncomputable def aftN (i:Nat):Nat:=if i % 3=2 then i - 2 else i + 1
theorem Zel (i:Nat):after (i:Int)=(aftN i:Int):=by unfold after aftN; split <;> split <;> omega
noncomputable def nxC (M:List (Option Nat)) (c:Nat):Option Nat:=(M[aftN c]?).join
noncomputable def letS (M:List (Option Nat)) (a p:Nat):Str:=if p=aftN ((M.getD a none).getD 0) then Str.ofString "R" else Str.ofString "L"
noncomputable def letL (M:List (Option Nat)) (ws:List Nat):List Str:=(ws.zip (rot ws (1 % ws.length))).map fun q=>letS M q.1 q.2
end KT
set_option maxHeartbeats 4000000
namespace KT
open PySem L2
noncomputable abbrev sR:Str:=Str.ofString "R"
noncomputable abbrev sL:Str:=Str.ofString "L"
theorem Zmh:sR=⟨#[82]⟩:=by decide +kernel
theorem Zmi:sL=⟨#[76]⟩:=by decide +kernel
noncomputable def isLR (y:Str):Prop:=y=sR∨y=sL
theorem Zki {y:Str} (h:isLR y):∃ c,y=⟨#[c]⟩∧c < 128:=by
 rcases h with rfl | rfl
 ·exact ⟨82,Zmh,by decide⟩
 ·exact ⟨76,Zmi,by decide⟩
theorem Zjd:∀ (ys:List Str),(∀ y∈ys,isLR y)→∃ cs:List Nat,(ys.map fun y=>y.cps.toList).flatten=cs∧cs.length=ys.length∧(∀ c∈cs,c < 128)∧∀ (i c:Nat),cs[i]?=some c→ys[i]?=some ⟨#[c]⟩
 | [],_=>⟨[],rfl,rfl,(fun c hc=>absurd hc List.not_mem_nil),fun i c h=>(by simp at h)⟩
 | y :: r,h=>by
  obtain ⟨c,rfl,hc⟩:=Zki (h y List.mem_cons_self)
  obtain ⟨cs,e,hl,h1,h2⟩:=Zjd r fun z hz=>h z (List.mem_cons_of_mem _ hz)
  refine ⟨c :: cs,by rw [List.map_cons,List.flatten_cons,e]; rfl,by simp [hl],fun z hz=>?_,fun i z hz=>?_⟩
  ·rcases List.mem_cons.mp hz with rfl | hz
   ·exact hc
   ·exact h1 z hz
  ·cases i with
   | zero=>cases hz; rfl
   | succ i=>exact h2 i z hz
theorem Zg6 {ys:List Str} (h:∀ y∈ys,isLR y):(Txt.join (Str.ofString "") ys).cps.all (· < 128)=true∧(Txt.join (Str.ofString "") ys).cps.size=ys.length∧∀ (i c:Nat),(Txt.join (Str.ofString "") ys).cps[i]?=some c→ys[i]?=some ⟨#[c]⟩:=by
 obtain ⟨cs,e,hl,h1,h2⟩:=Zjd ys h
 have e':(Txt.join (Str.ofString "") ys).cps.toList=cs:=by rw [Ziu,e]
 generalize (Txt.join (Str.ofString "") ys).cps=arr at e'
 subst e'
 refine ⟨?_,by rw [← hl]; simp,fun i c hc=>h2 i c (by simpa using hc)⟩
 rw [← Array.all_toList,List.all_eq_true]
 exact fun c hc=>decide_eq_true (h1 c hc)
section
variable {M:List (Option Nat)} {a:Nat} {ys:List Str}
theorem Zip {ws:List Nat} {k a p:Nat} (ha:ws[k]?=some a) (hp:ws[(k + 1) % ws.length]?=some p):(letL M ws)[k]?=some (letS M a p):=by
 have hk:=(List.getElem?_eq_some_iff.mp ha).1
 unfold letL
 rw [List.getElem?_map]
 have:(ws.zip (rot ws (1 % ws.length)))[k]?=some (a,p):=by
  rw [List.getElem?_zip_eq_some]
  refine ⟨ha,?_⟩
  rw [U8 (Nat.mod_lt _ (by omega)) hk,Nat.add_mod_mod]
  exact hp
 rw [this]
 rfl
theorem Zkl (M:List (Option Nat)) (ws:List Nat):∀ y∈letL M ws,isLR y:=fun y hy=>by
 obtain ⟨q,_,rfl⟩:=List.mem_map.mp hy
 unfold letS
 split
 ·exact .inl rfl
 ·exact .inr rfl
theorem Zcp (M:List (Option Nat)) (ws:List Nat) (h:0 < ws.length):(letL M ws).length=ws.length:=by
 unfold letL
 rw [List.length_map,List.length_zip,Jd _ (Nat.le_of_lt (Nat.mod_lt _ h)),Nat.min_self]
end
end KT
set_option maxHeartbeats 4000000
namespace L2
open PySem PySem.Spec PyProof.Rows
section
noncomputable def Its (x:Str):It :=
 ⟨fun i _=>i < x.cps.size,fun i H v H'=>H'=H∧∃ c,x.cps[i]?=some c∧v=.str ⟨#[c]⟩,fun i _=>x.cps.size≤i⟩
theorem Zhn {P:Program} {w:World} {K:PySem.W.Frag} {tg:Expr} (x:Str) (t:Tok) (it:Addr):Turn P w K tg (Its x) [it] it (fun i h=>h.IsStrIter it "str_ascii_iterator" x t i) where
 mem:=by simp
 obj:=fun i h st b hb=>by
  have e:b=it:=by simpa using hb
  subst e
  obtain ⟨o,e,c,d⟩:=st
  exact ⟨o,e,fun v z=>by rw [d] at z; cases z⟩
 keep:=fun i h h' st k=>by
  obtain ⟨o,ho,r⟩:=st
  exact ⟨o,k it (by simp) o ho,r⟩
 item:=by
  intro X hP hw hK hc i pins s σ H E I hf st hg
  subst hP hw hK
  have hg:i < x.cps.size:=hg
  obtain ⟨f0,f1,f2,f3,f4,f5⟩:=hf it (by simp)
  have hx:x.cps[i]?=some x.cps[i]:=by simp [hg]
  refine wpAny_pyNext_ascii_item st hx fun h' st' sb=>?_
  have I1:Inv X pins σ H { s with heap:=h',toks:=s.toks + 1 }:=I.turned (t':=s.toks + 1) (fun b o hb e=>(sb.2 b hb).trans e) f0 f1 f3 f4 f5
  obtain ⟨o,e,c,d⟩:=id st'
  exact ⟨_,rfl,V1 (s:={ s with heap:=h',toks:=s.toks + 1 }) e c d (by decide) ⟨.str ⟨#[x.cps[i]]⟩,H,I1,⟨_,rfl⟩,⟨rfl,_,hx,rfl⟩,st',fun b hb=>(hf b hb).1⟩⟩
 done:=by
  intro X hP hw hK hc i pins s σ H E I hf st hg
  subst hP hw hK
  have hg:x.cps.size≤i:=hg
  obtain ⟨f0,f1,f2,f3,f4,f5⟩:=hf it (by simp)
  exact wpAny_pyNext_ascii_end (I.ok.hd hc) st (by simp [hg]) fun h' eb=>⟨rfl,I.turned (t':=s.toks) (fun b o hb e=>eb b o hb e) f0 f1 f3 f4 f5⟩
 self:=fun _ _ _ _ _ st h=>wpAny_pyIter_striter_ascii st h
variable {X:Cx} {tg:Expr}
noncomputable def iStr (tl:TE):TI:=fun σ H R=>tl σ H fun v H1=>∃ x,v=.str x∧x.cps.all (· < 128)=true∧R (Its x) H1
theorem Zlj {l:Expr} {tl:TE} (hl:PE X l tl):PI X tg l (iStr tl):=by
 intro pins s σ H R I h
 refine thn (hl pins s σ H _ I h) fun v s1 zz9=>?_
 obtain ⟨x,H1,I1,r1,q1⟩:=zz9
 obtain ⟨x,e,ha,q⟩:=q1
 subst e
 obtain ⟨t,rfl⟩:=r1
 refine wpAny_pyIter_ascii ha ?_
 refine ⟨s1.heap.objs.size,[s1.heap.objs.size],_,_,H1,rfl,I1.kept (t':=s1.toks) fun b o e=>Heap.get?_push_of_some _ e,Zhn x t _,⟨_,Heap.get?_push_size _ rfl,rfl,rfl⟩,fun b hb=>?_,q⟩
 have e:b=s1.heap.objs.size:=by simpa using hb
 subst e
 exact I1.fpOk (Nat.le_refl _) (I1.hok.fresh (Nat.le_refl _))
end
end L2
set_option maxHeartbeats 4000000
namespace L2
open PySem PySem.Spec PyProof.Rows
section
variable {P:Program} {w:World} {K:PySem.W.Frag} {mg:Str→Option Value} {base:Heap} {x qual:Str} {st:Stmt} {f:Addr} {fd:FuncData} {N ps:List Str} {k:Nat} {sp:Sp}
theorem Fun.aR (F:Fun K x qual st f fd) (S:FnScope N ps (Zg st))
  (hbody:∀ (cdv:Value) (A:Around) (outer:List Env) (s:Shared) (H:Hp) (vs:List V) (Q:VK) (E:XK),Room k (A.deeper (envOfC qual (Zg st) s.heap.objs.size f cdv))→sp vs H Q E →
   ∃ t,PSs (cxOf (CXr P w) P w K mg base N qual (Zg st) f cdv A outer s H E).nox (Ym st) t∧t { nx:=fun _ H'=>Q .non H',rt:=Q } (start N vs) H)
  (len:∀ vs H Q E,sp vs H Q E→vs.length=ps.length:=by (intro vs H Q E h; (repeat obtain ⟨_,h⟩:=h); subst_vars; rfl)):FnOk P w K mg base (CXr P w) (k + 1) f fd ps sp:=F.okR S len hbody
theorem Fun.aX (F:Fun K x qual st f fd) (S:FnScope N ps (Zg st))
  (hbody:∀ (cdv:Value) (A:Around) (outer:List Env) (s:Shared) (H:Hp) (vs:List V) (Q:VK) (E:XK),Room k (A.deeper (envOfC qual (Zg st) s.heap.objs.size f cdv))→sp vs H Q E →
   ∃ t,PSsX true (cxOf (CXr P w) P w K mg base N qual (Zg st) f cdv A outer s H E).nox (Ym st) t∧t { nx:=fun _ H'=>Q .non H',rt:=Q } (fun cls _ H'=>E cls none H') (start N vs) H)
  (len:∀ vs H Q E,sp vs H Q E→vs.length=ps.length:=by (intro vs H Q E h; (repeat obtain ⟨_,h⟩:=h); subst_vars; rfl)):FnOk P w K mg base (CXr P w) (k + 1) f fd ps sp:=F.okX S len hbody
end
end L2
set_option maxHeartbeats 4000000
namespace L2
open PySem PySem.Spec PyProof.Rows
end L2
set_option maxHeartbeats 4000000
namespace L2
open PySem PySem.Spec PyProof.Rows PySem.SeqAt
end L2
set_option maxHeartbeats 4000000
namespace KT
open PySem L2
end KT
set_option maxHeartbeats 4000000
namespace KT
open PySem L2
end KT
set_option maxHeartbeats 4000000
namespace KT
open PySem L2
noncomputable def CH (R:Nat→Nat→Prop) (l:List Nat):Prop:=∀ (k u v:Nat),l[k]?=some u→l[k + 1]?=some v→R u v
end KT
set_option maxHeartbeats 4000000
namespace KT
open PySem L2
end KT
set_option maxHeartbeats 4000000
namespace KT
open PySem L2
end KT
set_option maxHeartbeats 4000000
namespace KT
open PySem L2
end KT
set_option maxHeartbeats 4000000
namespace KT
open PySem L2
end KT
set_option maxHeartbeats 4000000
namespace KT
open PySem L2
end KT
set_option maxHeartbeats 4000000
namespace KT
open PySem L2
end KT
set_option maxHeartbeats 4000000
namespace L2
open PySem PySem.Spec PyProof.Rows PySem.SeqAt
section
variable {X:Cx}
theorem Gs:Xt X (.type "dict") (fun xs H Q=>∃ (d:Addr) (kvs:List (Key × V)),xs=[.ref d]∧Rd H d (.dK kvs)∧∀ p,H p=none→Q (.ref p) (upd H p (.dK kvs))):=by
 intro pins s σ H xs us Q I r h
 obtain ⟨d,kvs,rfl,hd,q⟩:=h
 obtain ⟨u,rfl,ru⟩:=Xw r
 obtain rfl:u=Value.ref d:=ru
 obtain ⟨z,hsys,vs,rel,dd⟩:=J9 I.hok hd
 have hl:vs.length≤sizeLine:=by rw [← rel.length]; exact z
 refine kt_call_dict hsys dd hl fun h' hD hsb=>?_
 have hk:∀ b u,s.heap.get? b=some u→h'.get? b=some u:=fun b u e=>(hsb.2 b (Nat.ne_of_lt (Heap.lt_size e))).trans (Heap.get?_push_of_some _ e)
 refine ⟨.ref s.heap.objs.size,_,I.laid (a:=s.heap.objs.size) (o:=.dK kvs) (t':=s.toks) hk (Nat.le_refl _) ⟨z,?_,vs,rel,hD⟩,rfl,q _ (I.hok.fresh (Nat.le_refl _))⟩
 exact (Kp (P:=X.prog) (w:=X.w) (H:=H) s.heap I.big).2.1
theorem Ziv {pins:List (Addr × Obj)} {σ:St} {H:Hp} {s:Shared} {ns:List Int} {its:List Value} (rv:Vals (ns.map V.int) its):∀ (i:Nat) (v:Value),its.toArray[i]?=some v→∃ t,v=.int (ns.getD i 0) t:=fun i v hv=>by
 have hv:its[i]?=some v:=by simpa using hv
 have hlen:=rv.length
 rw [List.length_map] at hlen
 have hi:i < ns.length:=by have:=(List.getElem?_eq_some_iff.mp hv).1; omega
 obtain ⟨u,hu,ru⟩:=rv.get (show (ns.map V.int)[i]?=some (V.int ns[i]) by rw [List.getElem?_map,List.getElem?_eq_getElem hi]; rfl)
 rw [hv] at hu
 cases hu
 obtain ⟨t,rfl⟩:=ru
 exact ⟨t,by rw [List.getD_eq_getElem?_getD,List.getElem?_eq_getElem hi]; rfl⟩
theorem Zko:PIp X .Mult (fun x y H Q=>∃ i j,x=.int i∧y=.int j∧IntMulOk i j∧Q (.int (i * j)) H):=by
 intro pins s σ H x y v u Q I r1 r2 h
 obtain ⟨i,j,e1,e2,hc,q⟩:=h
 subst e1; subst e2
 obtain ⟨t,rfl⟩:=r1
 obtain ⟨t',rfl⟩:=r2
 exact imul_int ⟨.int _,H,I.tok _,⟨_,rfl⟩,q⟩ hc
end
end L2
set_option maxHeartbeats 4000000
namespace L2
open PySem PySem.Spec PyProof.Rows
noncomputable abbrev TBX:=St→Hp→(St→Hp→Prop)→XK→Prop
end L2
set_option maxHeartbeats 4000000
namespace L2
open PySem PySem.Spec PyProof.Rows
end L2
set_option maxHeartbeats 4000000
namespace HL
open PySem PyProof.Rows HT
end HL
namespace L2
open PySem PySem.Spec PyProof.Rows
end L2
set_option maxHeartbeats 4000000
namespace KT
open PySem L2
noncomputable def aN (a:Nat):Nat:=(after a).toNat
noncomputable def bN (a:Nat):Nat:=(Wk a).toNat
structure PC (M:List (Option Nat)) (f:Nat→Int):Prop where
 nn:∀ p,p < M.length→0≤f p
 rim:∀ p:Nat,M[p]?=some none→f p=0
 mate:∀ p q:Nat,M[p]?=some (some q)→f q=f p
 even:∀ p,p < M.length→(f p + f (aN p) + f (bN p)) % 2=0
 tri:∀ p,p < M.length→f p≤f (aN p) + f (bN p)
noncomputable def mx (x y:Int):Int:=if y > x then y else x
noncomputable def bh (f:Nat→Int) (a b:Nat):Int:=mx (f (aN a) + f (aN b)) (f (bN a) + f (bN b)) - f a
noncomputable def fx (left:Bool) (a b:Nat) (f:Nat→Int) (z:Nat):Int:=if z=a∨z=b then bh f a b else f (mvN (!left) a b z)
end KT
set_option maxHeartbeats 4000000
namespace KT
open PySem L2
noncomputable def sF (f:Nat→Int):Nat→Int
 | 0=>0
 | n + 1=>sF f n + f n
end KT
set_option maxHeartbeats 4000000
namespace KT
open PySem L2
end KT
set_option maxHeartbeats 4000000
namespace KT
open PySem L2
end KT
set_option maxHeartbeats 4000000
namespace KT
open PySem L2
section
variable {M:List (Option Nat)} {ns:List Int} {f:Nat→Int} {g:Int→Int}
noncomputable def mu (M:List (Option Nat)) (p:Nat):Nat:=match (M[p]?).join with
 | some q=>q
 | none=>p
end
end KT
set_option maxHeartbeats 4000000
namespace L2
open PySem PySem.Spec PyProof.Rows
noncomputable def Zm4 (i j:Int):Prop:=0≤j∧(Builtin.Int.intBits i:Int) * j≤2 ^ 27
theorem Zkf {X:Cx}:OpR X (binaryOp .Pow) (rI Zm4 fun i j=>.int (i ^ j.toNat)):=opI fun _ _ _ _ _ _ _ hc q=>pow_int hc.1 hc.2 q
theorem Zcr {X:Cx}:PIp X .FloorDiv (fun x y H Q=>∃ i j,x=.int i∧y=.int j∧V5 i j∧Q (.int (i / j)) H):=by
 intro pins s σ H x y v u Q I r1 r2 h
 obtain ⟨i,j,e1,e2,hc,q⟩:=h
 subst e1; subst e2
 obtain ⟨t,rfl⟩:=r1
 obtain ⟨t',rfl⟩:=r2
 have h1:(0:Int) < j:=hc.1
 refine ifloordiv_int (by omega) ?_ (.inl (PyProof.noPylong_of_log2 hc.2))
 rw [Int.fdiv_eq_ediv_of_nonneg i (by omega)]
 exact ⟨.int _,H,I.tok _,⟨_,rfl⟩,q⟩
end L2
set_option maxHeartbeats 4000000
namespace L2
open PySem PySem.Spec PyProof.Rows
end L2
set_option maxHeartbeats 4000000
namespace L2
open PySem PySem.Spec PyProof.Rows
end L2
set_option maxHeartbeats 4000000
namespace L2
open PySem PySem.Spec PyProof.Rows
end L2
set_option maxHeartbeats 4000000
namespace PySem.F
end PySem.F
namespace L2
open PySem PySem.Spec PyProof.Rows
end L2
set_option maxHeartbeats 4000000
namespace L2
open PySem PySem.Spec PyProof.Rows
end L2
set_option maxHeartbeats 4000000
namespace L2
open PySem PySem.Spec PyProof.Rows
noncomputable def dd (ks:List Int):List Int:=ks.foldl step_dedup []
end L2
set_option maxHeartbeats 4000000
namespace L2
open PySem PySem.Spec PyProof.Rows
end L2
set_option maxHeartbeats 4000000
namespace L2
open PySem PySem.Spec PyProof.Rows
theorem Gi {d:Addr} {kvs:List (Key × V)} {o:Obj} {g:TG} {tt:TT} {tb:TB} {R:St→Hp→Prop} {σ:St} {H:Hp} (Pv:Nat→St→Hp→Prop) (h0:Pv 0 σ H) (hl:∀ i σ H,i≤kvs.length→Pv i σ H→H d=some (.frz o (.dK kvs)))
  (hs:∀ (i:Nat) k x σ H q,kvs[i]?=some (k,x)→H q=none→Pv i σ H→g (.ref q) σ (upd H q (.tup [kV k,x])) fun σ2 H2=>tt σ2 H2 fun b H3=>if b=true then tb σ2 H3 (Pv (i + 1)) else Pv (i + 1) σ2 H3) (hd:∀ σ H,Pv kvs.length σ H→R σ H):Wg (Itm2 d kvs o) g tt tb R σ H:=by
 refine ⟨fun i m σ H=>m=kvs.length - i∧i≤kvs.length∧Pv i σ H,⟨kvs.length,by simp,Nat.zero_le _,h0⟩,?_⟩
 rintro i m σ H ⟨rfl,hi,p⟩
 have q:=hl i σ H hi p
 by_cases hlt:i < kvs.length
 ·refine .inr ⟨⟨hlt,q⟩,Pv (i + 1),fun σ' H' p'=>⟨kvs.length - (i + 1),by omega,rfl,hlt,p'⟩,fun x H' y=>?_⟩
  obtain ⟨c,k,v,hn,e1,y,e2⟩:=y
  subst e1 e2
  exact hs i k v σ H c y hn p
 ·have e:i=kvs.length:=by omega
  subst e
  exact .inl ⟨⟨Nat.le_refl _,q⟩,hd σ H p⟩
noncomputable def Zk3 (H0:Hp) (t:TE):TE:=fun σ H Q=>t σ H fun v H'=>∃ (a:Addr) (o:Obj) (kvs:List (Key × V)),H' a=some (.frz o (.dK kvs))∧(∀ o u,H0 a≠some (.frz o u))∧Q v (upd H' a (.dK kvs))
theorem Zd7 {X:Cx} {e:Expr} {t:TE} (h:PE X e t):PE X e (Zk3 X.H₀ t):=by
 intro pins s σ H Q I hw
 refine wpAny_mono (h pins s σ H _ I hw) (fun v s' q=>?_) fun _ _ e=>e
 obtain ⟨x,H',I',r,a,o,kvs,e,h0,q⟩:=q
 exact ⟨x,_,I'.thaw e h0,r,q⟩
end L2
set_option maxHeartbeats 4000000
namespace KT
noncomputable def lowN (m n:Nat):Nat × Nat:=(m / Nat.gcd m n,n / Nat.gcd m n)
structure Val (v:Nat × Nat) (N D:Nat):Prop where
 p1:0 < v.1
 p2:0 < v.2
 co:Nat.gcd v.1 v.2=1
 eq:v.1 * D=v.2 * N
theorem Qc {m n:Nat} (hm:0 < m) (hn:0 < n):Val (lowN m n) m n:=by
 have g0:0 < Nat.gcd m n:=Nat.gcd_pos_of_pos_left _ hm
 have d1:=Nat.gcd_dvd_left m n
 have d2:=Nat.gcd_dvd_right m n
 refine ⟨Nat.div_pos (Nat.le_of_dvd hm d1) g0,Nat.div_pos (Nat.le_of_dvd hn d2) g0,?_,?_⟩
 ·show Nat.gcd (m / Nat.gcd m n) (n / Nat.gcd m n)=1
  rw [Nat.gcd_div d1 d2,Nat.div_self g0]
 ·show m / Nat.gcd m n * n=n / Nat.gcd m n * m
  obtain ⟨a,ha⟩:=d1
  obtain ⟨b,hb⟩:=d2
  generalize Nat.gcd m n=g at *
  subst ha hb
  rw [Nat.mul_div_cancel_left _ g0,Nat.mul_div_cancel_left _ g0]
  simp only [Nat.mul_comm,Nat.mul_left_comm]
theorem Oc (m n:Nat):(lowN m n).1≤m∧(lowN m n).2≤n:=⟨Nat.div_le_self _ _,Nat.div_le_self _ _⟩
theorem Val.uniq {v w:Nat × Nat} {N D:Nat} (h1:Val v N D) (h2:Val w N D) (hD:0 < D):v=w:=by
 have e:v.1 * w.2=v.2 * w.1:=by
  refine Nat.eq_of_mul_eq_mul_right hD ?_
  calc v.1 * w.2 * D=w.2 * (v.1 * D):=by simp only [Nat.mul_comm,Nat.mul_left_comm]
   _=w.2 * (v.2 * N):=by rw [h1.eq]
   _=v.2 * (w.2 * N):=by simp only [Nat.mul_comm,Nat.mul_left_comm]
   _=v.2 * (w.1 * D):=by rw [h2.eq]
   _=v.2 * w.1 * D:=by rw [Nat.mul_assoc]
 have c1:Nat.Coprime v.1 v.2:=h1.co
 have c2:Nat.Coprime w.1 w.2:=h2.co
 have d1:v.1 ∣ w.1:=c1.dvd_of_dvd_mul_left (by rw [← e]; exact Nat.dvd_mul_right _ _)
 have d2:w.1 ∣ v.1:=c2.dvd_of_dvd_mul_left (by rw [Nat.mul_comm w.2,e]; exact Nat.dvd_mul_left _ _)
 have e1:v.1=w.1:=Nat.dvd_antisymm d1 d2
 have e2:v.2=w.2:=by
  rw [e1,Nat.mul_comm] at e
  exact (Nat.eq_of_mul_eq_mul_right h2.p1 e).symm
 exact Prod.ext e1 e2
noncomputable def putG (g:Int→Nat × Nat) (x:Int) (v:Nat × Nat):Int→Nat × Nat:=fun y=>if y=x then v else g y
noncomputable def lowG (g:Int→Nat × Nat):Int→Nat × Nat:=fun x=>lowN (g x).1 (g x).2
end KT
set_option maxHeartbeats 4000000
namespace KT
open PySem L2
section
variable {M:List (Option Nat)} {ns:List Int} {x y:Int} {a b:Nat}
noncomputable def SwN (M:List (Option Nat)) (ns:List Int) (x:Int):Prop:=∃ p j:Nat,M[p]?=some (some j)∧ns[p]?=some x
structure SwK (M:List (Option Nat)) (ns:List Int) (ks:List Int):Prop where
 nd:ks.Nodup
 mem:∀ x,x∈ks ↔ SwN M ns x
theorem SwK.perm {ks ls:List Int} (h:SwK M ns ks) (g:SwK M ns ls):ks.Perm ls:=(List.perm_ext_iff_of_nodup h.nd g.nd).mpr fun x=>(h.mem x).trans (g.mem x).symm
theorem SwN.key (td:TD M ns) (h:SwN M ns x):x∈keys ns ns.length:=by
 obtain ⟨p,j,_,e⟩:=h
 exact X8.mpr ⟨p,(List.getElem?_eq_some_iff.mp e).1,e⟩
end
end KT
set_option maxHeartbeats 4000000
namespace KT
open PySem L2
end KT
set_option maxHeartbeats 4000000
namespace L2
open PySem PySem.Spec PyProof.Rows
end L2
set_option maxHeartbeats 4000000
namespace L2
open PySem PySem.Spec PyProof.Rows
end L2
set_option maxHeartbeats 4000000
namespace L2
open PySem PySem.Spec PyProof.Rows
end L2
set_option maxHeartbeats 4000000
namespace L2
open PySem PySem.Spec PyProof.Rows
end L2
set_option maxHeartbeats 4000000
namespace L2
open PySem PySem.Spec PyProof.Rows
end L2
set_option maxHeartbeats 400000
namespace L2
open PySem PySem.Spec PyProof.Rows
end L2
set_option maxHeartbeats 4000000
namespace L2
open PySem PySem.Spec PyProof.Rows
section
variable {P:Program} {w:World} {A:Around} {E:Value→Shared→Prop} {s:Shared}
theorem Zhd (hh:A.handled=none) (it t:Addr) (hne:t≠it) (its:Array Value):Draws P w A it [it,t] its.size (fun i v=>its[i]?=some v) (fun i h=>IsTupIter h it t i∧IsTup h t its):=by
 refine ⟨fun _ _ st=>let ⟨o,ho,_⟩:=st.1; ⟨o,ho⟩,fun _ _ _ st k=>?_,fun i s Q E hi st hQ=>?_,fun s Q E st hE=>?_⟩
 ·obtain ⟨⟨o,ho,r⟩,o2,ho2,r2⟩:=st
  exact ⟨⟨o,k it (by simp) o ho,r⟩,o2,k t (by simp) o2 ho2,r2⟩
 ·obtain ⟨hit,ht⟩:=st
  obtain ⟨o,ho,hc,hd⟩:=id hit
  obtain ⟨ol,hol,_,nl,hdl⟩:=id ht
  have hx:its[i]?=some its[i]:=Array.getElem?_eq_getElem hi
  unfold Builtin.SmallTypes.nextOf
  refine wpAny_bind (wpAny_callSpecial?_slot (name:=Str.ofString "__next__") hit.typeIs slot_tupleiter_next (wpAny_call_entry slot_tupleiter_next hit.typeIs entry_tupleiter_next ?_ (args_tupleiter_next _)))
  refine wpAny_bind (m:=field (.ref it) 0) (wpAny_field ho hd (x:=.ref t) rfl ?_)
  show wpAny _ _ (if (Value.ref t == Value.none)=true then _ else _) _ _ s
  rw [if_neg (show ¬ ((Value.ref t == Value.none)=true) from Bool.false_ne_true)]
  refine wpAny_bind (m:=field (.ref it) 1) (wpAny_field ho hd (x:=.int i 0) rfl (wpAny_bind (m:=seqItems? (.ref t)) (wpAny_seqItems hol hdl ?_)))
  simp only [Int.toNat_natCast,hx]
  refine wpAny_bind (wpAny_setField ho hd (by simp) (wpAny_pure ⟨its[i],rfl,wpAny_pure (hQ _ _ s.toks hx ⟨?_,(Heap.get?_update_other _ _ (Ne.symm hne)).trans hol |> fun e=>⟨ol,e,‹_›,nl,hdl⟩⟩ (Heap.SameBut.update ..))⟩))
  exact ⟨_,Heap.get?_update_self _ ho (Obj.isFreed_of_fields (Obj.data_mapFields hd _)),(Obj.cls_mapFields ..).trans hc,by rw [Obj.data_mapFields hd]; simp [rawInt]⟩
 ·obtain ⟨hit,ht⟩:=st
  obtain ⟨o,ho,hc,hd⟩:=id hit
  obtain ⟨ol,hol,_,nl,hdl⟩:=id ht
  unfold Builtin.SmallTypes.nextOf
  refine wpAny_bind (wpAny_callSpecial?_slot (name:=Str.ofString "__next__") hit.typeIs slot_tupleiter_next (wpAny_call_entry slot_tupleiter_next hit.typeIs entry_tupleiter_next ?_ (args_tupleiter_next _)))
  refine wpAny_bind (m:=field (.ref it) 0) (wpAny_field ho hd (x:=.ref t) rfl ?_)
  show wpAny _ _ (if (Value.ref t == Value.none)=true then _ else _) _ _ s
  rw [if_neg (show ¬ ((Value.ref t == Value.none)=true) from Bool.false_ne_true)]
  refine wpAny_bind (m:=field (.ref it) 1) (wpAny_field ho hd (x:=.int its.size 0) rfl (wpAny_bind (m:=seqItems? (.ref t)) (wpAny_seqItems hol hdl ?_)))
  simp only [Int.toNat_natCast,Array.getElem?_eq_none (Nat.le_refl its.size)]
  refine wpAny_bind (wpAny_rule (wpAny_bind (wpAny_setField ho hd (by simp) ?_)))
  refine wpAny_bind (m:=newExc (.type "StopIteration") []) ?_
  simp only [newExc,newTuple]
  refine wpAny_bind (wpAny_newObj_type ?_ (by size_fits))
  refine wpAny_bind (m:=firstArgMember _ _) (wpAny_of_eq (a:=Value.none) (by first | rfl | (simp only [firstArgMember]; rfl)) (wpAny_newObj_type ?_ (by size_fits)))
  exact wpAny_raiseNew_none (A:=A.in1) hh (hE _ _ (((Heap.SameBut.update ..).extBut.push _).push _) ⟨_,Heap.get?_push_size _ rfl,rfl⟩)
structure ZA (z TI TO i1 i2:Addr) (f1 f2:List Addr):Prop where
 TIz:TI≠z
 TOz:TO≠z
 i1z:i1≠z
 i2z:i2≠z
 TITO:TI≠TO
 TIi1:TI≠i1
 TIi2:TI≠i2
 TOi1:TO≠i1
 TOi2:TO≠i2
 i12:i1≠i2
 z1:z ∉ f1
 z2:z ∉ f2
 t1:TO ∉ f1
 t2:TO ∉ f2
 a1:i2 ∉ f1
 a2:i1 ∉ f2
variable {z TI TO i1 i2:Addr} {f1 f2:List Addr} {n1 n2:Nat} {P1 P2:Nat→Value→Prop} {S1 S2:Nat→Heap→Prop} {a b:Value}
theorem Zfu {k:Nat} {Q:Option Value→Shared→Prop} (D1:Draws P w A.in1 i1 f1 n1 P1 S1) (D2:Draws P w A.in1 i2 f2 n2 P2 S2) (D:ZA z TI TO i1 i2 f1 f2) (hz:IsZip s.heap z TI TO .none) (hTI:IsPair s.heap TI (.ref i1) (.ref i2)) (hTO:IsPair s.heap TO a b)
  (s1:S1 k s.heap) (s2:S2 k s.heap) (l1:k < n1) (l2:k < n2)
  (hQ:∀ x y h' tk,P1 k x→P2 k y→IsZip h' z TI TO (rawInt s.heap.objs.size)→IsPair h' TO x y→S1 (k + 1) h'→S2 (k + 1) h'→IsPair h' s.heap.objs.size x y →
   (∀ c o,c≠z→c≠TO→c≠i1→c≠i2→s.heap.get? c=some o→h'.get? c=some o)→Q (some (.ref s.heap.objs.size)) { s with heap:=h',toks:=tk }):wpAny (model P w) A (pyNext (.ref z)) Q E s:=by
 have hT:s.TypeIs (.ref z) "zip":=⟨_,hz,rfl⟩
 unfold pyNext
 refine wpAny_bind (wpAny_attempt (wpAny_callSpecial?_slot (name:=Str.ofString "__next__") hT PySem.F.slot_zip_next (wpAny_call_entry PySem.F.slot_zip_next hT PySem.F.entry_zip_next ?_ (PySem.F.args_zip_next_1 _))))
 refine wpAny_bind (m:=field (.ref z) 2) (wpAny_field hz rfl (x:=.bool false) rfl ?_)
 refine wpAny_bind (m:=field (.ref z) 3) (wpAny_field hz rfl (x:=.ref TI) rfl (wpAny_bind (wpAny_seqItems hTI rfl ?_)))
 refine wpAny_bind (m:=Builtin.SmallTypes.ownedTupleIsFree (.ref z)) ?_
 unfold Builtin.SmallTypes.ownedTupleIsFree
 refine wpAny_bind (wpAny_field hz rfl (x:=.none) rfl (wpAny_pure ?_))
 simp only [if_true]
 refine wpAny_bind (wpAny_rule (wpAny_bind (wpAny_field hz rfl (x:=.ref TO) rfl (wpAny_bind (wpAny_setField_rec hz (by simp) fun g1 q1 b1=>?_)))))
 replace q1:IsZip g1 z TI TO .ellipsis:=q1
 refine wpAny_bind ?_
 simp only [List.zipIdx_cons,List.zipIdx_nil,List.forIn_cons,List.forIn_nil]
 refine wpAny_bind (wpAny_bind (wpAny_onRaise (wpAny_bind (m:=Builtin.SmallTypes.nextOf (.ref i1)) (D1.item k _ _ _ l1 (D1.frame k _ _ s1 fun c hc o e=>b1.extBut c o (fun q=>D.z1 (q ▸ hc)) e) fun x g2 tk2 px st2 b2=>wpAny_pure ?_))))
 have r2:IsPair g2 TO a b:=b2.extBut _ _ D.TOi1 (b1.extBut _ _ D.TOz hTO)
 refine wpAny_bind (wpAny_seqItems r2 rfl (wpAny_bind (wpAny_updateSeq_pair r2 fun g3 r3 b3=>wpAny_bind (wpAny_letGo (wpAny_pure ?_)))))
 replace r3:IsPair g3 TO x b:=r3
 have st3:S2 k g3:=D2.frame k _ _ s2 fun c hc o e=>b3.extBut c o (fun q=>D.t2 (q ▸ hc)) (b2.extBut c o (fun q=>D.a2 (q ▸ hc)) (b1.extBut c o (fun q=>D.z2 (q ▸ hc)) e))
 refine wpAny_bind (wpAny_bind (wpAny_onRaise (wpAny_bind (m:=Builtin.SmallTypes.nextOf (.ref i2)) (D2.item k _ _ _ l2 st3 fun y g4 tk4 py st4 b4=>wpAny_pure ?_))))
 have r4:IsPair g4 TO x b:=b4.extBut _ _ D.TOi2 r3
 refine wpAny_bind (wpAny_seqItems r4 rfl (wpAny_bind (wpAny_updateSeq_pair r4 fun g5 r5 b5=>wpAny_bind (wpAny_letGo (wpAny_pure (wpAny_pure ?_))))))
 replace r5:IsPair g5 TO x y:=r5
 refine wpAny_bind (wpAny_seqItems r5 rfl (wpAny_bind (wpAny_newTuple ?_)))
 have sz:g5.objs.size=s.heap.objs.size:=by rw [b5.1,b4.1,b3.1,b2.1,b1.1]
 have q5:IsZip g5 z TI TO .ellipsis:=b5.extBut _ _ D.TOz.symm (b4.extBut _ _ D.i2z.symm (b3.extBut _ _ D.TOz.symm (b2.extBut _ _ D.i1z.symm q1)))
 have k5:∀ c o,c≠z→c≠TO→c≠i1→c≠i2→s.heap.get? c=some o→g5.get? c=some o:=fun c o c1 c2 c3 c4 e=>b5.extBut _ _ c2 (b4.extBut _ _ c4 (b3.extBut _ _ c2 (b2.extBut _ _ c3 (b1.extBut _ _ c1 e))))
 have u1:S1 (k + 1) g5:=D1.frame _ _ _ st2 fun c hc o e=>b5.extBut c o (fun q=>D.t1 (q ▸ hc)) (b4.extBut c o (fun q=>D.a1 (q ▸ hc)) (b3.extBut c o (fun q=>D.t1 (q ▸ hc)) e))
 have u2:S2 (k + 1) g5:=D2.frame _ _ _ st4 fun c hc o e=>b5.extBut c o (fun q=>D.t2 (q ▸ hc)) e
 have zl:z < g5.objs.size:=Heap.lt_size q5
 refine wpAny_bind (m:=Builtin.SmallTypes.ownedTupleHandOut (.ref z) (.ref g5.objs.size)) ?_
 unfold Builtin.SmallTypes.ownedTupleHandOut
 refine wpAny_bind (wpAny_setField_rec (show IsZip (g5.push { cls:=.type "tuple",data:=.seq #[x,y] }) z TI TO .ellipsis from Heap.get?_push_of_some _ q5) (by simp) fun g7 q7 b7=>?_)
 replace q7:IsZip g7 z TI TO (rawInt g5.objs.size):=q7
 refine wpAny_setField_rec q7 (by simp) fun g8 q8 b8=>?_
 replace q8:IsZip g8 z TI TO (rawInt g5.objs.size):=q8
 have up:∀ c o,c≠z→g5.get? c=some o→g8.get? c=some o:=fun c o c1 e=>b8.extBut _ _ c1 (b7.extBut _ _ c1 (Heap.get?_push_of_some _ e))
 have r8:IsPair g8 g5.objs.size x y:=b8.extBut _ _ (Nat.ne_of_gt zl) (b7.extBut _ _ (Nat.ne_of_gt zl) (Heap.get?_push_size _ rfl))
 rw [sz] at q8 r8
 refine wpAny_pure ⟨_,rfl,wpAny_pure ?_⟩
 show Q (some (.ref g5.objs.size)) _
 rw [sz]
 exact hQ x y g8 tk4 px py q8 (up _ _ D.TOz r5) (D1.frame _ _ _ u1 fun c hc o e=>up c o (fun q=>D.z1 (q ▸ hc)) e) (D2.frame _ _ _ u2 fun c hc o e=>up c o (fun q=>D.z2 (q ▸ hc)) e) r8 fun c o c1 c2 c3 c4 e=>up c o c1 (k5 c o c1 c2 c3 c4 e)
theorem Zhl {k:Nat} {Q:Option Value→Shared→Prop} (D1:Draws P w A.in1 i1 f1 n1 P1 S1) (D2:Draws P w A.in1 i2 f2 n2 P2 S2) (D:ZA z TI TO i1 i2 f1 f2) (hz:IsZip s.heap z TI TO .none) (hTI:IsPair s.heap TI (.ref i1) (.ref i2)) (hTO:IsPair s.heap TO a b)
  (s1:S1 k s.heap) (s2:S2 k s.heap) (l1:k=n1∨k < n1∧k=n2)
  (hQ:∀ h' tk,(∀ c o,c≠z→c≠TO→c≠i1→c≠i2→s.heap.get? c=some o→h'.get? c=some o)→Q none { s with heap:=h',toks:=tk }):wpAny (model P w) A (pyNext (.ref z)) Q E s:=by
 have hT:s.TypeIs (.ref z) "zip":=⟨_,hz,rfl⟩
 have fin:∀ (h':Heap) (tk:Nat) (e:Addr),(∀ c o,c≠z→c≠TO→c≠i1→c≠i2→s.heap.get? c=some o→h'.get? c=some o)→(∃ o,h'.get? e=some o∧o.cls=.type "StopIteration") →
   wpAny (model P w) A (do if ← isInstance (.ref e) (.type "StopIteration") then pure (none:Option Value) else throw (.ref e)) Q E { s with heap:=h',toks:=tk }:=fun h' tk e kp ⟨o,ho,hc⟩ =>
  wpAny_bind (wpAny_isInstance (T:="StopIteration") (b:=true) ⟨o,ho,hc⟩ isSubtype_stop (wpAny_pure (hQ _ _ kp)))
 unfold pyNext
 refine wpAny_bind (wpAny_attempt (wpAny_callSpecial?_slot (name:=Str.ofString "__next__") hT PySem.F.slot_zip_next (wpAny_call_entry PySem.F.slot_zip_next hT PySem.F.entry_zip_next ?_ (PySem.F.args_zip_next_1 _))))
 refine wpAny_bind (m:=field (.ref z) 2) (wpAny_field hz rfl (x:=.bool false) rfl ?_)
 refine wpAny_bind (m:=field (.ref z) 3) (wpAny_field hz rfl (x:=.ref TI) rfl (wpAny_bind (wpAny_seqItems hTI rfl ?_)))
 refine wpAny_bind (m:=Builtin.SmallTypes.ownedTupleIsFree (.ref z)) ?_
 unfold Builtin.SmallTypes.ownedTupleIsFree
 refine wpAny_bind (wpAny_field hz rfl (x:=.none) rfl (wpAny_pure ?_))
 simp only [if_true]
 refine wpAny_bind (wpAny_rule (wpAny_bind (wpAny_field hz rfl (x:=.ref TO) rfl (wpAny_bind (wpAny_setField_rec hz (by simp) fun g1 q1 b1=>?_)))))
 replace q1:IsZip g1 z TI TO .ellipsis:=q1
 refine wpAny_bind ?_
 simp only [List.zipIdx_cons,List.zipIdx_nil,List.forIn_cons,List.forIn_nil]
 have st1:S1 k g1:=D1.frame k _ _ s1 fun c hc o e=>b1.extBut c o (fun q=>D.z1 (q ▸ hc)) e
 rcases l1 with rfl | ⟨l1,rfl⟩
 ·refine wpAny_bind (wpAny_bind (wpAny_onRaise (wpAny_bind (m:=Builtin.SmallTypes.nextOf (.ref i1)) (D1.done _ _ _ st1 fun g2 e b2 ⟨oe,hoe,hce⟩=>?_))))
  have q2:IsZip g2 z TI TO .ellipsis:=b2 _ _ D.i1z.symm q1
  have ez:e≠z:=fun x=>by subst x; rw [q2] at hoe; cases hoe; simp at hce
  exact wpAny_setField_rec q2 (by simp) fun g3 _ b3=>fin g3 s.toks e (fun c o c1 _ c3 _ x=>b3.extBut _ _ c1 (b2 _ _ c3 (b1.extBut _ _ c1 x))) ⟨oe,b3.extBut _ _ ez hoe,hce⟩
 ·refine wpAny_bind (wpAny_bind (wpAny_onRaise (wpAny_bind (m:=Builtin.SmallTypes.nextOf (.ref i1)) (D1.item k _ _ _ l1 st1 fun x g2 tk2 px st2 b2=>wpAny_pure ?_))))
  have r2:IsPair g2 TO a b:=b2.extBut _ _ D.TOi1 (b1.extBut _ _ D.TOz hTO)
  refine wpAny_bind (wpAny_seqItems r2 rfl (wpAny_bind (wpAny_updateSeq_pair r2 fun g3 r3 b3=>wpAny_bind (wpAny_letGo (wpAny_pure ?_)))))
  have st3:S2 k g3:=D2.frame k _ _ s2 fun c hc o e=>b3.extBut c o (fun q=>D.t2 (q ▸ hc)) (b2.extBut c o (fun q=>D.a2 (q ▸ hc)) (b1.extBut c o (fun q=>D.z2 (q ▸ hc)) e))
  refine wpAny_bind (wpAny_bind (wpAny_onRaise (wpAny_bind (m:=Builtin.SmallTypes.nextOf (.ref i2)) (D2.done _ _ _ st3 fun g4 e b4 zz9=>?_))))
  obtain ⟨oe,hoe,hce⟩:=zz9
  have q4:IsZip g4 z TI TO .ellipsis:=b4 _ _ D.i2z.symm (b3.extBut _ _ D.TOz.symm (b2.extBut _ _ D.i1z.symm q1))
  have ez:e≠z:=fun x=>by subst x; rw [q4] at hoe; cases hoe; simp at hce
  exact wpAny_setField_rec q4 (by simp) fun g5 _ b5=>fin g5 tk2 e (fun c o c1 c2 c3 c4 x=>b5.extBut _ _ c1 (b4 _ _ c4 (b3.extBut _ _ c2 (b2.extBut _ _ c3 (b1.extBut _ _ c1 x))))) ⟨oe,b5.extBut _ _ ez hoe,hce⟩
end
end L2
set_option maxHeartbeats 4000000
namespace L2
open PySem PySem.Spec PyProof.Rows
inductive ZS where
 | l (a:Addr)
 | t (a:Addr)
 | s (x:Str)
noncomputable def ZS.ad:ZS→List Addr
 | .l a=>[a]
 | .t a=>[a]
 | .s _=>[]
noncomputable def ZS.has (K:PySem.W.Frag) (H:Hp) (S:ZS) (xs:List V):Prop:=match S with
 | .l a=>SqL K H a xs
 | .t a=>SqT K H a xs
 | .s x=>x.cps.all (· < 128)=true∧xs=x.cps.toList.map fun c=>V.str ⟨#[c]⟩
noncomputable def ZS.it (S:ZS) (i:Addr) (k:Nat) (h:Heap):Prop:=match S with
 | .l a=>h.IsListIter i a k
 | .t a=>IsTupIter h i a k
 | .s x=>∃ t,h.IsStrIter i "str_ascii_iterator" x t k
noncomputable def ZS.v:ZS→V
 | .l a=>.ref a
 | .t a=>.ref a
 | .s x=>.str x
theorem ZS.it_obj {S:ZS} {i:Addr} {k:Nat} {h:Heap} (st:S.it i k h):∃ o,h.get? i=some o∧∀ v,o.data≠.cell v:=by
 cases S with
 | l a=>obtain ⟨o,e,_,d⟩:=st; exact ⟨o,e,fun v z=>by rw [d] at z; cases z⟩
 | t a=>obtain ⟨o,e,_,d⟩:=st; exact ⟨o,e,fun v z=>by rw [d] at z; cases z⟩
 | s x=>obtain ⟨t,o,e,_,d⟩:=st; exact ⟨o,e,fun v z=>by rw [d] at z; cases z⟩
theorem ZS.it_keep {S:ZS} {i:Addr} {k:Nat} {h h':Heap} (st:S.it i k h) (kp:∀ o,h.get? i=some o→h'.get? i=some o):S.it i k h':=by
 cases S with
 | l a=>obtain ⟨o,e,r⟩:=st; exact ⟨o,kp o e,r⟩
 | t a=>obtain ⟨o,e,r⟩:=st; exact ⟨o,kp o e,r⟩
 | s x=>obtain ⟨t,o,e,r⟩:=st; exact ⟨t,o,kp o e,r⟩
theorem ZS.has_inj {X:Cx} {pins:List (Addr × Obj)} {σ:List (Option V)} {H:Hp} {s:Shared} (I:Inv X pins σ H s) {S:ZS} {xs ys:List V} (h1:S.has X.K H xs) (h2:S.has X.K H ys):xs=ys:=by
 cases S with
 | l a=>exact I.list_inj h1 h2
 | t a=>exact I.tuple_inj h1 h2
 | s x=>rw [h1.2,h2.2]
section
variable {X:Cx} {pins:List (Addr × Obj)} {σ:List (Option V)} {H:Hp} {s:Shared}
theorem ZS.draws (I:Inv X pins σ H s) {A:Around} (hh:A.handled=none) {S:ZS} {xs:List V} (h:S.has X.K H xs) {i:Addr} (hi:i ∉ S.ad) {k:Nat} (st:S.it i k s.heap) :
  ∃ (P1:Nat→Value→Prop) (St:Nat→Heap→Prop),Draws X.prog X.w A i (i :: S.ad) xs.length P1 St∧St k s.heap∧(∀ k h,St k h→S.it i k h)∧∀ (k:Nat) (v:Value) (x:V),P1 k v→xs[k]?=some x→RelV x v:=by
 cases S with
 | l a =>
  obtain ⟨its,rv,pl,_⟩:=I.list h
  have hl:xs.length=its.toArray.size:=by rw [List.size_toArray]; exact rv.length
  have hne:a≠i:=fun z=>hi (by rw [z]; exact List.mem_singleton.mpr rfl)
  refine ⟨_,_,hl ▸ Draws.list hh i a hne its.toArray,⟨st,pl.isList⟩,fun k h st=>st.1,fun k v x hv hx=>?_⟩
  obtain ⟨u,hu,ru⟩:=rv.get hx
  have:its.toArray[k]?=some v:=hv
  rw [List.getElem?_toArray,hu] at this
  cases this
  exact ru
 | t a =>
  obtain ⟨its,rv,pl,_⟩:=I.tuple h
  have hl:xs.length=its.toArray.size:=by rw [List.size_toArray]; exact rv.length
  have hne:a≠i:=fun z=>hi (by rw [z]; exact List.mem_singleton.mpr rfl)
  refine ⟨_,_,hl ▸ Zhd hh i a hne its.toArray,⟨st,pl⟩,fun k h st=>st.1,fun k v x hv hx=>?_⟩
  obtain ⟨u,hu,ru⟩:=rv.get hx
  have:its.toArray[k]?=some v:=hv
  rw [List.getElem?_toArray,hu] at this
  cases this
  exact ru
 | s x =>
  obtain ⟨ha,rfl⟩:=h
  obtain ⟨t,st⟩:=st
  have hl:(x.cps.toList.map fun c=>V.str ⟨#[c]⟩).length=x.cps.size:=by rw [List.length_map,Array.length_toList]
  refine ⟨_,_,hl ▸ Draws.strAscii hh i x t,st,fun k h st=>⟨t,st⟩,fun k v y hv hy=>?_⟩
  obtain ⟨c,u,hc,rfl⟩:=hv
  rw [List.getElem?_map,Array.getElem?_toList,hc] at hy
  cases hy
  exact ⟨u,rfl⟩
end
noncomputable def Itz2 (K:PySem.W.Frag) (S T:ZS):It :=
  ⟨fun i H=>∃ xs ys x y,S.has K H xs∧T.has K H ys∧xs[i]?=some x∧ys[i]?=some y,
   fun i H v H'=>∃ q x y,H q=none∧v=.ref q∧(∀ xs,S.has K H xs→xs[i]?=some x)∧(∀ ys,T.has K H ys→ys[i]?=some y)∧H'=upd H q (.tup [x,y]),
   fun i H=>∃ xs ys,S.has K H xs∧T.has K H ys∧i=xs.length∧xs.length=ys.length⟩
theorem Zfx {P:Program} {w:World} {K:PySem.W.Frag} {elts:List Expr} {x1:Nat} {pos:Pos} (S T:ZS) (z TI TO i1 i2:Addr) (D:ZA z TI TO i1 i2 (i1 :: S.ad) (i2 :: T.ad)) (h1:i1 ∉ S.ad) (h2:i2 ∉ T.ad) :
  Turn P w K (.Tuple elts x1 pos) (Itz2 K S T) [z,TI,TO,i1,i2] z (fun i h=>IsZip h z TI TO .none∧IsPair h TI (.ref i1) (.ref i2)∧(∃ u v,IsPair h TO u v)∧S.it i1 i h∧T.it i2 i h) where
 mem:=by simp
 obj:=fun i h st c hc=>by
  obtain ⟨s1,s2,⟨u,v,s3⟩,s4,s5⟩:=st
  have hc:c=z∨c=TI∨c=TO∨c=i1∨c=i2:=by simpa using hc
  rcases hc with rfl | rfl | rfl | rfl | rfl
  ·exact ⟨_,s1,fun v y=>by have y':Data.fields _=Data.cell v:=y; cases y'⟩
  ·exact ⟨_,s2,fun v y=>by have y':Data.seq _ _=Data.cell v:=y; cases y'⟩
  ·exact ⟨_,s3,fun v y=>by have y':Data.seq _ _=Data.cell v:=y; cases y'⟩
  ·exact ZS.it_obj s4
  ·exact ZS.it_obj s5
 keep:=fun i h h' st k=>by
  obtain ⟨s1,s2,⟨u,v,s3⟩,s4,s5⟩:=st
  exact ⟨k z (by simp) _ s1,k TI (by simp) _ s2,⟨u,v,k TO (by simp) _ s3⟩,ZS.it_keep s4 fun o e=>k i1 (by simp) o e,ZS.it_keep s5 fun o e=>k i2 (by simp) o e⟩
 item:=by
  intro X hP hw hK hc i pins s σ H E I hf st hg
  subst hP hw hK
  obtain ⟨xs,ys,x,y,hqx,hqy,hx,hy⟩:=hg
  obtain ⟨s1,s2,⟨u0,v0,s3⟩,s4,s5⟩:=st
  have hh:X.A.in1.handled=none:=I.ok.hd hc
  obtain ⟨P1,St1,D1,t1,k1,r1⟩:=ZS.draws I hh hqx h1 s4
  obtain ⟨P2,St2,D2,t2,k2,r2⟩:=ZS.draws I hh hqy h2 s5
  refine Zfu D1 D2 D s1 s2 s3 t1 t2 (List.getElem?_eq_some_iff.mp hx).1 (List.getElem?_eq_some_iff.mp hy).1 fun u v h' tk pu pv a1 a2 a3 a4 a5 a7=>?_
  have ru:=r1 i u x pu hx
  have rv:=r2 i v y pv hy
  refine ⟨.ref s.heap.objs.size,rfl,wpAny_letOwnedTupleGo_zip (s:={ s with heap:=h',toks:=tk }) a1 fun h'' b1 sb=>?_⟩
  replace sb:Heap.SameBut z h' h'':=sb
  have lt:∀ c∈[z,TI,TO,i1,i2],c < s.heap.objs.size:=fun c hc=>by
   have hc:c=z∨c=TI∨c=TO∨c=i1∨c=i2:=by simpa using hc
   rcases hc with rfl | rfl | rfl | rfl | rfl
   ·exact Heap.lt_size s1
   ·exact Heap.lt_size s2
   ·exact Heap.lt_size s3
   ·obtain ⟨o,e,_⟩:=ZS.it_obj s4; exact Heap.lt_size e
   ·obtain ⟨o,e,_⟩:=ZS.it_obj s5; exact Heap.lt_size e
  have keepb:∀ c o,c≠z→c≠TO→c≠i1→c≠i2→s.heap.get? c=some o→h''.get? c=some o:=fun c o n1 n2 n3 n4 e=>(sb.2 c n1).trans (a7 c o n1 n2 n3 n4 e)
  have ht'':h''.get? s.heap.objs.size=some { cls:=.type "tuple",data:=.seq #[u,v] }:=(sb.2 _ (Nat.ne_of_gt (lt z (by simp)))).trans a5
  have hn:H s.heap.objs.size=none:=I.hok.fresh (Nat.le_refl _)
  have I2:Inv X pins σ (upd H s.heap.objs.size (.tup [x,y])) { s with heap:=h'',toks:=tk }:=by
   have out:∀ c,c ∉ [z,TO,i1,i2]→c≠z∧c≠TO∧c≠i1∧c≠i2:=fun c hc=>by simpa using hc
   refine I.step (g':=s.gens) (d':=s.drawn) (ch:=[z,TO,i1,i2]) (fun c hc=>?_) (fun c o _ _ hc q _=>?_) (fun c o _ _ hc q _=>⟨o.slots,?_⟩) (fun c o _ q n=>by rw [Ze (Nat.ne_of_lt (Heap.lt_size q))]; exact n)
    (fun c o hc q=>⟨o,?_⟩) (fun c zs q=>by rw [Ze (Zj q hn)]; exact q) (fun c o zs q=>by rw [Ze (Zj q hn)]; exact q) (fun c ps q=>⟨#[],by rw [Ze (Zj q hn),q]; simp⟩) (fun m hm=>?_) (fun c v' q=>?_) I.bare
   ·have hc:c=z∨c=TO∨c=i1∨c=i2:=by simpa using hc
    have hm:c∈[z,TI,TO,i1,i2]:=by rcases hc with rfl | rfl | rfl | rfl <;> simp
    obtain ⟨f0,f1,f2,f3,f4,f5⟩:=hf c hm
    exact ⟨f3,f1,f4,f5⟩
   ·obtain ⟨n1,n2,n3,n4⟩:=out c hc; exact keepb c o n1 n2 n3 n4 q
   ·obtain ⟨n1,n2,n3,n4⟩:=out c hc; exact keepb c o n1 n2 n3 n4 q
   ·obtain ⟨n1,n2,n3,n4⟩:=out c hc; exact keepb c o n1 n2 n3 n4 q
   ·obtain ⟨o,es,ep,ho,r⟩:=hm
    exact ⟨o,es,ep,keepb _ o (Ne.symm (hf z (by simp)).2.1) (Ne.symm (hf TO (by simp)).2.1) (Ne.symm (hf i1 (by simp)).2.1) (Ne.symm (hf i2 (by simp)).2.1) ho,r⟩
   ·by_cases hb:c=s.heap.objs.size
    ·subst hb
     rw [Zc] at q
     cases q
     exact ⟨by show 2≤sizeLine; decide,[u,v],.cons ru (.cons rv .nil),⟨_,ht'',rfl,_,rfl⟩⟩
    ·rw [Ze hb] at q
     refine (I.hok c v' q).stay (fun e w' he y'=>keepb e w' ?_ ?_ ?_ ?_ y') (fun d y'=>by rw [Ze (Zj y' hn)]; exact y') fun d zs y'=>by rw [Ze (Zj y' hn)]; exact y'
     all_goals
      rintro rfl
      have hz0:H e=none:=(hf e (by simp)).1
      rcases he with y' | y'
      ·rw [y',q] at hz0; cases hz0
      ·rw [hz0] at y'; cases y'
  refine ⟨.ref s.heap.objs.size,_,I2,rfl,⟨_,x,y,hn,rfl,fun zs hz=>by rw [ZS.has_inj I hz hqx]; exact hx,fun zs hz=>by rw [ZS.has_inj I hz hqy]; exact hy,rfl⟩,
   ⟨b1,(sb.2 TI D.TIz).trans (a7 TI _ D.TIz D.TITO D.TIi1 D.TIi2 s2),⟨u,v,(sb.2 TO D.TOz).trans a2⟩,ZS.it_keep (k1 _ _ a3) fun o e=>(sb.2 i1 D.i1z).trans e,ZS.it_keep (k2 _ _ a4) fun o e=>(sb.2 i2 D.i2z).trans e⟩,fun c hc=>?_⟩
  rw [Ze (Nat.ne_of_lt (lt c hc))]
  exact (hf c hc).1
 done:=by
  intro X hP hw hK hc i pins s σ H E I hf st hg
  subst hP hw hK
  obtain ⟨xs,ys,hqx,hqy,e1,e2⟩:=hg
  obtain ⟨s1,s2,⟨u0,v0,s3⟩,s4,s5⟩:=st
  have hh:X.A.in1.handled=none:=I.ok.hd hc
  obtain ⟨P1,St1,D1,t1,k1,r1⟩:=ZS.draws I hh hqx h1 s4
  obtain ⟨P2,St2,D2,t2,k2,r2⟩:=ZS.draws I hh hqy h2 s5
  refine Zhl D1 D2 D s1 s2 s3 t1 t2 (.inl e1) fun h' tk eb=>⟨rfl,?_⟩
  ·have out:∀ c,c ∉ [z,TO,i1,i2]→c≠z∧c≠TO∧c≠i1∧c≠i2:=fun c hc=>by simpa using hc
   refine I.step (g':=s.gens) (d':=s.drawn) (t':=tk) (ch:=[z,TO,i1,i2]) (fun c hc=>?_) (fun c o _ _ hc q _=>?_) (fun c o _ _ hc q _=>⟨o.slots,?_⟩) (fun c o _ q n=>n)
    (fun c o hc q=>⟨o,?_⟩) (fun c zs q=>q) (fun c o zs q=>q) (fun c ps q=>⟨#[],by rw [q]; simp⟩) (fun m hm=>?_) (fun c v' q=>?_) I.bare
   ·have hc:c=z∨c=TO∨c=i1∨c=i2:=by simpa using hc
    have hm:c∈[z,TI,TO,i1,i2]:=by rcases hc with rfl | rfl | rfl | rfl <;> simp
    obtain ⟨f0,f1,f2,f3,f4,f5⟩:=hf c hm
    exact ⟨f3,f1,f4,f5⟩
   ·obtain ⟨n1,n2,n3,n4⟩:=out c hc; exact eb c o n1 n2 n3 n4 q
   ·obtain ⟨n1,n2,n3,n4⟩:=out c hc; exact eb c o n1 n2 n3 n4 q
   ·obtain ⟨n1,n2,n3,n4⟩:=out c hc; exact eb c o n1 n2 n3 n4 q
   ·obtain ⟨o,es,ep,ho,r⟩:=hm
    exact ⟨o,es,ep,eb _ o (Ne.symm (hf z (by simp)).2.1) (Ne.symm (hf TO (by simp)).2.1) (Ne.symm (hf i1 (by simp)).2.1) (Ne.symm (hf i2 (by simp)).2.1) ho,r⟩
   ·refine (I.hok c v' q).stay (fun e w' he y'=>eb e w' ?_ ?_ ?_ ?_ y') (fun d y'=>y') fun d zs y'=>y'
    all_goals
     rintro rfl
     have hz0:H e=none:=(hf e (by simp)).1
     rcases he with y' | y'
     ·rw [y',q] at hz0; cases hz0
     ·rw [hz0] at y'; cases y'
 self:=fun _ _ _ _ _ st h=>wpAny_pyIter_zip st.1 h
section
variable {P:Program} {w:World}
noncomputable def Zc4 (P:Program) (w:World) (v:Value) (o:Obj) (C:Heap→Prop):Prop:=(∀ h u,C h→C (h.push u))∧∀ (A:Around) (E:Value→Shared→Prop) (s:Shared) (Q:Value→Shared→Prop),C s.heap→Q (.ref s.heap.objs.size) { s with heap:=s.heap.push o }→wpAny (model P w) A (pyIter v) Q E s
theorem Zhi {A:Around} {E:Value→Shared→Prop} {s:Shared} {v1 v2:Value} {o1 o2:Obj} {C1 C2:Heap→Prop} {Q:Value→Shared→Prop} (I1:Zc4 P w v1 o1 C1) (I2:Zc4 P w v2 o2 C2) (c1:C1 s.heap) (c2:C2 s.heap)
  (h:∀ h',IsZip h' (s.heap.objs.size + 4) (s.heap.objs.size + 2) (s.heap.objs.size + 3) .none→IsPair h' (s.heap.objs.size + 2) (.ref s.heap.objs.size) (.ref (s.heap.objs.size + 1)) →
   IsPair h' (s.heap.objs.size + 3) .none .none→h'.get? s.heap.objs.size=some o1→h'.get? (s.heap.objs.size + 1)=some o2→(∀ c o,s.heap.get? c=some o→h'.get? c=some o)→Q (.ref (s.heap.objs.size + 4)) { s with heap:=h' }) (f1:o1.isFreed=false) (f2:o2.isFreed=false) :
  wpAny (model P w) A (call (.type "zip") [v1,v2]) Q E s:=by
 have M:MeetsIn P w (Builtin.«zip.__new__» ⟨[.type "zip",v1,v2],[]⟩) (fun _ R s=>C1 s.heap∧C2 s.heap∧R (.ok (.ret (.ref ((((s.heap.push o1).push o2).push { cls:=.type "tuple",data:=.seq #[.ref s.heap.objs.size,.ref (s.heap.push o1).objs.size] }).push { cls:=.type "tuple",data:=.seq #[.none,.none] }).objs.size)))
   { s with heap:=((((s.heap.push o1).push o2).push { cls:=.type "tuple",data:=.seq #[.ref s.heap.objs.size,.ref (s.heap.push o1).objs.size] }).push { cls:=.type "tuple",data:=.seq #[.none,.none] }).push { cls:=.type "zip",data:=.fields #[.none,.bool false,.bool false,.ref ((s.heap.push o1).push o2).objs.size,.ref (((s.heap.push o1).push o2).push { cls:=.type "tuple",data:=.seq #[.ref s.heap.objs.size,.ref (s.heap.push o1).objs.size] }).objs.size] } }):=by
  refine .of_wp fun A R s h=>?_
  obtain ⟨hp,g,d,tk,os⟩:=s
  obtain ⟨q1,q2,h⟩:=h
  have hsub:=sub_zip
  have W1:∀ (A:Around) (E:Value→Shared→Prop) (Q:Value→Shared→Prop),Q (.ref hp.objs.size) ⟨hp.push o1,g,d,tk,os⟩→wpAny (model P w) A (pyIter v1) Q E ⟨hp,g,d,tk,os⟩:=fun A E Q q=>I1.2 A E _ Q q1 q
  have W2:∀ (A:Around) (E:Value→Shared→Prop) (Q:Value→Shared→Prop),Q (.ref (hp.push o1).objs.size) ⟨(hp.push o1).push o2,g,d,tk,os⟩→wpAny (model P w) A (pyIter v2) Q E ⟨hp.push o1,g,d,tk,os⟩:=fun A E Q q=>I2.2 A E _ Q (I2.1 _ _ q2) q
  wp_walk using W1 _ _ _,W2 _ _ _
  exact ⟨_,rfl,h⟩
 refine callType_newIn PySem.F.called_zip (by decide) (by kernel_rfl) (by kernel_rfl) (fun obj=>PySem.F.args_object_init_3 obj _ _) PySem.F.entry_zip_new M ⟨c1,c2,?_⟩
 generalize hN:s.heap.objs.size=N at *
 have z1:(s.heap.push o1).objs.size=N + 1:=by rw [Heap.size_push,hN]
 have z2:((s.heap.push o1).push o2).objs.size=N + 2:=by rw [Heap.size_push,z1]
 generalize hT1:({ cls:=.type "tuple",data:=.seq #[.ref N,.ref (s.heap.push o1).objs.size] }:Obj)=T1
 have z3:(((s.heap.push o1).push o2).push T1).objs.size=N + 3:=by rw [Heap.size_push,z2]
 generalize hT2:({ cls:=.type "tuple",data:=.seq #[.none,.none] }:Obj)=T2
 have z4:((((s.heap.push o1).push o2).push T1).push T2).objs.size=N + 4:=by rw [Heap.size_push,z3]
 have e1:(s.heap.push o1).get? N=some o1:=by rw [← hN]; exact Heap.get?_push_size _ f1
 have e2:((s.heap.push o1).push o2).get? (N + 1)=some o2:=by rw [← z1]; exact Heap.get?_push_size _ f2
 have e3:(((s.heap.push o1).push o2).push T1).get? (N + 2)=some T1:=by rw [← z2]; exact Heap.get?_push_size _ (by rw [← hT1]; rfl)
 have e4:((((s.heap.push o1).push o2).push T1).push T2).get? (N + 3)=some T2:=by rw [← z3]; exact Heap.get?_push_size _ (by rw [← hT2]; rfl)
 rw [z4,z3,z2]
 generalize hZ:({ cls:=.type "zip",data:=.fields #[.none,.bool false,.bool false,.ref (N + 2),.ref (N + 3)] }:Obj)=Z
 have e5:(((((s.heap.push o1).push o2).push T1).push T2).push Z).get? (N + 4)=some Z:=by rw [← z4]; exact Heap.get?_push_size _ (by rw [← hZ]; rfl)
 refine ⟨⟨_,e5,by rw [← hZ]⟩,h _ (e5.trans (by rw [← hZ])) (by
  have:=Heap.get?_push_of_some Z (Heap.get?_push_of_some T2 e3)
  rw [← hT1,z1] at this
  rw [← hT1,z1]
  exact this) (by
  have:=Heap.get?_push_of_some Z e4
  rw [← hT2] at this ⊢
  exact this) (Heap.get?_push_of_some _ (Heap.get?_push_of_some _ (Heap.get?_push_of_some _ (Heap.get?_push_of_some _ e1)))) (Heap.get?_push_of_some _ (Heap.get?_push_of_some _ (Heap.get?_push_of_some _ e2))) fun c o x=>Heap.get?_push_of_some _ (Heap.get?_push_of_some _ (Heap.get?_push_of_some _ (Heap.get?_push_of_some _ (Heap.get?_push_of_some _ x))))⟩
end
end L2
set_option maxHeartbeats 4000000
namespace L2
open PySem PySem.Spec PyProof.Rows
section
variable {X:Cx} {pins:List (Addr × Obj)} {σ:List (Option V)} {H:Hp} {s:Shared}
theorem ZS.iter (I:Inv X pins σ H s) {S:ZS} {xs:List V} (h:S.has X.K H xs) {v:Value} (r:RelV S.v v):∃ (o:Obj) (C:Heap→Prop),Zc4 X.prog X.w v o C∧C s.heap∧o.isFreed=false∧(∀ (h:Heap) (i:Addr),h.get? i=some o→S.it i 0 h)∧∀ a∈S.ad,a < s.heap.objs.size:=by
 cases S with
 | l a =>
  obtain ⟨its,rv,pl,_⟩:=I.list h
  cases r
  refine ⟨_,fun h=>h.IsList a its.toArray,⟨fun h u c=>c.push u,fun A E s Q c q=>wpAny_pyIter_list c q⟩,pl.isList,rfl,fun h i e=>⟨_,e,rfl,rfl⟩,fun b hb=>?_⟩
  obtain ⟨o,ho,_⟩:=pl.isList
  rw [List.mem_singleton.mp hb]
  exact Heap.lt_size ho
 | t a =>
  obtain ⟨its,rv,pl,_⟩:=I.tuple h
  cases r
  refine ⟨_,fun h=>IsTup h a its.toArray,⟨fun h u c=>c.keeps fun b o e=>Heap.get?_push_of_some _ e,fun A E s Q c q=>iter_tuple c q⟩,pl,rfl,fun h i e=>⟨_,e,rfl,rfl⟩,fun b hb=>?_⟩
  rw [List.mem_singleton.mp hb]
  exact pl.lt
 | s x =>
  obtain ⟨ha,rfl⟩:=h
  obtain ⟨t,rfl⟩:=r
  exact ⟨_,fun _=>True,⟨fun h u c=>trivial,fun A E s Q c q=>wpAny_pyIter_ascii ha q⟩,trivial,rfl,fun h i e=>⟨t,_,e,rfl,rfl⟩,fun b hb=>absurd hb List.not_mem_nil⟩
theorem Zky {N:Nat} {f g:List Addr} (h1:∀ a∈f,a < N) (h2:∀ a∈g,a < N):ZA (N + 4) (N + 2) (N + 3) N (N + 1) (N :: f) ((N + 1) :: g):=by
 have nf:∀ k,N + k ∉ f:=fun k z=>absurd (h1 _ z) (Nat.not_lt.mpr (Nat.le_add_right _ _))
 have ng:∀ k,N + k ∉ g:=fun k z=>absurd (h2 _ z) (Nat.not_lt.mpr (Nat.le_add_right _ _))
 have e:∀ {i j:Nat},i≠j→N + i≠N + j:=fun h z=>h (Nat.add_left_cancel z)
 have c1:∀ {k:Nat} {f:List Addr} {i:Addr},N + k≠i→N + k ∉ f→N + k ∉ i :: f:=fun h1 h2 z=>by
  rcases List.mem_cons.mp z with q | q
  ·exact h1 q
  ·exact h2 q
 exact ⟨e (by decide),e (by decide),e (i:=0) (by decide),e (by decide),e (by decide),e (j:=0) (by decide),e (by decide),e (j:=0) (by decide),e (by decide),e (i:=0) (by decide),c1 (e (j:=0) (by decide)) (nf 4),c1 (e (by decide)) (ng 4),c1 (e (j:=0) (by decide)) (nf 3),c1 (e (by decide)) (ng 3),c1 (e (j:=0) (by decide)) (nf 1),c1 (k:=0) (e (by decide)) (ng 0)⟩
noncomputable def Zmq (K:PySem.W.Frag) (ta:TA):TI:=fun σ H R=>ta σ H fun vs H1=>∃ (S T:ZS) (xs ys:List V),vs=[S.v,T.v]∧S.has K H1 xs∧T.has K H1 ys∧R (Itz2 K S T) H1
theorem Zj9 {elts:List Expr} {x1:Nat} {tpos p pos:Pos} {l m:Expr} {ta:TA} (hg:Gl X "zip") (hm:X.mg "zip"=none) (ha:PA X [l,m] ta) (hs:starEach [l,m] X.env=[(false,eval l X.env),(false,eval m X.env)]:=by rfl) (hs2:starEach [m] X.env=[(false,eval m X.env)]:=by rfl) :
  PI X (.Tuple elts x1 tpos) (.Call (.Name "zip" p) [l,m] [] pos) (Zmq X.K ta):=by
 intro pins s σ H R I h
 refine Call_ (Xs I hg hm boot_zip (PyProof.Rows.callWith_type1 (thn (ha pos pins s σ H _ I h) fun us s1 ⟨vs,H1,I1,r1,q1⟩=>?_) (by rw [hs,hs2]) (by rw [hs2]; rfl)))
 obtain ⟨S,T,xs,ys,e,hqx,hqy,q⟩:=q1
 subst e
 obtain ⟨u,v,rfl,ru,rv⟩:=r1.two
 obtain ⟨o1,C1,i1,c1,f1,t1,l1⟩:=ZS.iter I1 hqx ru
 obtain ⟨o2,C2,i2,c2,f2,t2,l2⟩:=ZS.iter I1 hqy rv
 refine Zhi i1 i2 c1 c2 (fun h' z1 z2 z3 z4 z5 z7=>wpAny_pyIter_zip z1 ?_) f1 f2
 have I2:Inv X pins σ H1 { s1 with heap:=h' }:=I1.kept (t':=s1.toks) z7
 generalize hN:s1.heap.objs.size=N at *
 have n1:N ∉ S.ad:=fun z=>Nat.lt_irrefl _ (l1 _ z)
 have n2:N + 1 ∉ T.ad:=fun z=>absurd (l2 _ z) (Nat.not_lt.mpr (Nat.le_succ _))
 refine ⟨N + 4,[N + 4,N + 2,N + 3,N,N + 1],_,_,H1,rfl,I2,Zfx S T (N + 4) (N + 2) (N + 3) N (N + 1) (Zky l1 l2) n1 n2,⟨z1,z2,⟨_,_,z3⟩,t1 _ _ z4,t2 _ _ z5⟩,fun c hc=>?_,q⟩
 have hc:s1.heap.objs.size≤c:=by
  have hc:c=N + 4∨c=N + 2∨c=N + 3∨c=N∨c=N + 1:=by simpa using hc
  rw [hN]
  rcases hc with rfl | rfl | rfl | rfl | rfl
  ·exact Nat.le_add_right _ _
  ·exact Nat.le_add_right _ _
  ·exact Nat.le_add_right _ _
  ·exact Nat.le_refl _
  ·exact Nat.le_add_right _ _
 exact I1.fpOk hc (I1.hok.fresh hc)
theorem Ziy {K:PySem.W.Frag} {S T:ZS} {xs ys:List V} {g:TG} {tb:TS} {D:Ends} {σ:St} {H:Hp} (hlen:xs.length=ys.length) (Pv:Nat→St→Hp→Prop) (h0:Pv 0 σ H) (hl:∀ i σ H,i≤xs.length→Pv i σ H→S.has K H xs∧T.has K H ys)
  (hs:∀ i x y σ H q,xs[i]?=some x→ys[i]?=some y→H q=none→Pv i σ H→g (.ref q) σ (upd H q (.tup [x,y])) fun σ2 H2=>tb { D with nx:=Pv (i + 1),ct:=Pv (i + 1),bk:=D.nx } σ2 H2) (hd:∀ σ H,Pv xs.length σ H→D.nx σ H) :
  ∃ W:Nat→Nat→St→Hp→Prop,(∃ m,W 0 m σ H)∧∀ i m σ H,W i m σ H →
   ((Itz2 K S T).stop i H∧D.nx σ H)∨((Itz2 K S T).go i H∧∃ N:St→Hp→Prop,(∀ σ' H',N σ' H'→∃ m',m' < m∧W (i + 1) m' σ' H')∧∀ x H',(Itz2 K S T).yld i H x H'→g x σ H' fun σ2 H2=>tb { D with nx:=N,ct:=N,bk:=D.nx } σ2 H2):=by
 refine ⟨fun i m σ H=>m=xs.length - i∧i≤xs.length∧Pv i σ H,⟨xs.length,by simp,Nat.zero_le _,h0⟩,?_⟩
 rintro i m σ H ⟨rfl,hi,p⟩
 obtain ⟨q1,q2⟩:=hl i σ H hi p
 by_cases hlt:i < xs.length
 ·have hlt2:i < ys.length:=by omega
  refine .inr ⟨⟨xs,ys,xs[i],ys[i],q1,q2,by simp [hlt],by simp [hlt2]⟩,Pv (i + 1),fun σ' H' p'=>⟨xs.length - (i + 1),by omega,rfl,hlt,p'⟩,fun x H' y=>?_⟩
  obtain ⟨c,u,v,hn,e1,y1,y2,e2⟩:=y
  subst e1 e2
  exact hs i u v σ H c (y1 xs q1) (y2 ys q2) hn p
 ·have e:i=xs.length:=by omega
  subst e
  exact .inl ⟨⟨xs,ys,q1,q2,rfl,hlen⟩,hd σ H p⟩
end
end L2
set_option maxHeartbeats 1000000
namespace L2
open PySem PySem.Spec PyProof.Rows
end L2
set_option maxHeartbeats 1000000
namespace L2
open PySem PySem.Spec PyProof.Rows
end L2
set_option maxHeartbeats 4000000
namespace L2
open PySem PySem.Spec PyProof.Rows
end L2
set_option maxHeartbeats 4000000
namespace L2
open PySem PySem.Spec PyProof.Rows
theorem Zik:typeLookup (.type "list_reverseiterator") "__len__"=pure none:=by
 rw [typeLookup_type]
 rw [builtinLookup_eq_fast]
 kernel_rfl
theorem Zkp:typeLookup (.type "list_reverseiterator") "__length_hint__"=pure (some (.builtin "list_reverseiterator.__length_hint__")):=by
 rw [typeLookup_type]
 rw [builtinLookup_eq_fast]
 kernel_rfl
section
variable {prog:Program} {w:World} {A:Around} {E:Value→Shared→Prop} {s:Shared}
theorem Zfo {I:Addr} {fp wr:List Addr} {G:Array GenState→Array GenState→Prop} {n:Nat} {P:Nat→Value→Prop} {St:Nat→Shared→Prop} {Q:List Value→Shared→Prop}
  (W:WalksS prog w A.in1 I fp wr G n P St) (hT:∀ i z,St i z→z.TypeIs (.ref I) "list_reverseiterator") (h0:St 0 s) (hlt:∀ b∈fp,b < s.heap.objs.size) (hI:I∈fp)
  (q:∀ z acc,Moved wr G s z→ItemsOf P acc n→Q acc.toList z) (hn:n≤sizeLine):wpAny (model prog w) A (collect (.ref I)) Q E s:=by
 have nf:s.heap.objs.size ∉ fp:=fun z=>absurd (hlt _ z) (Nat.lt_irrefl _)
 have ni:s.heap.objs.size≠I:=fun z=>nf (by rw [z]; exact hI)
 unfold collect
 refine wpAny_bind ?_
 refine wpAny_runValue ?_
 refine codeAny_builtin F.entry_proto_collect ?_
 rw [Around.under_plainId F.plain_proto_collect _]
 refine wpAny_bind (m:=newList []) ?_
 refine wpAny_newObj_type ?_
 refine wpAny_pure ?_
 refine ⟨plainId_quiet F.plain_list_iadd _,?_⟩
 refine codeAny_builtin F.entry_list_iadd ?_
 rw [Around.under_plainId F.plain_list_iadd _]
 have k:∀ b o,s.heap.get? b=some o→(s.heap.push { cls:=.type "list",data:=.seq ([]:List Value).toArray }).get? b=some o:=fun b o e=>Heap.get?_push_of_some _ e
 have h1:=W.frame 0 s _ s.toks h0 (Nat.le_refl _) fun b _ o e=>k b o e
 have hS:(s.heap.push { cls:=.type "list",data:=.seq ([]:List Value).toArray }).get? s.heap.objs.size=some { cls:=.type "list",data:=.seq ([]:List Value).toArray }:=Heap.get?_push_size _ rfl
 have ns:Builtin.List.listSameRef (.ref s.heap.objs.size) (.ref I)=false:=by
  unfold Builtin.List.listSameRef
  simp [ni]
 show wpAny _ A.in1 (Builtin.List.listExtendWith (.ref s.heap.objs.size) (.ref I) (.ref s.heap.objs.size)) _ _ _
 unfold Builtin.List.listExtendWith
 refine wpAny_bind ?_
 refine wpAny_typeOf (hT 0 _ h1) ?_
 rw [if_neg (by rw [ns]; decide)]
 refine wpAny_bind ?_
 refine W.self 0 _ _ _ h1 ?_
 refine wpAny_bind ?_
 refine wpAny_holding ?_
 unfold Builtin.List.listLengthHint
 refine wpAny_bind ?_
 refine wpAny_specialOf (hT 0 _ h1) Zik ?_
 refine wpAny_bind (m:=specialOf (.ref I) (Str.ofString "__length_hint__")) ?_
 refine wpAny_specialOf (hT 0 _ h1) Zkp ?_
 generalize hid:("list_reverseiterator.__length_hint__":String)=nmId
 (fail_if_success (clear hid nmId))
 wp_delta
 rw [show splitId nmId=some ("list_reverseiterator","__length_hint__") by rw [← hid]; decide +kernel]
 subst hid
 refine wpAny_bind ?_
 refine wpAny_isInstance (b:=true) (hT 0 _ h1) (by rw [isSubtype_type]; kernel_rfl) ?_
 refine wpAny_pure ?_
 rw [if_neg (by decide)]
 refine wpAny_pure ?_
 refine ⟨plainId_quiet F.plain_extend_loop _,?_⟩
 refine codeAny_extend_loopS W hn _ nf _ n 0 _ _ _ rfl (Nat.zero_le _) h1 hS (ItemsOf.nil P) fun z acc c hm hz ha=>?_
 show wpAny _ A (load s.heap.objs.size >>= _) _ _ z
 refine wpAny_bind ?_
 refine wpAny_load hz ?_
 refine wpAny_pure ?_
 exact q z acc (Moved.drop_new (o:={ cls:=.type "list",data:=.seq ([]:List Value).toArray }) (tk:=s.toks) hm (Nat.le_refl _)) ha
theorem Zkn {I l:Addr} {its:List Value} {ys:List Str} {x:Str} {t:Tok} {Q:Value→Shared→Prop} (hh:A.handled=none) (hne:l≠I) (hit:s.heap.IsRevIter I l ((its.length:Int) - 1)) (hl:s.heap.IsList l its.toArray)
  (hi:StrsAre its ys) (hsep:x.length≤16) (hw:(ys.map (·.length)).sum + ys.length≤1048576)
  (q:∀ h' t' k,(∀ b o,b≠I→s.heap.get? b=some o→h'.get? b=some o)→Q (.str (Txt.join x ys.reverse) t') { s with heap:=h',toks:=k }):wpAny (model prog w) A (call (.builtin "str.join") [.str x t,.ref I]) Q E s:=by
 have W:=(Walks.listRev (prog:=prog) (w:=w) (A:=A.in1.in1) hh I l hne its.toArray).toS
 have hT:∀ i (z:Shared),(i≤its.toArray.size∧z.heap.IsRevIter I l ((its.toArray.size:Int) - 1 - (i:Int))∧z.heap.IsList l its.toArray)→z.TypeIs (.ref I) "list_reverseiterator":=fun i z h=>h.2.1.typeIs
 have h0:0≤its.toArray.size∧s.heap.IsRevIter I l ((its.toArray.size:Int) - 1 - ((0:Nat):Int))∧s.heap.IsList l its.toArray:=⟨Nat.zero_le _,by simpa using hit,hl⟩
 have hly:its.length=ys.length:=hi.length
 refine wpAny_call ?_
 refine codeAny_call_builtin F.slot_str_join.plain F.entry_str_join ?_
 refine F.slot_str_join.check _ _ _ _ _ _ _ _ (typeIs_str _ _ _) (F.args_str_join_2 _ _) ?_
 rw [join_tree_other]
 refine wpAny_bind ?_
 refine wpAny_typeOf (hT 0 s h0) ?_
 show wpAny _ A.in1 ((pyIter (.ref I)).tryCatch _ >>= fun it=>collect it >>= fun zs=>joinTail x zs) _ _ s
 refine wpAny_bind ?_
 refine wpAny_tryCatch ?_
 refine W.of_in1.self 0 s _ _ h0 ?_
 refine wpAny_bind ?_
 have hlt:∀ b∈[I,l],b < s.heap.objs.size:=fun b hb=>by
  rcases List.mem_cons.mp hb with z | z
  ·obtain ⟨o,e,_⟩:=hit.typeIs
   subst z
   exact Heap.lt_size e
  ·rw [List.mem_singleton.mp z]
   obtain ⟨o,e,_⟩:=hl
   exact Heap.lt_size e
 refine Zfo W hT h0 hlt List.mem_cons_self (fun z acc hm ha=>?_) (by rw [List.size_toArray,sizeLine_eq]; omega)
 have ea:acc.toList=its.reverse:=by
  refine List.ext_getElem? fun j=>?_
  have hz:acc.size=its.length:=ha.1.trans List.size_toArray
  by_cases c:j < its.length
  ·have hj:j < acc.size:=by omega
   have h2:=ha.2 j _ (Array.getElem?_eq_getElem hj)
   rw [Array.getElem?_toList,Array.getElem?_eq_getElem hj,List.getElem?_reverse c,← h2]
   simp
  ·rw [List.getElem?_eq_none (by rw [Array.length_toList]; omega),List.getElem?_eq_none (by rw [List.length_reverse]; omega)]
 obtain ⟨ps,hps⟩:=exists_strValues its.reverse fun v hv=>hi.all v (List.mem_reverse.mp hv)
 have ey:ps.map (·.1)=ys.reverse:=by
  rw [← hi.strs,← List.map_reverse,← hps]
  unfold strValues
  rw [List.map_map]
  rfl
 rw [ea,← hps]
 have ok:JoinOk x (ps.map (·.1))=true:=joinOk_of_weight (by rw [ey]; simpa using hw) hsep
 unfold JoinOk at ok
 rw [Bool.not_eq_true'] at ok
 have g:Gives (joinTail x (strValues ps)) (joinMade x ps):=by
  have g0:=gives_joinTail x ps ok
  rcases ps with _ | ⟨p,_ | ⟨p',r⟩⟩
  ·exact g0
  ·exact g0
  ·exact g0
 refine g prog w A (wants Q E) z (post_join ps ⟨joinFit_length ok,fun t' k=>?_⟩)
 rw [ey]
 obtain ⟨zh,zg,zd,zt,zo⟩:=z
 obtain ⟨m1,m2,m3,m4,m5⟩:=hm
 have m2:zg=s.gens:=m2
 have m3:zd=s.drawn:=m3
 have m4:zo=s.os:=m4
 subst m2 m3 m4
 exact q zh t' k fun b o hb e=>m1 b o (fun z=>hb (List.mem_singleton.mp z)) e
end
section
variable {X:Cx}
noncomputable def Zhs (K:PySem.W.Frag) (to:TE) (ta:TA):TE:=fun σ H Q=>to σ H fun x H1=>∃ sep,x=.str sep∧ta σ H1 fun vs H2=>∃ a ys,vs=[.ref a]∧SqL K H2 a (List.map V.str ys)∧sep.length≤16∧(ys.map (·.length)).sum + ys.length≤1048576∧Q (.str (Txt.join sep ys.reverse)) H2
theorem Ze5 {o l:Expr} {to:TE} {ta:TA} {p1 apos cpos pos1:Pos} (hg:Gl X "reversed") (hm:X.mg "reversed"=none) (hc:X.calm=true) (ho:PE X o to) (ha:PA X [l] ta)
  (hbase:attributeBase o "join" X.env (eval o X.env)=eval o X.env:=by rfl)
  (hfew:((backTo cpos (starEach [.Call (.Name "reversed" p1) [l] [] pos1] X.env)).all (fun x=>!x.1) && (backToKw cpos (keywordEach [] X.env)).all (fun x=>x.1.isSome)
   && decide ([Expr.Call (.Name "reversed" p1) [l] [] pos1].length + ([]:List Keyword).length + (if ([]:List Keyword).isEmpty then 0 else 1) < 30))=true:=by rfl)
  (hline:(apos.endLine == cpos.line)=true:=by rfl) (hs:starEach [.Call (.Name "reversed" p1) [l] [] pos1] X.env=[(false,eval (.Call (.Name "reversed" p1) [l] [] pos1) X.env)]:=by rfl) (hsl:starEach [l] X.env=[(false,eval l X.env)]:=by rfl) :
  PE X (.Call (.Attribute o "join" apos) [.Call (.Name "reversed" p1) [l] [] pos1] [] cpos) (Zhs X.K to ta):=by
 intro pins s σ H Q I h
 refine wpAny_Call_method_late hbase hfew hline rfl (thn (ho pins s σ H _ I h) fun v s1 zz9=>?_)
 obtain ⟨x,H1,I1,r1,q1⟩:=zz9
 obtain ⟨sep,rfl,q1⟩:=q1
 obtain ⟨h1,h2⟩:=Za2 (T:="str") I1 r1 (by first | rfl | exact trivial)
 refine ⟨"str","str.join",PySem.F.plainAttrs_str,PySem.F.slot_str_join,PySem.F.type_str_join,h1,h2,?_⟩
 obtain ⟨t,rfl⟩:=r1
 rw [hs]
 refine Calls.callWith_builtin rfl (Calls.evalArgs_plain ?_)
 refine Calls.spliced_cons ?_
 refine Call_ (Xs I1 hg hm boot_reversed (PyProof.Rows.callWith_type1 (thn (ha pos1 pins s1 σ H1 _ I1 q1) fun us s2 zz37=>?_) hsl rfl))
 obtain ⟨vs,H2,I2,r2,q2⟩:=zz37
 obtain ⟨a,ys,e,hq,w1,w2,q⟩:=q2
 subst e
 obtain ⟨u,rfl,ru⟩:=Xw r2
 cases ru
 obtain ⟨its,rv,pl,_⟩:=I2.list hq
 refine call_reversed_list pl.isList ?_
 refine Calls.spliced_nil ?_
 have I3:Inv X pins σ H2 { s2 with heap:=s2.heap.push (revObj a ((its.toArray.size:Int) - 1)) }:=I2.kept (t':=s2.toks) fun b o e=>Heap.get?_push_of_some _ e
 have ne:a≠s2.heap.objs.size:=fun z=>by
  obtain ⟨o,e,_⟩:=pl.isList
  exact Nat.ne_of_lt (Heap.lt_size e) z
 have hl3:(s2.heap.push (revObj a ((its.toArray.size:Int) - 1))).IsList a its.toArray:=pl.isList.at fun o e=>Heap.get?_push_of_some _ e
 have hit:(s2.heap.push (revObj a ((its.toArray.size:Int) - 1))).IsRevIter s2.heap.objs.size a ((its.length:Int) - 1):=by
  rw [show ((its.length:Int) - 1)=((its.toArray.size:Int) - 1) by simp]
  exact ⟨_,Heap.get?_push_size _ rfl,rfl,rfl⟩
 refine Zkn (I2.ok.hd hc) ne hit hl3 (by simpa using Kr rv) w1 w2 fun h' t' k hk=>?_
 refine ⟨.str _,H2,I2.kept (t':=k) fun b o e=>hk b o (fun z=>?_) (Heap.get?_push_of_some _ e),⟨_,rfl⟩,q⟩
 exact Nat.ne_of_lt (Heap.lt_size e) z
end
end L2
set_option maxHeartbeats 4000000
namespace L2
open PySem PySem.Spec PyProof.Rows
section
variable {X:Cx}
theorem Zlo:OpR X (compareOp .In) (fun x y H Q=>∃ a b,x=.str a∧y=.str b∧Q (.bl (Txt.contains b a)) H):=by
 intro pins s σ H x y v u Q I rx ry h
 obtain ⟨a,b,rfl,rfl,q⟩:=h
 obtain ⟨t,rfl⟩:=rx
 obtain ⟨t',rfl⟩:=ry
 exact PySem.SB.contains ⟨.bl _,H,I,rfl,q⟩
theorem Zc3 (K:PySem.W.Frag) (h:X.K=K:=by rfl):Xt X (.builtin "isinstance") (fun xs H Q=>∃ x T t b,xs=[x,V.ty T]∧TyOf K H x t∧PySem.W.kitOne K t (.type T)=some b∧Q (V.bl b) H):=h ▸ We
end
end L2
set_option maxHeartbeats 4000000
namespace L2
open PySem PySem.Spec PyProof.Rows
theorem Za5 {P:Program} {w:World} {kvs:List (Key × V)} {vs:List (Key × Value)} {ks:List Str} (rel:KV kvs vs) (hk:kvs.map (·.1)=ks.map Sum.inr) {us:List Value} (hl:us.length=vs.length)
  (hu:∀ (j:Nat) (v:Value),us[j]?=some v→∃ k x,vs[j]?=some (k,x)∧(Z9 P w).is k v=true):StrsAre us ks:=by
 have hkl:kvs.length=ks.length:=by have:=congrArg List.length hk; simpa using this
 have hvl:kvs.length=vs.length:=rel.length
 have key:∀ (j:Nat) (v:Value),us[j]?=some v→∃ i t,ks[j]?=some i∧v=Value.str i t:=fun j v hv=>by
  obtain ⟨k,x,hx,hi⟩:=hu j v hv
  have e1:(vs.map (·.1))[j]?=some k:=by rw [List.getElem?_map,hx]; rfl
  have e2:vs.map (·.1)=kvs.map (·.1):=by
   clear hk hl hu hkl hvl hx hi e1
   induction rel with
   | nil=>rfl
   | cons r t ih=>rw [List.map_cons,List.map_cons,ih,r.1]
  rw [e2,hk,List.getElem?_map] at e1
  cases q:ks[j]? with
  | none=>rw [q] at e1; cases e1
  | some i =>
   rw [q] at e1
   have e3:Sum.inr i=k:=Option.some.inj e1
   subst e3
   have hi':Q4 (Sum.inr i) v=true:=hi
   rcases Yw hi' with ⟨_,_,e,_⟩ | ⟨x',t,e,rfl⟩
   ·cases e
   ·cases e; exact ⟨_,t,rfl,rfl⟩
 have gen:∀ (us:List Value) (ks:List Str),us.length=ks.length→(∀ (j:Nat) (v:Value),us[j]?=some v→∃ i t,ks[j]?=some i∧v=Value.str i t)→StrsAre us ks:=by
  intro us
  induction us with
  | nil =>
   intro ks hl _
   cases ks with
   | nil=>exact .nil
   | cons _ _=>simp at hl
  | cons u r ih =>
   intro ks hl h
   cases ks with
   | nil=>simp at hl
   | cons i ks =>
    obtain ⟨i',t,e1,e2⟩:=h 0 u rfl
    have e1':i=i':=by simpa using e1
    subst e1' e2
    exact .cons i t (ih ks (by simpa using hl) fun j v hv=>h (j + 1) v (by simpa using hv))
 exact gen us ks (by omega) key
section
variable {X:Cx}
theorem Zay (hc:X.calm=true):Xt X (.builtin "sorted") (fun xs H Q=>∃ (d:Addr) (kvs:List (Key × V)) (ks:List Str),xs=[.ref d]∧Rd H d (.dK kvs)∧kvs.map (·.1)=ks.map Sum.inr∧ks.length < 64 ∧
  ∀ (p:Addr) (out:List Str),H p=none→out.Perm ks→sortedS out=true→Q (.ref p) (upd H p (.lst (out.map V.str)))):=by
 intro pins s σ H xs us Q I r h
 obtain ⟨d,kvs,ks,rfl,hd,hk,h64,q⟩:=h
 obtain ⟨u,rfl,ru⟩:=Xw r
 obtain rfl:u=Value.ref d:=ru
 obtain ⟨z,hsys,vs,rel,dd⟩:=J9 I.hok hd
 obtain ⟨ep,hat⟩:=dd.dictAt
 have hlen:vs.length=ks.length:=by have:=congrArg List.length hk; rw [List.length_map,List.length_map] at this; have:=rel.length; omega
 have hn:vs.length≤sizeLine:=by rw [sizeLine_eq]; omega
 refine Calls.call_function_entry kind_sorted plain_sorted entry_sorted (args_sorted1 _) ?_
 unfold Builtin.«sorted»
 refine wpAny_bind (m:=checkCount "sorted" 1 1 _) (wpAny_pure ?_)
 refine wpAny_bind (PySem.W.kdu_collect (A:=X.A.in1) (PySem.W.kdl_dict (knd:=Z9 X.prog X.w) (kvs:=vs) (ep:=ep) hsys) (I.ok.hd hc) hat hn fun h' tk acc hk' hacc=>?_)
 have hl:acc.toList.length=vs.length:=by rw [Array.length_toList]; exact hacc.1
 have hI:StrsAre acc.toList ks:=Za5 (P:=X.prog) (w:=X.w) rel hk hl fun j v hv=>hacc.2 j v (by rw [← Array.getElem?_toList]; exact hv)
 refine wpAny_bind (wpAny_newList ?_ (by rw [hl]; exact hn))
 have I1:Inv X pins σ H { s with heap:=h',toks:=tk }:=I.kept hk'
 have hoL:(h'.push { cls:=.type "list",data:=.seq acc.toList.toArray }).get? h'.objs.size=some (seqObj "list" acc.toList.toArray 0):=Heap.get?_push_size _ rfl
 refine wpAny_bind (wpAny_holding (wpAny_call_entry slot_list_sort ⟨_,hoL,rfl⟩ entry_list_sort (list_sort_treeK strKind_oneLt hoL hI.keysOf (fun v₁ v₂ rest e=>keyKind_strs (by rw [← e]; exact hI)) (by omega) fun st' hp hs=>⟨_,rfl,?_⟩) (args_list_sort _)))
 refine wpAny_pure ⟨_,rfl,?_⟩
 obtain ⟨ns',a1,a2,a3⟩:=sorted_out_str hI hp hs
 generalize (arrOf st').map (·.2)=out at a1
 obtain ⟨e,he⟩:=sortedHeap_at (out:=out) hoL
 have kp:∀ b u,h'.get? b=some u→(sortedHeap (h'.push { cls:=.type "list",data:=.seq acc.toList.toArray }) h'.objs.size acc.toList out).get? b=some u:=fun b u hb=>by
  have hlt:b < h'.objs.size:=Heap.lt_size hb
  rw [sortedHeap_old (Nat.ne_of_lt hlt) (by rw [Heap.size_push]; exact Nat.lt_succ_of_lt hlt)]
  exact Heap.get?_push_of_some _ hb
 have hv:Vals (ns'.map V.str) out.toList:=by
  clear he kp
  generalize out.toList=l at a1
  clear a2 a3
  induction a1 with
  | nil=>exact .nil
  | cons i t _ ih=>exact .cons ⟨_,rfl⟩ ih
 refine ⟨.ref h'.objs.size,upd H h'.objs.size (.lst (ns'.map V.str)),I1.laid kp (Nat.le_refl _) ?_,rfl,q _ ns' I1.fresh a2 a3⟩
 refine ⟨?_,out.toList,e,hv,?_⟩
 ·rw [List.length_map,a2.length_eq,sizeLine_eq]; omega
 ·rw [he]
noncomputable def Asc (x:Str):Prop:=∀ c∈x.cps.toList,c < 128
theorem Asc.all {x:Str} (h:Asc x):x.cps.all (· < 128)=true:=by
 rw [← Array.all_toList,List.all_eq_true]
 exact fun c hc=>decide_eq_true (h c hc)
end
end L2
set_option maxHeartbeats 4000000
namespace L2
open PySem PySem.Spec PyProof.Rows
end L2
set_option maxHeartbeats 4000000
namespace L2
open PySem PySem.Spec PyProof.Rows
section
variable {X:Cx} {fr:Bool}
theorem Zhj (hc:X.calm=true):Xt X (.builtin "max") (fun xs H Q=>∃ (p:Addr) (ns:List Int),xs=[.ref p]∧SqT X.K H p (ns.map V.int)∧0 < ns.length∧∀ m,m∈ns→(∀ a∈ns,a≤m)→Q (.int m) H):=by
 intro pins s σ H xs us Q I r h
 obtain ⟨p,ns,rfl,hq,hn,q⟩:=h
 obtain ⟨u,rfl,ru⟩:=Xw r
 cases ru
 obtain ⟨its,rv,pl,hz⟩:=I.tuple hq
 have pl:s.heap.IsTuple p its.toArray:=pl
 have lt:p < s.heap.objs.size:=by obtain ⟨o,ho,_⟩:=pl; exact Heap.lt_size ho
 have hlen:its.toArray.size=ns.length:=by have:=rv.length; rw [List.length_map] at this; simp; omega
 have W:=Ziv (pins:=pins) (σ:=σ) (H:=H) (s:=s) rv
 refine call_max_walk (wpAny_pyIter_tuple pl ⟨s.heap.objs.size,_,_,_,_,_,_,rfl,Walks.tuple (A:=X.A.in1) (show X.A.in1.handled=none from I.ok.hd hc) s.heap.objs.size p (Nat.ne_of_lt lt) its.toArray,⟨⟨_,Heap.get?_push_size _ rfl,rfl,rfl⟩,pl.push _⟩,?_,by rw [hlen]; exact hn,CmpOf.ints_gt (fun i=>ns.getD i 0) W,?_⟩)
 ·intro b hb
  show b < (s.heap.push _).objs.size
  rw [Heap.size_push]
  rcases List.mem_cons.mp hb with rfl | hb
  ·exact Nat.lt_succ_self _
  ·rw [List.mem_singleton.mp hb]; exact Nat.lt_succ_of_lt lt
 ·intro v h' tk hP hk
  have I1:Inv X pins σ H { s with heap:=h',toks:=tk }:=I.kept fun b o e=>hk b o (fun z=>absurd (Heap.lt_size e) (by rw [List.mem_singleton.mp z]; exact Nat.lt_irrefl _)) (Heap.get?_push_of_some _ e)
  rw [hlen] at hP
  obtain ⟨a1,a2⟩:=argBest_gt (fun i=>ns.getD i 0) (ns.length - 1)
  obtain ⟨t,e⟩:=W _ _ hP
  generalize argBest (fun i j=>decide (ns.getD i 0 > ns.getD j 0)) (ns.length - 1)=k at a1 a2 e
  have hk':k < ns.length:=by omega
  have ek:ns.getD k 0=ns[k]:=by rw [List.getD_eq_getElem?_getD,List.getElem?_eq_getElem hk']; rfl
  refine ⟨.int (ns.getD k 0),H,I1,⟨t,e⟩,q _ (by rw [ek]; exact List.getElem_mem hk') fun a ha=>?_⟩
  obtain ⟨j,hj,rfl⟩:=List.mem_iff_getElem.mp ha
  have:=a2 j (by omega)
  have ej:ns.getD j 0=ns[j]:=by rw [List.getD_eq_getElem?_getD,List.getElem?_eq_getElem hj]; rfl
  show ns[j]≤ns.getD k 0
  rw [← ej]; exact this
end
end L2
set_option maxHeartbeats 4000000
namespace L2
open PySem PySem.Spec PyProof.Rows
end L2
set_option maxHeartbeats 4000000
namespace KT
structure Mx where
 a:Nat
 b:Nat
 c:Nat
 d:Nat
namespace Mx
noncomputable def one:Mx:=⟨1,0,0,1⟩
noncomputable def tp (x:Mx):Mx:=⟨x.a,x.c,x.b,x.d⟩
noncomputable def tr (x:Mx):Nat:=x.a + x.d
noncomputable def dg (v:Nat × Nat):Mx:=⟨v.1,0,0,v.2⟩
noncomputable def tu (l:Bool):Mx:=if l then ⟨1,1,0,1⟩ else ⟨1,0,1,1⟩
noncomputable def stp (x:Mx) (q:(Nat × Nat) × Bool):Mx:=if q.2 then ⟨x.a * q.1.1,x.b * q.1.2 + x.a * q.1.1,x.c * q.1.1,x.d * q.1.2 + x.c * q.1.1⟩ else ⟨x.a * q.1.1 + x.b * q.1.2,x.b * q.1.2,x.c * q.1.1 + x.d * q.1.2,x.d * q.1.2⟩
noncomputable def tab (l:List ((Nat × Nat) × Bool)):Mx:=l.foldl stp one
noncomputable def wd:List ((Nat × Nat) × Bool)→List Mx
 | []=>[]
 | q :: l=>dg q.1 :: tu q.2 :: wd l
noncomputable def dt:List ((Nat × Nat) × Bool)→Nat
 | []=>1
 | q :: l=>q.1.1 * q.1.2 * dt l
theorem Zjr {x:Mx} {D:Nat} (q:(Nat × Nat) × Bool) (h:x.a * x.d=x.b * x.c + D):(stp x q).a * (stp x q).d=(stp x q).b * (stp x q).c + D * (q.1.1 * q.1.2):=by
 obtain ⟨v,l⟩:=q
 have h2:x.a * v.1 * (x.d * v.2)=x.b * v.2 * (x.c * v.1) + D * (v.1 * v.2):=by
  have e:x.a * v.1 * (x.d * v.2)=x.a * x.d * (v.1 * v.2):=by simp only [Nat.mul_comm,Nat.mul_left_comm]
  rw [e,h,Nat.add_mul]
  simp only [Nat.mul_comm,Nat.mul_left_comm]
 cases l
 ·show (x.a * v.1 + x.b * v.2) * (x.d * v.2)=x.b * v.2 * (x.c * v.1 + x.d * v.2) + D * (v.1 * v.2)
  rw [Nat.add_mul,Nat.mul_add,h2]
  omega
 ·show x.a * v.1 * (x.d * v.2 + x.c * v.1)=(x.b * v.2 + x.a * v.1) * (x.c * v.1) + D * (v.1 * v.2)
  rw [Nat.add_mul,Nat.mul_add,h2]
  omega
theorem Zcu:∀ (l:List ((Nat × Nat) × Bool)) (x:Mx) (D:Nat),x.a * x.d=x.b * x.c + D→(l.foldl stp x).a * (l.foldl stp x).d=(l.foldl stp x).b * (l.foldl stp x).c + D * dt l
 | [],x,D,h=>by show x.a * x.d=x.b * x.c + D * 1; rw [Nat.mul_one]; exact h
 | q :: l,x,D,h=>by
  rw [List.foldl_cons]
  have:=Zcu l (stp x q) _ (Zjr q h)
  rw [Nat.mul_assoc] at this
  exact this
theorem Zds (l:List ((Nat × Nat) × Bool)):(tab l).a * (tab l).d=(tab l).b * (tab l).c + dt l:=by
 have:=Zcu l one 1 rfl
 rw [Nat.one_mul] at this
 exact this
theorem Gp:∀ {l:List ((Nat × Nat) × Bool)},(∀ q∈l,1≤q.1.1∧1≤q.1.2)→1≤dt l
 | [],_=>Nat.le_refl _
 | q :: l,h=>Nat.mul_pos (Nat.mul_pos (h q List.mem_cons_self).1 (h q List.mem_cons_self).2) (Gp fun p hp=>h p (List.mem_cons_of_mem _ hp))
theorem Zkr (l:List ((Nat × Nat) × Bool)):4 * dt l≤tr (tab l) * tr (tab l):=by
 have h:=Zds l
 have sq:∀ a d:Nat,4 * (a * d)≤(a + d) * (a + d):=fun a d=>by
  rcases Nat.le_total a d with q | q
  ·obtain ⟨k,rfl⟩:=Nat.exists_eq_add_of_le q
   have:(a + (a + k)) * (a + (a + k))=4 * (a * (a + k)) + k * k:=by
    simp only [Nat.add_mul,Nat.mul_add,Nat.mul_comm k a]
    omega
   omega
  ·obtain ⟨k,rfl⟩:=Nat.exists_eq_add_of_le q
   have:((d + k) + d) * ((d + k) + d)=4 * ((d + k) * d) + k * k:=by
    simp only [Nat.add_mul,Nat.mul_add,Nat.mul_comm k d]
    omega
   omega
 have:=sq (tab l).a (tab l).d
 unfold tr
 omega
theorem Zlc {x:Mx} {B k:Nat} (q:(Nat × Nat) × Bool) (h:x.a≤B∧x.b≤B∧x.c≤B∧x.d≤B) (h1:q.1.1≤k) (h2:q.1.2≤k):(stp x q).a≤B * (2 * k)∧(stp x q).b≤B * (2 * k)∧(stp x q).c≤B * (2 * k)∧(stp x q).d≤B * (2 * k):=by
 obtain ⟨v,l⟩:=q
 obtain ⟨a,b,c,d⟩:=h
 have e:B * (2 * k)=B * k + B * k:=by rw [Nat.two_mul,Nat.mul_add]
 have a1:=Nat.mul_le_mul a h1
 have b1:=Nat.mul_le_mul b h2
 have c1:=Nat.mul_le_mul c h1
 have d1:=Nat.mul_le_mul d h2
 dsimp only at a1 b1 c1 d1
 rw [e]
 cases l
 ·show x.a * v.1 + x.b * v.2≤_∧x.b * v.2≤_∧x.c * v.1 + x.d * v.2≤_∧x.d * v.2≤_
  omega
 ·show x.a * v.1≤_∧x.b * v.2 + x.a * v.1≤_∧x.c * v.1≤_∧x.d * v.2 + x.c * v.1≤_
  omega
theorem Og {k:Nat}:∀ (l:List ((Nat × Nat) × Bool)) (x:Mx) (B:Nat),(∀ q∈l,q.1.1≤k∧q.1.2≤k)→(x.a≤B∧x.b≤B∧x.c≤B∧x.d≤B)→(l.foldl stp x).a≤B * (2 * k) ^ l.length∧(l.foldl stp x).b≤B * (2 * k) ^ l.length∧(l.foldl stp x).c≤B * (2 * k) ^ l.length∧(l.foldl stp x).d≤B * (2 * k) ^ l.length
 | [],x,B,_,h=>by simpa using h
 | q :: l,x,B,hq,h=>by
  rw [List.foldl_cons,List.length_cons,Nat.pow_succ',← Nat.mul_assoc]
  exact Og l _ _ (fun p hp=>hq p (List.mem_cons_of_mem _ hp)) (Zlc q h (hq q List.mem_cons_self).1 (hq q List.mem_cons_self).2)
noncomputable def sca:List ((Nat × Nat) × Bool)→List ((Nat × Nat) × Bool)→Nat→Prop
 | [],[],G=>G=1
 | p :: l,q :: m,G=>∃ g G',p.2=q.2∧p.1.1=g * q.1.1∧p.1.2=g * q.1.2∧sca l m G'∧G=g * G'
 | _,_,_=>False
theorem Zdu:∀ {l m:List ((Nat × Nat) × Bool)} {G:Nat},sca l m G→∀ (x y:Mx) (k:Nat),x.a=k * y.a→x.b=k * y.b→x.c=k * y.c→x.d=k * y.d→(l.foldl stp x).a=k * G * (m.foldl stp y).a∧(l.foldl stp x).d=k * G * (m.foldl stp y).d∧dt l=G * G * dt m
 | [],[],G,h,x,y,k,h1,h2,h3,h4=>by
  have h:G=1:=h
  subst h
  simp only [List.foldl_nil,Nat.mul_one,dt]
  exact ⟨h1,h4,trivial⟩
 | (v,t) :: l,(u,s) :: m,G,h,x,y,k,h1,h2,h3,h4=>by
  obtain ⟨g,G',e1,e2,e3,hs,rfl⟩:=h
  dsimp only at e1 e2 e3
  subst e1
  have key:=Zdu hs (stp x (v,t)) (stp y (u,t)) (k * g) ?_ ?_ ?_ ?_
  ·rw [List.foldl_cons,List.foldl_cons]
   refine ⟨by rw [key.1,Nat.mul_assoc k],by rw [key.2.1,Nat.mul_assoc k],?_⟩
   show v.1 * v.2 * dt l=g * G' * (g * G') * (u.1 * u.2 * dt m)
   rw [key.2.2,e2,e3]
   simp only [Nat.mul_comm,Nat.mul_left_comm,Nat.mul_assoc]
  all_goals
   cases t <;> simp only [stp,if_true,if_false,Bool.false_eq_true,h1,h2,h3,h4,e2,e3,Nat.mul_add] <;> simp only [Nat.mul_comm,Nat.mul_left_comm]
 | [],_ :: _,_,h,_,_,_,_,_,_,_=>h.elim
 | _ :: _,[],_,h,_,_,_,_,_,_,_=>h.elim
end Mx
end KT
set_option maxHeartbeats 4000000
namespace KT
open PySem L2 Mx
noncomputable def loS (s:Nat × Nat) (f:Nat):Nat × Nat:=(s.1 / Nat.gcd s.1 f,s.2 * (f / Nat.gcd s.1 f))
theorem Zlu {s:Nat × Nat} {f N D:Nat} (h:Val s N D) (hf:0 < f):Val (loS s f) N (D * f):=by
 have g0:0 < Nat.gcd s.1 f:=Nat.gcd_pos_of_pos_left _ h.p1
 obtain ⟨a,ha⟩:=Nat.gcd_dvd_left s.1 f
 obtain ⟨b,hb⟩:=Nat.gcd_dvd_right s.1 f
 have ea:s.1 / Nat.gcd s.1 f=a:=by rw [Nat.div_eq_iff_eq_mul_right g0 (Nat.gcd_dvd_left _ _)]; exact ha
 have eb:f / Nat.gcd s.1 f=b:=by rw [Nat.div_eq_iff_eq_mul_right g0 (Nat.gcd_dvd_right _ _)]; exact hb
 have co:Nat.gcd a b=1:=by rw [← ea,← eb,Nat.gcd_div (Nat.gcd_dvd_left _ _) (Nat.gcd_dvd_right _ _),Nat.div_self g0]
 have e:=h.eq
 have c0:=h.co
 unfold loS
 rw [ea,eb]
 generalize Nat.gcd s.1 f=m at *
 have p1:=h.p1
 have p2:=h.p2
 rw [ha] at p1 e c0
 rw [hb] at hf
 refine ⟨Nat.pos_of_mul_pos_left p1,Nat.mul_pos p2 (Nat.pos_of_mul_pos_left hf),?_,?_⟩
 ·exact Nat.Coprime.mul_right (Nat.Coprime.coprime_mul_left c0) co
 ·show a * (D * f)=s.2 * b * N
  rw [hb]
  calc a * (D * (m * b))=m * a * D * b:=by ac_rfl
   _=s.2 * b * N:=by rw [e]; ac_rfl
noncomputable def prd (fs:List Nat):Nat:=fs.foldl (· * ·) 1
theorem Kf {fs:List Nat} {i f:Nat} (h:fs[i]?=some f):prd (fs.take (i + 1))=prd (fs.take i) * f:=by
 unfold prd
 rw [List.take_add_one,h,List.foldl_append]
 rfl
theorem Zea {fs:List Nat} {s:Nat × Nat} {i f:Nat} (h:fs[i]?=some f):(fs.take (i + 1)).foldl loS s=loS ((fs.take i).foldl loS s) f:=by
 rw [List.take_add_one,h,List.foldl_append]
 rfl
theorem Fb {fs:List Nat} {N:Nat} (hN:0 < N) (hf:∀ f∈fs,0 < f):∀ i,i≤fs.length→Val ((fs.take i).foldl loS (N,1)) N (prd (fs.take i))
 | 0,_=>⟨hN,Nat.one_pos,Nat.gcd_one_right _,by show N * 1=1 * N; omega⟩
 | i + 1,h=>by
  have e:=List.getElem?_eq_getElem (show i < fs.length by omega)
  rw [Zea e,Kf e]
  exact Zlu (Fb hN hf i (by omega)) (hf _ (List.getElem_mem _))
theorem G6 {fs:List Nat} (hf:∀ f∈fs,0 < f):∀ i,i≤fs.length→0 < prd (fs.take i)
 | 0,_=>Nat.one_pos
 | i + 1,h=>by
  rw [Kf (List.getElem?_eq_getElem (show i < fs.length by omega))]
  exact Nat.mul_pos (G6 hf i (by omega)) (hf _ (List.getElem_mem _))
theorem Zgk {fs:List Nat} {k:Nat} (hf:∀ f∈fs,f≤k):∀ i,i≤fs.length→prd (fs.take i)≤k ^ i
 | 0,_=>Nat.le_refl _
 | i + 1,h=>by
  rw [Kf (List.getElem?_eq_getElem (show i < fs.length by omega)),Nat.pow_succ]
  exact Nat.mul_le_mul (Zgk hf i (by omega)) (hf _ (List.getElem_mem _))
theorem Zmo {fs:List Nat} {N:Nat} (hN:0 < N) (hf:∀ f∈fs,0 < f):fs.foldl loS (N,1)=lowN N (prd fs):=by
 have h1:=Fb hN hf fs.length (Nat.le_refl _)
 have h2:=G6 hf fs.length (Nat.le_refl _)
 rw [List.take_length] at h1 h2
 exact h1.uniq (Qc hN h2) h2
theorem Val.le {v:Nat × Nat} {N D:Nat} (h:Val v N D) (hN:0 < N) (hD:0 < D):v.1≤N∧v.2≤D:=by
 rw [h.uniq (Qc hN hD) hD]
 exact Oc N D
theorem Zg3 {k m n:Nat} (hk:0 < k) (hm:0 < m) (hn:0 < n):lowN (k * m) (k * n)=lowN m n:=by
 have h:=Qc (Nat.mul_pos hk hm) (Nat.mul_pos hk hn)
 have:Val (lowN (k * m) (k * n)) m n:=⟨h.p1,h.p2,h.co,by
  refine Nat.eq_of_mul_eq_mul_left hk ?_
  have:=h.eq
  rw [Nat.mul_left_comm,this,Nat.mul_left_comm]⟩
 exact this.uniq (Qc hm hn) hn
noncomputable def tuB (y:Str):Bool:=decide (y=sL)
noncomputable def tuL (M:List (Option Nat)) (ws:List Nat):List Bool:=(letL M ws).map tuB
noncomputable def crL (h:Int→Nat × Nat) (ns:List Int) (ws:List Nat):List (Nat × Nat):=ws.map fun p=>h (ns.getD p 0)
noncomputable def wz (h:Int→Nat × Nat) (M:List (Option Nat)) (ns:List Int) (ws:List Nat):List ((Nat × Nat) × Bool):=(crL h ns ws).zip (tuL M ws)
noncomputable def wor (h:Int→Nat × Nat) (M:List (Option Nat)) (ns:List Int) (ws:List Nat):Nat × Nat:=lowN (tr (tab (wz h M ns ws)) * tr (tab (wz h M ns ws))) (dt (wz h M ns ws))
variable {M:List (Option Nat)} {ns:List Int} {ws:List Nat} {h:Int→Nat × Nat}
theorem Fe:(crL h ns ws).length=ws.length:=by unfold crL; simp
theorem Zdq (h0:0 < ws.length):(tuL M ws).length=ws.length:=by unfold tuL; rw [List.length_map,Zcp M ws h0]
theorem Zkz (h0:0 < ws.length):(wz h M ns ws).length=ws.length:=by unfold wz; rw [List.length_zip,Fe,Zdq h0,Nat.min_self]
theorem Zji {k a p:Nat} (ha:ws[k]?=some a) (hp:ws[(k + 1) % ws.length]?=some p):(tuL M ws)[k]?=some (tuB (letS M a p)):=by
 unfold tuL
 rw [List.getElem?_map,Zip ha hp]
 rfl
theorem Zhc:∀ (vs:List (Nat × Nat)) (ts:List Bool),vs.length=ts.length→dt (vs.zip ts)=prd (vs.flatMap fun v=>[v.1,v.2])
 | [],[],_=>rfl
 | v :: vs,t :: ts,e=>by
  have e':vs.length=ts.length:=by simpa using e
  rw [List.zip_cons_cons,List.flatMap_cons]
  show v.1 * v.2 * dt (vs.zip ts)=prd (v.1 :: v.2 :: vs.flatMap fun v=>[v.1,v.2])
  rw [Zhc vs ts e']
  unfold prd
  rw [List.foldl_cons,List.foldl_cons,Nat.one_mul]
  exact (prd_mul _ _).symm
where
 prd_mul:∀ (k:Nat) (fs:List Nat),fs.foldl (· * ·) k=k * fs.foldl (· * ·) 1
  | k,[]=>(Nat.mul_one k).symm
  | k,f :: fs=>by
   rw [List.foldl_cons,List.foldl_cons,prd_mul (k * f) fs,prd_mul (1 * f) fs,Nat.one_mul,Nat.mul_assoc]
theorem Zdt {g:Int→Nat × Nat}:∀ (ps:List Nat) (ts:List Bool),ps.length=ts.length→(∀ p∈ps,1≤(g (ns.getD p 0)).1∧1≤(g (ns.getD p 0)).2)→∃ G,1≤G∧sca ((crL g ns ps).zip ts) ((crL (lowG g) ns ps).zip ts) G
 | [],[],_,_=>⟨1,Nat.le_refl _,rfl⟩
 | p :: ps,t :: ts,e,hp=>by
  obtain ⟨G,hG,hs⟩:=Zdt ps ts (by simpa using e) (fun q hq=>hp q (List.mem_cons_of_mem _ hq))
  obtain ⟨h1,h2⟩:=hp p List.mem_cons_self
  have g0:0 < Nat.gcd (g (ns.getD p 0)).1 (g (ns.getD p 0)).2:=Nat.gcd_pos_of_pos_left _ h1
  refine ⟨_ * G,Nat.mul_pos g0 hG,_,G,rfl,?_,?_,hs,rfl⟩
  ·exact (Nat.mul_div_cancel' (Nat.gcd_dvd_left _ _)).symm
  ·exact (Nat.mul_div_cancel' (Nat.gcd_dvd_right _ _)).symm
theorem Za0 {g:Int→Nat × Nat} (hg:∀ p∈ws,1≤(g (ns.getD p 0)).1∧1≤(g (ns.getD p 0)).2):∀ q∈wz g M ns ws,1≤q.1.1∧1≤q.1.2:=fun q hq=>by
 unfold wz at hq
 obtain ⟨p,hp,e⟩:=List.mem_map.mp (List.of_mem_zip hq).1
 rw [← e]
 exact hg p hp
theorem Zl4 {g:Int→Nat × Nat} {k:Nat} (hg:∀ p∈ws,(g (ns.getD p 0)).1≤k∧(g (ns.getD p 0)).2≤k):∀ q∈wz g M ns ws,q.1.1≤k∧q.1.2≤k:=fun q hq=>by
 unfold wz at hq
 obtain ⟨p,hp,e⟩:=List.mem_map.mp (List.of_mem_zip hq).1
 rw [← e]
 exact hg p hp
theorem Za4 {l:List ((Nat × Nat) × Bool)} (hl:∀ q∈l,1≤q.1.1∧1≤q.1.2):1≤tr (tab l):=by
 have h1:=Zkr l
 have h2:=Gp hl
 rcases Nat.eq_zero_or_pos (tr (tab l)) with z | z
 ·rw [z] at h1; omega
 ·exact z
theorem Zjg {g:Int→Nat × Nat} (h0:0 < ws.length) (hg:∀ p∈ws,1≤(g (ns.getD p 0)).1∧1≤(g (ns.getD p 0)).2):wor g M ns ws=wor (lowG g) M ns ws:=by
 obtain ⟨G,hG,hs⟩:=Zdt (g:=g) (ns:=ns) ws (tuL M ws) (by rw [Zdq h0]) hg
 have hl:∀ p∈ws,1≤(lowG g (ns.getD p 0)).1∧1≤(lowG g (ns.getD p 0)).2:=fun p hp=>by
  have:=Qc (hg p hp).1 (hg p hp).2
  exact ⟨this.p1,this.p2⟩
 obtain ⟨k1,k2,k3⟩:=Zdu hs one one 1 rfl rfl rfl rfl
 have p1:=Za4 (Za0 (M:=M) hl)
 have p2:=Gp (Za0 (M:=M) hl)
 have e:tr (tab (wz g M ns ws))=G * tr (tab (wz (lowG g) M ns ws)):=by
  unfold tr
  show (List.foldl stp one (wz g M ns ws)).a + (List.foldl stp one (wz g M ns ws)).d=_
  unfold wz
  rw [k1,k2,Nat.one_mul,← Nat.mul_add]
  rfl
 have e2:dt (wz g M ns ws)=G * G * dt (wz (lowG g) M ns ws):=k3
 unfold wor
 rw [e,e2,show G * tr (tab (wz (lowG g) M ns ws)) * (G * tr (tab (wz (lowG g) M ns ws)))=G * G * (tr (tab (wz (lowG g) M ns ws)) * tr (tab (wz (lowG g) M ns ws))) by ac_rfl]
 exact Zg3 (Nat.mul_pos hG hG) (Nat.mul_pos p1 p1) p2
end KT
set_option maxHeartbeats 4000000
set_option genInjectivity false
set_option genSizeOf false
namespace KT
open PySem L2
noncomputable def bmV:List Value:=[.type "ValueError",.type "Exception",.type "BaseException",.type "object"]
theorem FBV:ExcBaseFacts "ValueError" "ValueError.__new__" "ValueError.__init__" bmV:=PySem.F.excBase_ValueError
theorem Ys {α:Type} {f:α→V} {l:List α} {i:Nat} {y:V} (h:(l.map f)[i]?=some y):∃ q,l[i]?=some q∧y=f q:=by
 rw [List.getElem?_map] at h
 cases e:l[i]? with
 | none=>rw [e] at h; cases h
 | some q=>rw [e] at h; cases h; exact ⟨q,rfl,rfl⟩
structure FT (K:PySem.W.Frag) (mg:Str→Option Value) (x:Str) (st:Stmt) (ps:List Str) (f:Addr) (d:FuncData):Prop where
 F:Fun K x x st f d
 b:Wh K d ps []
 g:mg x=some (.ref f)
structure FM (K:PySem.W.Frag) (C:Addr) (x q:Str) (st:Stmt) (ps:List Str) (f:Addr) (d:FuncData):Prop where
 F:Fun K x q st f d
 b:Wh K d ps []
 m:Meth K C x f
section
variable {X:Cx} {fr:Bool} {j k:Nat} {f:Addr} {fd:FuncData} {ps:List Str} {sp:Sp} {x:Str} {st:Stmt} {p pos:Pos} {e:Expr} {es:List Expr} {t:TA}
theorem pcT (F:FnOk X.prog X.w X.K X.mg X.base (CXr X.prog X.w) k f fd ps sp) (hr:Room j X.A) (q:FT X.K X.mg x st ps f fd) (ha:PA X (e :: es) t) (hk:k≤j:=by decide) (hg:Gl X x:=by rfl) (hdb:(x == ("__debug__":Str))=false:=by decide) (he:starEach (e :: es) X.env=(false,eval e X.env) :: starEach es X.env:=by rfl) (hpl:(backTo pos (starEach es X.env)).any (·.1)=false:=by rfl) :
  PE X (.Call (.Name x p) (e :: es) [] pos) (Zi7 sp [] E0 t):=Zke F (hr.mono hk) hg q.g q.F.kp q.b .nil Z2 ha hdb he hpl
theorem pxT (F:FnOk X.prog X.w X.K X.mg X.base (CXr X.prog X.w) k f fd ps sp) (hr:Room j X.A) (q:FT X.K X.mg x st ps f fd) (ha:PA X (e :: es) t) (hk:k≤j:=by decide) (hg:Gl X x:=by rfl) (hex:X.ex=[]:=by rfl) (hx:X.xe=(fun _ _=>False):=by rfl) (hdb:(x == ("__debug__":Str))=false:=by decide) (he:starEach (e :: es) X.env=(false,eval e X.env) :: starEach es X.env:=by rfl) (hpl:(backTo pos (starEach es X.env)).any (·.1)=false:=by rfl) :
  PEX fr X (.Call (.Name x p) (e :: es) [] pos) (Zf3 sp [] t):=Zia F (hr.mono hk) hg q.g q.F.kp q.b .nil ha hex hx hdb he hpl
end
noncomputable def BA (q:Str) (st:Stmt) (ps:List Str):Prop:=∀ (x:Str) (kV doc pm:Value) (an:Option Addr) (cdv ct:Value) (us:List Value),us.length=ps.length→bindArgs (PySem.W.fnOf x q (Y4 st) (Ym st) (Zg st) .none kV doc pm an cdv ct) ⟨us,[]⟩=pure (ps.zip us)
theorem Zeb {α:Type} {us:List α} (e:us.length=2):∃ a b,us=[a,b]:=by
 obtain ⟨a,us,rfl⟩:=List.exists_cons_of_length_eq_add_one e
 obtain ⟨b,rfl⟩:=List.length_eq_one_iff.mp (Nat.succ.inj e)
 exact ⟨a,b,rfl⟩
theorem Fz {α:Type} {us:List α} (e:us.length=3):∃ a b c,us=[a,b,c]:=by
 obtain ⟨a,us,rfl⟩:=List.exists_cons_of_length_eq_add_one e
 obtain ⟨b,c,rfl⟩:=Zeb (Nat.succ.inj e)
 exact ⟨a,b,c,rfl⟩
theorem ba1 {q:Str} {st:Stmt} {ps:List Str} (h:∀ (x:Str) (kV doc pm:Value) (an:Option Addr) (cdv ct:Value) (a:Value),bindArgs (PySem.W.fnOf x q (Y4 st) (Ym st) (Zg st) .none kV doc pm an cdv ct) ⟨[a],[]⟩=pure (ps.zip [a])) (hl:ps.length=1):BA q st ps:=fun x kV doc pm an cdv ct us e=>by
 rw [hl] at e
 obtain ⟨a,rfl⟩:=List.length_eq_one_iff.mp e
 exact h x kV doc pm an cdv ct a
theorem ba2 {q:Str} {st:Stmt} {ps:List Str} (h:∀ (x:Str) (kV doc pm:Value) (an:Option Addr) (cdv ct:Value) (a b:Value),bindArgs (PySem.W.fnOf x q (Y4 st) (Ym st) (Zg st) .none kV doc pm an cdv ct) ⟨[a,b],[]⟩=pure (ps.zip [a,b])) (hl:ps.length=2):BA q st ps:=fun x kV doc pm an cdv ct us e=>by
 rw [hl] at e
 obtain ⟨a,b,rfl⟩:=Zeb e
 exact h x kV doc pm an cdv ct a b
theorem ba3 {q:Str} {st:Stmt} {ps:List Str} (h:∀ (x:Str) (kV doc pm:Value) (an:Option Addr) (cdv ct:Value) (a b c:Value),bindArgs (PySem.W.fnOf x q (Y4 st) (Ym st) (Zg st) .none kV doc pm an cdv ct) ⟨[a,b,c],[]⟩=pure (ps.zip [a,b,c])) (hl:ps.length=3):BA q st ps:=fun x kV doc pm an cdv ct us e=>by
 rw [hl] at e
 obtain ⟨a,b,c,rfl⟩:=Fz e
 exact h x kV doc pm an cdv ct a b c
theorem ba4 {q:Str} {st:Stmt} {ps:List Str} (h:∀ (x:Str) (kV doc pm:Value) (an:Option Addr) (cdv ct:Value) (a b c d:Value),bindArgs (PySem.W.fnOf x q (Y4 st) (Ym st) (Zg st) .none kV doc pm an cdv ct) ⟨[a,b,c,d],[]⟩=pure (ps.zip [a,b,c,d])) (hl:ps.length=4):BA q st ps:=fun x kV doc pm an cdv ct us e=>by
 rw [hl] at e
 obtain ⟨a,us,rfl⟩:=List.exists_cons_of_length_eq_add_one e
 obtain ⟨b,c,d,rfl⟩:=Fz (Nat.succ.inj e)
 exact h x kV doc pm an cdv ct a b c d
theorem ba5 {q:Str} {st:Stmt} {ps:List Str} (h:∀ (x:Str) (kV doc pm:Value) (an:Option Addr) (cdv ct:Value) (a b c d e:Value),bindArgs (PySem.W.fnOf x q (Y4 st) (Ym st) (Zg st) .none kV doc pm an cdv ct) ⟨[a,b,c,d,e],[]⟩=pure (ps.zip [a,b,c,d,e])) (hl:ps.length=5):BA q st ps:=fun x kV doc pm an cdv ct us e=>by
 rw [hl] at e
 match us,e with
 | [a,b,c,d,e],_=>exact h x kV doc pm an cdv ct a b c d e
section
variable {K:PySem.W.Frag} {h:Heap} {mg:Str→Option Value} {C:Addr} {x q:Str} {st:Stmt} {ps:List Str} {f:Addr} {oc:Value} {od an:Option Addr} {sl:Array (Option Value)} {kV doc pm cd ct:Value}
theorem FT.of (X:K.In h) (G:h.Ns mainGlobals mg) (B:BA x st ps) (a:PySem.W.nsIn K mainGlobals x=some (some (.ref f))) (l:K.lookup f=some ⟨oc,od,.func (PySem.W.fnOf x x (Y4 st) (Ym st) (Zg st) .none kV doc pm an cd ct),sl⟩)
  (c:PySem.W.codeIn K cd x=true) (k:PySem.W.keepIn K (.ref f)=true):FT K mg x st ps f (PySem.W.fnOf x x (Y4 st) (Ym st) (Zg st) .none kV doc pm an cd ct):=⟨Gn l c k,(Gn l c k).binds (B x),PySem.W.mg_of X G a⟩
theorem FM.of (B:BA q st ps) (a:PySem.W.findIn K (.ref C) x=some (some (.ref f))) (i:PySem.W.isFn K (.ref f)=true) (l:K.lookup f=some ⟨oc,od,.func (PySem.W.fnOf x q (Y4 st) (Ym st) (Zg st) .none kV doc pm an cd ct),sl⟩)
  (c:PySem.W.codeIn K cd q=true) (k:PySem.W.keepIn K (.ref f)=true):FM K C x q st ps f (PySem.W.fnOf x q (Y4 st) (Ym st) (Zg st) .none kV doc pm an cd ct):=⟨Gn l c k,(Gn l c k).binds (B x),⟨a,i,k⟩⟩
end
noncomputable def top (i:Nat):Stmt:=PySem.Challenge.pw_tentloops_k58_worths_asked_again.main.body.getD i (.Pass ⟨0,0,0,0⟩)
noncomputable abbrev Zd0:Stmt:=top 20
noncomputable abbrev K5:Stmt:=top 22
noncomputable abbrev Kz:Stmt:=top 23
noncomputable abbrev K1:Stmt:=top 24
noncomputable abbrev Ow:Stmt:=Yj (top 25) 0
noncomputable abbrev Uo:Stmt:=Yj (top 25) 3
noncomputable abbrev Qh:Stmt:=Yj (top 25) 5
noncomputable abbrev J2:Stmt:=Yj (top 25) 6
noncomputable abbrev Vf:Stmt:=Yj (top 25) 7
noncomputable abbrev Ub:Stmt:=Yj (top 25) 8
noncomputable abbrev Ov:Stmt:=Yj (top 25) 9
noncomputable abbrev Ve:Stmt:=Yj (top 25) 10
noncomputable abbrev Ou:Stmt:=top 34
noncomputable abbrev Fu:Stmt:=top 35
noncomputable abbrev Zdw:Stmt:=top 36
noncomputable abbrev V7:Stmt:=top 37
noncomputable abbrev K6:Stmt:=top 38
noncomputable abbrev Zbn:Stmt:=top 39
noncomputable abbrev Um:Stmt:=top 40
noncomputable abbrev Zdx:Stmt:=top 41
noncomputable abbrev Zdz:Stmt:=top 42
noncomputable abbrev Zbo:Stmt:=top 43
noncomputable abbrev Fo:Stmt:=top 44
noncomputable abbrev Qg:Stmt:=top 53
noncomputable abbrev Qw:Stmt:=top 54
noncomputable abbrev K4:Stmt:=top 55
noncomputable abbrev Uk:Stmt:=top 56
noncomputable abbrev Ua:Stmt:=top 57
noncomputable abbrev Qu:Stmt:=top 58
noncomputable abbrev Vd:Stmt:=top 61
noncomputable abbrev V6:Stmt:=top 62
noncomputable abbrev Zdv:Stmt:=top 63
noncomputable abbrev Fn:Stmt:=top 69
noncomputable abbrev Ft:Stmt:=top 70
noncomputable abbrev Fv:Stmt:=top 71
noncomputable abbrev K0:Stmt:=top 72
noncomputable abbrev Up:Stmt:=Yj (top 76) 0
noncomputable abbrev Os:Stmt:=top 77
noncomputable abbrev Vc:Stmt:=top 78
noncomputable abbrev Qv:Stmt:=top 79
noncomputable abbrev V8:Stmt:=top 80
noncomputable abbrev Ul:Stmt:=top 81
noncomputable abbrev Oz:Stmt:=Yj (top 83) 0
noncomputable abbrev Us:Stmt:=Yj (top 83) 1
noncomputable abbrev K7:Stmt:=Yj (top 83) 2
noncomputable abbrev Oy:Stmt:=Yj (top 83) 4
noncomputable abbrev Uq:Stmt:=Yj (top 83) 5
noncomputable abbrev O0:Stmt:=Yj (top 83) 7
noncomputable abbrev Ut:Stmt:=Yj (top 83) 8
noncomputable abbrev Ur:Stmt:=Yj (top 83) 12
noncomputable abbrev Uc:Stmt:=Yj (top 83) 14
noncomputable abbrev Qx:Stmt:=Yj (top 83) 19
noncomputable abbrev Ox:Stmt:=Yj (top 83) 20
noncomputable abbrev Fq:Stmt:=top 85
noncomputable abbrev Zbv:Stmt:=top 86
noncomputable abbrev Zbu:Stmt:=top 87
noncomputable abbrev Zdy:Stmt:=top 88
noncomputable abbrev Fp:Stmt:=top 89
noncomputable abbrev Fs:Stmt:=top 90
noncomputable abbrev Fr:Stmt:=top 91
noncomputable abbrev Zbw:Stmt:=top 92
noncomputable abbrev Ot:Stmt:=top 93
noncomputable abbrev Zbr:Stmt:=top 94
noncomputable abbrev Zbt:Stmt:=top 95
noncomputable abbrev Zbq:Stmt:=top 96
noncomputable abbrev Zbp:Stmt:=top 97
noncomputable abbrev K3:Stmt:=top 98
noncomputable abbrev K2:Stmt:=top 99
noncomputable abbrev Zbs:Stmt:=top 100
noncomputable abbrev V9:Stmt:=top 101
noncomputable abbrev Zi8:Stmt:=top 102
structure Adr where
 (C_Tent C_Scene C_Hall f_after f_cloth_of f_spots_of f_mates_of f_Tent_init f_Tent_seams f_Tent_has_place f_Tent_look_place f_Tent_seam_at f_Tent_places f_Tent_mate f_Tent_sort_of f_crossable f_follows f_plain f_look_thread f_backward f_turned f_least_turn f_least f_alike f_letter f_letters f_common_measure f_look_fraction f_fraction f_sewn_seams f_even_worths f_lowest_worths f_diagonal_sum f_lowest_over f_worth f_made_of f_is_name f_figures f_row_text f_Scene_init f_with_item f_without_item f_look_new_name f_look_length f_look_parts f_Hall_init f_Hall_enter f_Hall_lay f_Hall_lift f_Hall_weigh f_Hall_back f_Hall_again f_Hall_names f_Hall_thread f_Hall_worth_of f_Hall_same f_l_whole f_l_list f_l_pair f_l_low f_l_worth f_l_least f_l_truth f_l_cell f_l_numbers f_l_sewn f_l_rows f_l_tent f_l_walk f_l_thread f_l_worths f_l_seam f_l_stands_so f_law g_CONTRARY_WAYS E_NoPlace E_NoSeam E_Rim E_Locked E_NoWay E_NoThread E_NoFraction E_NoWorths:Addr)
 (d_after d_cloth_of d_spots_of d_mates_of d_Tent_init d_Tent_seams d_Tent_has_place d_Tent_look_place d_Tent_seam_at d_Tent_places d_Tent_mate d_Tent_sort_of d_crossable d_follows d_plain d_look_thread d_backward d_turned d_least_turn d_least d_alike d_letter d_letters d_common_measure d_look_fraction d_fraction d_sewn_seams d_even_worths d_lowest_worths d_diagonal_sum d_lowest_over d_worth d_made_of d_is_name d_figures d_row_text d_Scene_init d_with_item d_without_item d_look_new_name d_look_length d_look_parts d_Hall_init d_Hall_enter d_Hall_lay d_Hall_lift d_Hall_weigh d_Hall_back d_Hall_again d_Hall_names d_Hall_thread d_Hall_worth_of d_Hall_same d_l_whole d_l_list d_l_pair d_l_low d_l_worth d_l_least d_l_truth d_l_cell d_l_numbers d_l_sewn d_l_rows d_l_tent d_l_walk d_l_thread d_l_worths d_l_seam d_l_stands_so d_law:FuncData)
 (k_GREATEST_NAME k_SMALL_LETTERS k_LONGEST_NAME k_PART k_WRITTEN_AT_ONCE k_MOST_PLACES k_GREATEST_PART:Tok)
structure Txt (w:World) (K:PySem.W.Frag) (mg:Str→Option Value) (t:Adr):Prop where
 gC_Tent:mg "Tent"=some (.ref t.C_Tent)
 cl_Tent:Cls K t.C_Tent
 a_Tent_cloths:Y1 K t.C_Tent "cloths"
 a_Tent_names_at:Y1 K t.C_Tent "names_at"
 a_Tent_spots:Y1 K t.C_Tent "spots"
 a_Tent_mates:Y1 K t.C_Tent "mates"
 gC_Scene:mg "Scene"=some (.ref t.C_Scene)
 cl_Scene:Cls K t.C_Scene
 a_Scene_tent:Y1 K t.C_Scene "tent"
 a_Scene_threads:Y1 K t.C_Scene "threads"
 a_Scene_pools:Y1 K t.C_Scene "pools"
 a_Scene_worths:Y1 K t.C_Scene "worths"
 gC_Hall:mg "Hall"=some (.ref t.C_Hall)
 cl_Hall:Cls K t.C_Hall
 a_Hall_began:Y1 K t.C_Hall "began"
 a_Hall_scene:Y1 K t.C_Hall "scene"
 a_Hall_standing:Y1 K t.C_Hall "standing"
 a_Hall_undone:Y1 K t.C_Hall "undone"
 p_after:FT K mg "after" Zd0 ["place"] t.f_after t.d_after
 p_cloth_of:FT K mg "cloth_of" K5 ["place"] t.f_cloth_of t.d_cloth_of
 p_spots_of:FT K mg "spots_of" Kz ["names_at"] t.f_spots_of t.d_spots_of
 p_mates_of:FT K mg "mates_of" K1 ["spots","count"] t.f_mates_of t.d_mates_of
 p_Tent_init:FM K t.C_Tent "__init__" "Tent.__init__" Ow ["self","rows"] t.f_Tent_init t.d_Tent_init
 p_Tent_seams:FM K t.C_Tent "seams" "Tent.seams" Uo ["self"] t.f_Tent_seams t.d_Tent_seams
 p_Tent_has_place:FM K t.C_Tent "has_place" "Tent.has_place" Qh ["self","place"] t.f_Tent_has_place t.d_Tent_has_place
 p_Tent_look_place:FM K t.C_Tent "look_place" "Tent.look_place" J2 ["self","place"] t.f_Tent_look_place t.d_Tent_look_place
 p_Tent_seam_at:FM K t.C_Tent "seam_at" "Tent.seam_at" Vf ["self","place"] t.f_Tent_seam_at t.d_Tent_seam_at
 p_Tent_places:FM K t.C_Tent "places" "Tent.places" Ub ["self","seam"] t.f_Tent_places t.d_Tent_places
 p_Tent_mate:FM K t.C_Tent "mate" "Tent.mate" Ov ["self","place"] t.f_Tent_mate t.d_Tent_mate
 p_Tent_sort_of:FM K t.C_Tent "sort_of" "Tent.sort_of" Ve ["self","seam"] t.f_Tent_sort_of t.d_Tent_sort_of
 p_crossable:FT K mg "crossable" Ou ["tent","place"] t.f_crossable t.d_crossable
 p_follows:FT K mg "follows" Fu ["tent","ahead","place"] t.f_follows t.d_follows
 p_plain:FT K mg "plain" Zdw ["tent","word"] t.f_plain t.d_plain
 p_look_thread:FT K mg "look_thread" V7 ["tent","word"] t.f_look_thread t.d_look_thread
 p_backward:FT K mg "backward" K6 ["tent","word"] t.f_backward t.d_backward
 p_turned:FT K mg "turned" Zbn ["word","by"] t.f_turned t.d_turned
 p_least_turn:FT K mg "least_turn" Um ["word"] t.f_least_turn t.d_least_turn
 p_least:FT K mg "least" Zdx ["tent","word"] t.f_least t.d_least
 p_alike:FT K mg "alike" Zdz ["tent","one","other"] t.f_alike t.d_alike
 p_letter:FT K mg "letter" Zbo ["tent","ahead","place"] t.f_letter t.d_letter
 p_letters:FT K mg "letters" Fo ["tent","word"] t.f_letters t.d_letters
 p_common_measure:FT K mg "common_measure" Qg ["one","other"] t.f_common_measure t.d_common_measure
 p_look_fraction:FT K mg "look_fraction" Qw ["top","bottom"] t.f_look_fraction t.d_look_fraction
 p_fraction:FT K mg "fraction" K4 ["top","bottom"] t.f_fraction t.d_fraction
 p_sewn_seams:FT K mg "sewn_seams" Uk ["tent"] t.f_sewn_seams t.d_sewn_seams
 p_even_worths:FT K mg "even_worths" Ua ["tent"] t.f_even_worths t.d_even_worths
 p_lowest_worths:FT K mg "lowest_worths" Qu ["tent","worths"] t.f_lowest_worths t.d_lowest_worths
 p_diagonal_sum:FT K mg "diagonal_sum" Vd ["crossed","turns"] t.f_diagonal_sum t.d_diagonal_sum
 p_lowest_over:FT K mg "lowest_over" V6 ["top","factors"] t.f_lowest_over t.d_lowest_over
 p_worth:FT K mg "worth" Zdv ["tent","worths","word"] t.f_worth t.d_worth
 p_made_of:FT K mg "made_of" Fn ["text","signs"] t.f_made_of t.d_made_of
 p_is_name:FT K mg "is_name" Ft ["text"] t.f_is_name t.d_is_name
 p_figures:FT K mg "figures" Fv ["number"] t.f_figures t.d_figures
 p_row_text:FT K mg "row_text" K0 ["words"] t.f_row_text t.d_row_text
 p_Scene_init:FM K t.C_Scene "__init__" "Scene.__init__" Up ["self","tent","threads","pools","worths"] t.f_Scene_init t.d_Scene_init
 p_with_item:FT K mg "with_item" Os ["table","name","value"] t.f_with_item t.d_with_item
 p_without_item:FT K mg "without_item" Vc ["table","name"] t.f_without_item t.d_without_item
 p_look_new_name:FT K mg "look_new_name" Qv ["scene","name"] t.f_look_new_name t.d_look_new_name
 p_look_length:FT K mg "look_length" V8 ["word"] t.f_look_length t.d_look_length
 p_look_parts:FT K mg "look_parts" Ul ["parts"] t.f_look_parts t.d_look_parts
 p_Hall_init:FM K t.C_Hall "__init__" "Hall.__init__" Oz ["self","rows"] t.f_Hall_init t.d_Hall_init
 p_Hall_enter:FM K t.C_Hall "enter" "Hall.enter" Us ["self","text","scene"] t.f_Hall_enter t.d_Hall_enter
 p_Hall_lay:FM K t.C_Hall "lay" "Hall.lay" K7 ["self","name","word"] t.f_Hall_lay t.d_Hall_lay
 p_Hall_lift:FM K t.C_Hall "lift" "Hall.lift" Oy ["self","name"] t.f_Hall_lift t.d_Hall_lift
 p_Hall_weigh:FM K t.C_Hall "weigh" "Hall.weigh" Uq ["self","seam","top","bottom"] t.f_Hall_weigh t.d_Hall_weigh
 p_Hall_back:FM K t.C_Hall "back" "Hall.back" O0 ["self"] t.f_Hall_back t.d_Hall_back
 p_Hall_again:FM K t.C_Hall "again" "Hall.again" Ut ["self"] t.f_Hall_again t.d_Hall_again
 p_Hall_names:FM K t.C_Hall "names" "Hall.names" Ur ["self"] t.f_Hall_names t.d_Hall_names
 p_Hall_thread:FM K t.C_Hall "thread" "Hall.thread" Uc ["self","name"] t.f_Hall_thread t.d_Hall_thread
 p_Hall_worth_of:FM K t.C_Hall "worth_of" "Hall.worth_of" Qx ["self","name"] t.f_Hall_worth_of t.d_Hall_worth_of
 p_Hall_same:FM K t.C_Hall "same" "Hall.same" Ox ["self","one","other"] t.f_Hall_same t.d_Hall_same
 p_l_whole:FT K mg "_law_whole" Fq ["_law_found"] t.f_l_whole t.d_l_whole
 p_l_list:FT K mg "_law_list" Zbv ["_law_found","_law_due"] t.f_l_list t.d_l_list
 p_l_pair:FT K mg "_law_pair" Zbu ["_law_found","_law_due"] t.f_l_pair t.d_l_pair
 p_l_low:FT K mg "_law_low" Zdy ["_law_top","_law_bottom"] t.f_l_low t.d_l_low
 p_l_worth:FT K mg "_law_worth" Fp ["_law_mates","_law_rows_here","_law_worths_here","_law_word"] t.f_l_worth t.d_l_worth
 p_l_least:FT K mg "_law_least" Fs ["_law_mates","_law_word"] t.f_l_least t.d_l_least
 p_l_truth:FT K mg "_law_truth" Fr ["_law_found","_law_due"] t.f_l_truth t.d_l_truth
 p_l_cell:FT K mg "_law_cell" Zbw ["_law_script","_law_at"] t.f_l_cell t.d_l_cell
 p_l_numbers:FT K mg "_law_numbers" Ot ["_law_cell_here","_law_many"] t.f_l_numbers t.d_l_numbers
 p_l_sewn:FT K mg "_law_sewn" Zbr ["_law_nums","_law_many","_law_share"] t.f_l_sewn t.d_l_sewn
 p_l_rows:FT K mg "_law_rows" Zbt ["_law_mates","_law_start","_law_step"] t.f_l_rows t.d_l_rows
 p_l_tent:FT K mg "_law_tent" Zbq ["_law_script"] t.f_l_tent t.d_l_tent
 p_l_walk:FT K mg "_law_walk" Zbp ["_law_mates","_law_nums"] t.f_l_walk t.d_l_walk
 p_l_thread:FT K mg "_law_thread" K3 ["_law_script","_law_at","_law_mates"] t.f_l_thread t.d_l_thread
 p_l_worths:FT K mg "_law_worths" K2 ["_law_mates","_law_rows_here","_law_nums"] t.f_l_worths t.d_l_worths
 p_l_seam:FT K mg "_law_seam" Zbs ["_law_rows_here","_law_place"] t.f_l_seam t.d_l_seam
 p_l_stands_so:FT K mg "_law_stands_so" V9 ["_law_hall","_law_mates","_law_rows_here","_law_worths_here","_law_one","_law_other"] t.f_l_stands_so t.d_l_stands_so
 p_law:FT K mg "law" Zi8 ["_law_script"] t.f_law t.d_law
 mk_Tent:Mk K t.C_Tent t.f_Tent_init
 mk_Scene:Mk K t.C_Scene t.f_Scene_init
 mk_Hall:Mk K t.C_Hall t.f_Hall_init
 c_GREATEST_NAME:mg "GREATEST_NAME"=some (.int 9999 t.k_GREATEST_NAME)
 c_SMALL_LETTERS:mg "SMALL_LETTERS"=some (.str (Str.ofString "abcdefghijklmnopqrstuvwxyz") t.k_SMALL_LETTERS)
 c_LONGEST_NAME:mg "LONGEST_NAME"=some (.int 8 t.k_LONGEST_NAME)
 c_PART:mg "PART"=some (.int 1000000000000000000000000000000000000000000000000000000000000 t.k_PART)
 c_WRITTEN_AT_ONCE:mg "WRITTEN_AT_ONCE"=some (.int 60 t.k_WRITTEN_AT_ONCE)
 c_MOST_PLACES:mg "MOST_PLACES"=some (.int 400 t.k_MOST_PLACES)
 c_GREATEST_PART:mg "GREATEST_PART"=some (.int 1000000000000000000000000000000000000000000000000000000000000 t.k_GREATEST_PART)
 gd_CONTRARY_WAYS:mg "CONTRARY_WAYS"=some (.ref t.g_CONTRARY_WAYS)
 kd_CONTRARY_WAYS:Zje w K t.g_CONTRARY_WAYS [(Sum.inr "left",.str "right"),(Sum.inr "right",.str "left")]
 bl:∀ (s:Shared) (u:Value),BindsTo s t.d_law ⟨[u],[]⟩ [("_law_script",u)]
 n_all:mg "all"=none
 n_bool:mg "bool"=none
 n_dict:mg "dict"=none
 n_enumerate:mg "enumerate"=none
 n_int:mg "int"=none
 n_isinstance:mg "isinstance"=none
 n_len:mg "len"=none
 n_list:mg "list"=none
 n_max:mg "max"=none
 n_min:mg "min"=none
 n_range:mg "range"=none
 n_reversed:mg "reversed"=none
 n_sorted:mg "sorted"=none
 n_str:mg "str"=none
 n_tuple:mg "tuple"=none
 n_zip:mg "zip"=none
 gx_NoPlace:mg "NoPlace"=some (.ref t.E_NoPlace)
 x_NoPlace:ExcK K t.E_NoPlace bmV "ValueError.__new__"
 gx_NoSeam:mg "NoSeam"=some (.ref t.E_NoSeam)
 x_NoSeam:ExcK K t.E_NoSeam bmV "ValueError.__new__"
 gx_Rim:mg "Rim"=some (.ref t.E_Rim)
 x_Rim:ExcK K t.E_Rim bmV "ValueError.__new__"
 gx_Locked:mg "Locked"=some (.ref t.E_Locked)
 x_Locked:ExcK K t.E_Locked bmV "ValueError.__new__"
 gx_NoWay:mg "NoWay"=some (.ref t.E_NoWay)
 x_NoWay:ExcK K t.E_NoWay bmV "ValueError.__new__"
 gx_NoThread:mg "NoThread"=some (.ref t.E_NoThread)
 x_NoThread:ExcK K t.E_NoThread bmV "ValueError.__new__"
 gx_NoFraction:mg "NoFraction"=some (.ref t.E_NoFraction)
 x_NoFraction:ExcK K t.E_NoFraction bmV "ValueError.__new__"
 gx_NoWorths:mg "NoWorths"=some (.ref t.E_NoWorths)
 x_NoWorths:ExcK K t.E_NoWorths bmV "ValueError.__new__"
end KT
set_option maxHeartbeats 4000000
namespace KT
open PySem L2
theorem Same.add {H H1:Hp} {p:Addr} {o:HO} (s:Same H H1) (hp:H p=none):Same H (upd H1 p o):=fun b u e=>by rw [Ze (Zj e hp)]; exact s b u e
theorem Same.new {H:Hp} {p:Addr} {o:HO} (hp:H p=none):Same H (upd H p o):=Same.add (Same.refl H) hp
theorem Yg {t u:TS} {D:Ends} {σ:St} {H:Hp} (Post:St→Hp→Prop) (ht:∀ nx:St→Hp→Prop,(∀ σ H,Post σ H→nx σ H)→t { D with nx:=nx } σ H) (hu:∀ σ H,Post σ H→u D σ H):tSeq t u D σ H:=ht (u D) hu
theorem Zk {t u:TS} {D:Ends} {σ:St} {H:Hp} (ht:∀ nx:St→Hp→Prop,(∀ σ H,u D σ H→nx σ H)→t { D with nx:=nx } σ H):tSeq t u D σ H:=ht (u D) fun _ _ h=>h
theorem Zck (xs:List Int) (y:Int):xs.map V.int ++ [V.int y]=(xs ++ [y]).map V.int:=by simp
theorem getI {ns:List Int} {n:Nat} (h:n < ns.length):(ns.map V.int)[n]?=some (V.int (ns.getD n 0)):=by
 rw [List.getElem?_map,List.getElem?_eq_getElem h,List.getD_eq_getElem?_getD,List.getElem?_eq_getElem h]
 rfl
noncomputable def cell (ns:List Int) (n:Int):Int:=if n < ns.length then ns.getD n.toNat 0 else if ns.length=0 then 31 * n + 7 else ns.getD (n % ns.length).toNat 0 % 1000003 + 101 * n
noncomputable def Zj1 (K:PySem.W.Frag):Sp:=fun vs H Q _=>∃ (a:Addr) (ns:List Int) (n:Int),vs=[.ref a,.int n]∧SqL K H a (ns.map V.int)∧ns.length≤63∧0≤n∧n < 1000000∧Q (.int (cell ns n)) H
noncomputable def Zhu:Sp:=fun vs H Q _=>∃ n:Int,vs=[.int n]∧Q (.bl true) H
noncomputable def Zer:Sp:=fun vs H Q _=>∃ (c:Int) (n:Nat),vs=[.int c,.int n]∧n≤60∧∀ (p:Addr) (xs:List Int) (H':Hp),Same H H'→H p=none→H' p=some (.lst (xs.map V.int))→xs.length=n→(∀ x∈xs,0≤x∧x < 1009)→Q (.ref p) H'
section
variable {P:Program} {w:World} {K:PySem.W.Frag} {mg:Str→Option Value} {base:Heap} {t:Adr}
theorem Ze2:FnScope ["_law_found"] ["_law_found"] (Zg Fq):=⟨rfl,rfl,rfl,by decide +kernel,rfl,by decide +kernel,by decide +kernel⟩
theorem Vy (T:Txt w K mg t):FnOk P w K mg base (CXr P w) 1 t.f_l_whole t.d_l_whole ["_law_found"] Zhu:=by
 refine T.p_l_whole.F.aR Ze2 (fun cdv A outer s H vs Q E hr h=>?_)
 ·obtain ⟨p,rfl,k⟩:=h
  refine ⟨_,(Zh (Zl (Qk (Zo We (by rfl) T.n_isinstance PyProof.Rows.boot_isinstance (Za (pv 0) (Za (Qb (v:=.ty "int") (by rfl) T.n_int PySem.Pv.boot_int rfl) Zb))) (Vj (Zll (Zo We (by rfl) T.n_isinstance PyProof.Rows.boot_isinstance (Za (pv 0) (Za (Qb (v:=.ty "bool") (by rfl) T.n_bool PySem.Pv.boot_bool rfl) Zb)))))))),?_⟩
  refine ⟨_,rfl,_,"int",_,true,rfl,TyOf.int p,Qp,_,rfl,iteT ?_⟩
  refine ⟨_,rfl,_,"bool",_,false,rfl,TyOf.int p,(by rfl),_,rfl,k⟩
theorem Zgh:FnScope ["_law_script","_law_at"] ["_law_script","_law_at"] (Zg Zbw):=⟨rfl,rfl,rfl,by decide +kernel,rfl,by decide +kernel,by decide +kernel⟩
theorem Jv (T:Txt w K mg t):FnOk P w K mg base (CXr P w) 1 t.f_l_cell t.d_l_cell ["_law_script","_law_at"] (Zj1 K):=by
 refine T.p_l_cell.F.aR Zgh (fun cdv A outer s H vs Q E hr h=>?_)
 ·obtain ⟨a,ns,n,rfl,hS,hl,h0,h1,k⟩:=h
  refine ⟨_,(Zd (Z1 (Zt J5 (pv 1) (Zo Zm (by rfl) T.n_len PySem.boot_len (Za (pv 0) Zb)) (Zs _)) (Zh (Zl (Zv Zw (pv 0) (pv 1) (fun _ _=>rfl)))) Zu)
   (Zd (Z1 (Zt Xq (Zo Zm (by rfl) T.n_len PySem.boot_len (Za (pv 0) Zb)) Zf (Zs _)) (Zh (Zl (Zi Z0 (Zi Wt Zf (pv 1)) Zf))) Zu)
   (Zh (Zl (Zi Z0 (Zi Zy (Zv Zw (pv 0) (Zi Zy (pv 1) (Zo Zm (by rfl) T.n_len PySem.boot_len (Za (pv 0) Zb))) (fun _ _=>rfl)) Zf) (Zi Wt Zf (pv 1))))))),?_⟩
  have el:((ns.map V.int).length:Int)=ns.length:=by simp
  refine ⟨_,rfl,_,rfl,a,_,rfl,.inl hS,_,_,rfl,rfl,_,rfl,?_⟩
  rw [el]
  refine ite2 (fun h=>?_) (fun h=>?_)
  ·have h:n < ns.length:=by simpa using h
   have e:cell ns n=ns.getD n.toNat 0:=if_pos h
   have en:n=(n.toNat:Int):=by omega
   have ei:atI (ns.map V.int) n=some (V.int (ns.getD n.toNat 0)):=by rw [en]; exact X4 (getI (n:=n.toNat) (by omega))
   rw [e] at k
   exact ⟨_,rfl,_,rfl,a,_,_,_,rfl,rfl,hS,ei,k⟩
  ·have h:¬ n < ns.length:=by simpa using h
   have e:cell ns n=if ns.length=0 then 31 * n + 7 else ns.getD (n % ns.length).toNat 0 % 1000003 + 101 * n:=if_neg h
   refine ⟨_,rfl,a,_,rfl,.inl hS,rfl,_,rfl,?_⟩
   rw [el]
   refine ite2 (fun g=>?_) (fun g=>?_)
   ·have g:ns.length=0:=by simpa using g
    refine ⟨_,rfl,_,_,rfl,rfl,.inl ⟨by decide,by decide⟩,_,_,rfl,rfl,?_⟩
    rw [if_pos g] at e
    rw [e] at k; exact k
   ·have g:¬ ns.length=0:=by simpa using g
    have gp:(0:Int) < ns.length:=by omega
    rw [if_neg g] at e
    have m0:=Int.emod_nonneg n (show (ns.length:Int)≠0 by omega)
    have m1:=Int.emod_lt_of_pos n gp
    refine ⟨_,rfl,_,rfl,_,rfl,a,_,rfl,.inl hS,_,_,rfl,rfl,(by rw [el]; exact gp),a,_,_,_,rfl,rfl,hS,(?_:atI _ _=some (V.int (ns.getD (n % ns.length).toNat 0))),_,_,rfl,rfl,(by show (0:Int) < 1000003; decide),_,rfl,_,_,rfl,rfl,.inl ⟨by decide,by decide⟩,_,_,rfl,rfl,?_⟩
    ·rw [el]
     have en:n % (ns.length:Int)=((n % (ns.length:Int)).toNat:Int):=by omega
     rw [en]
     exact X4 (getI (by omega))
    ·rw [e] at k; exact k
theorem Xz:FnScope ["_law_cell_here","_law_many","_law_row","_law_rest","_law_seed"] ["_law_cell_here","_law_many"] (Zg Ot):=⟨rfl,rfl,rfl,by decide +kernel,rfl,by decide +kernel,by decide +kernel⟩
theorem U2 (T:Txt w K mg t):FnOk P w K mg base (CXr P w) 1 t.f_l_numbers t.d_l_numbers ["_law_cell_here","_law_many"] Zer:=by
 refine T.p_l_numbers.F.aR Xz (fun cdv A outer s H vs Q E hr h=>?_)
 ·obtain ⟨c,n,rfl,hn60,k⟩:=h
  refine ⟨_,(Zd (Zn (i:=2) Xz.nd rfl (Or.inl rfl) (Y8 Zb))
   (Zd (Zn (i:=3) Xz.nd rfl (Or.inl rfl) (Zi Uz (pv 0) (Zi Zlm Zf Zf)))
   (Zd (Jg PassesOwn.never (PW.pt (K9 (Zt Q0 (pv 3) Zf (Zs _)) (U9 (Zt J5 (Zo Zm (by rfl) T.n_len PySem.boot_len (Za (pv 2) Zb)) (pv 1) (Zs _))))) (Zd (Z8 (Wf PySem.F.plainAttrs_list PySem.F.slot_list_append PySem.F.type_list_append Xa (pv 2) (Za (Zi Zy (pv 3) Zf) Zb)))
   (Zh (Zn (i:=3) Xz.nd rfl (Or.inl rfl) (Zi Yv (pv 3) Zf)))))
   (Zd (Zn (i:=4) Xz.nd rfl (Or.inl rfl) (Zi Zy (pv 0) Zf))
   (Zd (Jg PassesOwn.never (Zt J5 (Zo Zm (by rfl) T.n_len PySem.boot_len (Za (pv 2) Zb)) (pv 1) (Zs _)) (Zd (Zn (i:=4) Xz.nd rfl (Or.inl rfl) (Zi Zy (Zi Z0 (Zi Z0 (Zi Wt (pv 4) Zf) Zf) (Zo Zm (by rfl) T.n_len PySem.boot_len (Za (pv 2) Zb))) Zf))
   (Zh (Z8 (Wf PySem.F.plainAttrs_list PySem.F.slot_list_append PySem.F.type_list_append Xa (pv 2) (Za (Zi Zy (Zi Yv (Zi Zy (Zi Wt (pv 4) Zf) Zf) Zf) Zf) Zb))))))
   (Zh (Zl (pv 2)))))))),?_⟩
  refine ⟨Nat.zero_le _,fun r hr0=>?_⟩
  refine ⟨_,rfl,_,_,rfl,rfl,⟨by decide,by decide,by decide⟩,_,_,rfl,rfl,?_⟩
  show tSeq (Ug _ _) _ _ _ _
  refine Yg (fun σ H1=>∃ (xs:List Int) (rest:Int),σ=[some (.int c),some (.int n),some (.ref r),some (.int rest),none]∧Same H H1∧H1 r=some (.lst (xs.map V.int))∧xs.length≤n∧(∀ x∈xs,0≤x∧x < 1009)) (fun nx hnx=>?_) ?_
  ·refine ⟨fun m σ H1=>∃ (xs:List Int) (rest:Int),m=n - xs.length∧σ=[some (.int c),some (.int n),some (.ref r),some (.int rest),none]∧Same H H1∧H1 r=some (.lst (xs.map V.int))∧xs.length≤n∧(∀ x∈xs,0≤x∧x < 1009),
    ⟨n,[],_,rfl,rfl,Same.new hr0,Zc,Nat.zero_le _,fun x hx=>absurd hx (by simp)⟩,?_⟩
   rintro m σ H1 ⟨xs,rest,rfl,rfl,sm,h1,hl,hx⟩
   have el:((xs.map V.int).length:Int)=xs.length:=by simp
   refine ⟨_,rfl,_,_,rfl,rfl,_,rfl,?_⟩
   refine ite2 (fun _=>?_) (fun _=>?_)
   ·refine ⟨_,rfl,r,_,rfl,.inl (SqL.of h1),_,rfl,_,_,rfl,rfl,_,rfl,?_⟩
    rw [el]
    refine ite2 (fun g=>?_) (fun _=>?_)
    ·have g:(xs.length:Int) < n:=by simpa using g
     refine ⟨_,fun σ' H' h=>h,?_⟩
     refine ⟨_,rfl,.inl ⟨rfl,_,SqL.of h1⟩,_,rfl,_,_,rfl,rfl,(by show (0:Int) < 1009; decide),r,_,_,rfl,rfl,h1,(by rw [List.length_map]; exact Zx (by omega)),?_⟩
     refine ⟨_,rfl,_,_,rfl,rfl,⟨by decide,by decide⟩,?_⟩
     refine ⟨n - (xs ++ [rest % 1009]).length,?_,xs ++ [rest % 1009],_,rfl,rfl,Same.add sm hr0,?_,?_,?_⟩
     ·rw [List.length_append,List.length_singleton]; omega
     ·rw [Zc,← Zck]
     ·rw [List.length_append,List.length_singleton]; omega
     ·intro x hm
      rcases List.mem_append.mp hm with z | z
      ·exact hx x z
      ·have:x=rest % 1009:=by simpa using z
       subst this
       omega
    ·exact hnx _ _ ⟨xs,rest,rfl,sm,h1,hl,hx⟩
   ·exact hnx _ _ ⟨xs,rest,rfl,sm,h1,hl,hx⟩
  rintro σ H1 ⟨xs,rest,rfl,sm,h1,hl,hx⟩
  refine ⟨_,rfl,_,_,rfl,rfl,(by show (0:Int) < 2147483629; decide),?_⟩
  show tSeq (Ug _ _) _ _ _ _
  refine Yg (fun σ H1=>∃ (xs:List Int) (rest seed:Int),σ=[some (.int c),some (.int n),some (.ref r),some (.int rest),some (.int seed)]∧Same H H1∧H1 r=some (.lst (xs.map V.int))∧xs.length=n∧(∀ x∈xs,0≤x∧x < 1009)) (fun nx hnx=>?_) ?_
  ·refine ⟨fun m σ H1=>∃ (xs:List Int) (rest seed:Int),m=n - xs.length∧σ=[some (.int c),some (.int n),some (.ref r),some (.int rest),some (.int seed)]∧Same H H1∧H1 r=some (.lst (xs.map V.int))∧xs.length≤n∧(∀ x∈xs,0≤x∧x < 1009),
    ⟨n - xs.length,xs,rest,_,rfl,rfl,sm,h1,hl,hx⟩,?_⟩
   clear h1 hl hx sm xs rest
   rintro m σ H1 ⟨xs,rest,seed,rfl,rfl,sm,h1,hl,hx⟩
   have el:((xs.map V.int).length:Int)=xs.length:=by simp
   refine ⟨_,rfl,r,_,rfl,.inl (SqL.of h1),_,rfl,_,_,rfl,rfl,_,rfl,?_⟩
   rw [el]
   refine ite2 (fun g=>?_) (fun g=>?_)
   ·have g:(xs.length:Int) < n:=by simpa using g
    refine ⟨_,fun σ' H' h=>h,?_⟩
    refine ⟨_,rfl,_,_,rfl,rfl,.inr ⟨by decide,by decide⟩,_,_,rfl,rfl,_,rfl,r,_,rfl,.inl (SqL.of h1),_,_,rfl,rfl,_,_,rfl,rfl,(by show (0:Int) < 2147483647; decide),?_⟩
    obtain ⟨y,hy⟩:∃ y,y=(seed * 48271 + 12345 + ((xs.map V.int).length:Int)) % 2147483647 * 69621 % 2147483629 / 7 % 1009:=⟨_,rfl⟩
    refine ⟨_,rfl,.inl ⟨rfl,_,SqL.of h1⟩,_,rfl,_,_,rfl,rfl,.inr ⟨by decide,by decide⟩,_,_,rfl,rfl,(by show (0:Int) < 2147483629; decide),_,_,rfl,rfl,⟨by decide,by decide⟩,_,_,rfl,rfl,(by show (0:Int) < 1009; decide),r,_,_,rfl,rfl,h1,(by rw [List.length_map]; exact Zx (by omega)),?_⟩
    refine ⟨n - (xs ++ [y]).length,?_,xs ++ [y],_,_,rfl,rfl,Same.add sm hr0,?_,?_,?_⟩
    ·rw [List.length_append,List.length_singleton]; omega
    ·rw [Zc,← Zck,hy]
    ·rw [List.length_append,List.length_singleton]; omega
    ·intro x hm
     rcases List.mem_append.mp hm with z | z
     ·exact hx x z
     ·have:x=y:=by simpa using z
      rw [this,hy]
      exact ⟨Int.emod_nonneg _ (by decide),Int.emod_lt_of_pos _ (by decide)⟩
   ·have g:¬ (xs.length:Int) < n:=by simpa using g
    exact hnx _ _ ⟨xs,rest,seed,rfl,sm,h1,by omega,hx⟩
  rintro σ H1 ⟨xs,rest,seed,rfl,sm,h1,hl,hx⟩
  exact ⟨_,rfl,k r xs H1 sm hr0 h1 hl hx⟩
noncomputable def Zju (K:PySem.W.Frag):Sp:=fun vs H Q _=>∃ (a:Addr) (xs:List Int) (n:Nat) (sh:Int),vs=[.ref a,.int n,.int sh]∧H a=some (.lst (xs.map V.int))∧xs.length=60∧(∀ x∈xs,0≤x∧x < 1009)∧1≤n∧n≤14 ∧
 ∀ (p:Addr) (M:List (Option Nat)) (H':Hp),Same H H'→H p=none→H' p=some (.lst (M.map mV))→M.length=3 * n→(∀ (i j:Nat),M[i]?=some (some j)→M[j]?=some (some i)∧i≠j)→Q (.ref p) H'
theorem map_set {α:Type} (f:α→V) (l:List α) (i:Nat) (x:α):(l.map f).set i (f x)=(l.set i x).map f:=by rw [List.map_set]
theorem Oe {n i:Nat} (h:i < n):ixN n (i:Int)=some i:=by
 unfold ixN
 simp
 omega
theorem Zhb {α β:Type} (f:α→β):∀ (l:List α) (i:Nat),(l.map f).eraseIdx i=(l.eraseIdx i).map f
 | [],_=>rfl
 | _ :: _,0=>rfl
 | a :: r,i + 1=>by rw [List.map_cons,List.eraseIdx_cons_succ,Zhb f r i,List.eraseIdx_cons_succ,List.map_cons]
theorem natV (F:List Nat) (i:Nat):(F.map fun (j:Nat)=>V.int j)[i]?=(F[i]?).map fun (j:Nat)=>V.int j:=List.getElem?_map ..
theorem X6:FnScope ["_law_nums","_law_many","_law_share","_law_mates","_law_free","_law_at","_law_one","_law_pick","_law_other"] ["_law_nums","_law_many","_law_share"] (Zg Zbr):=⟨rfl,rfl,rfl,by decide +kernel,rfl,by decide +kernel,by decide +kernel⟩
theorem Zgy (T:Txt w K mg t):FnOk P w K mg base (CXr P w) 1 t.f_l_sewn t.d_l_sewn ["_law_nums","_law_many","_law_share"] (Zju K):=by
 refine T.p_l_sewn.F.aR X6 (fun cdv A outer s H vs Q E hr h=>?_)
 ·obtain ⟨a,xs,n,sh,rfl,ha,hl,hx,h1,h2,k⟩:=h
  refine ⟨_,(Zd (Zn (i:=3) X6.nd rfl (Or.inl rfl) (Zi Zca (Y8 (Za Qj Zb)) (Zi Wt Zf (pv 1))))
   (Zd (Zn (i:=4) X6.nd rfl (Or.inl rfl) (Zb8 rfl T.n_list rfl T.n_range rfl (Za (Zi Wt Zf (pv 1)) Zb)))
   (Zd (Zn (i:=5) X6.nd rfl (Or.inl rfl) Zf)
   (Zd (Jg PassesOwn.never (Zt Q0 (Zo Zm (by rfl) T.n_len PySem.boot_len (Za (pv 4) Zb)) Zf (Zs _)) (Zd (Zn (i:=6) X6.nd rfl (Or.inl rfl) (Wf PySem.F.plainAttrs_list PySem.F.slot_list_pop PySem.F.type_list_pop Zcj (pv 4) (Za Zf Zb)))
   (Zd (Zn (i:=7) X6.nd rfl (Or.inl rfl) (Zv Zw (pv 0) (pv 5) (fun _ _=>rfl)))
   (Zd (Zn (i:=5) X6.nd rfl (Or.inl rfl) (Zi Z0 (pv 5) Zf))
   (Zh (Z1 (Zt Zja (Zi Zy (pv 7) Zf) (pv 2) (Zs _)) (Zd (Zn (i:=8) X6.nd rfl (Or.inl rfl) (Wf PySem.F.plainAttrs_list PySem.F.slot_list_pop PySem.F.type_list_pop Zcj (pv 4) (Za (Zi Zy (Zi Yv (pv 7) Zf) (Zo Zm (by rfl) T.n_len PySem.boot_len (Za (pv 4) Zb))) Zb)))
   (Zd (Wz (pv 8) (Gb (pv 3) (pv 6) Vr))
   (Zh (Wz (pv 6) (Gb (pv 3) (pv 8) Vr))))) Zu))))))
   (Zh (Zl (pv 3))))))),?_⟩
  refine ⟨(by show 1≤sizeLine; decide),fun q hq=>?_⟩
  refine ⟨_,rfl,_,_,rfl,rfl,.inl ⟨by decide,by decide⟩,q,_,_,rfl,rfl,Zc,(by omega),(by omega),?_,fun m hm=>?_⟩
  ·have:(3 * (n:Int)).toNat=3 * n:=by omega
   show 1 * (3 * (n:Int)).toNat≤sizeLine
   rw [this,sizeLine_eq]; omega
  have eN:(3 * (n:Int)).toNat=3 * n:=by omega
  have eM:(List.replicate (3 * (n:Int)).toNat [V.non]).flatten=(List.replicate (3 * n) (none:Option Nat)).map mV:=by
   rw [eN,List.flatten_replicate_singleton,List.map_replicate]
   rfl
  refine ⟨_,rfl,_,_,rfl,rfl,.inl ⟨by decide,by decide⟩,3 * n,(congrArg (fun z=>[V.int z]) (by omega:(3 * (n:Int))=((3 * n:Nat):Int))),by omega,fun f hf=>?_⟩
  have hfm:f≠m:=fun z=>by rw [z,Zc] at hf; cases hf
  have hm0:H m=none:=by
   have:m≠q:=fun z=>by rw [z,Zc] at hm; cases hm
   rw [Ze this] at hm; exact hm
  have hf0:H f=none:=by
   rw [Ze hfm] at hf
   have:f≠q:=fun z=>by rw [z,Zc] at hf; cases hf
   rw [Ze this] at hf; exact hf
  have sm0:Same H (upd (upd (upd H q (.lst [.non])) m (.lst (List.replicate (3 * (n:Int)).toNat [V.non]).flatten)) f (.lst ((List.range (3 * n)).map fun (i:Nat)=>V.int i))):=Same.add (Same.add (Same.new hq) hm0) hf0
  show tSeq (Ug _ _) _ _ _ _
  refine Yg (fun σ H1=>∃ (M:List (Option Nat)) (v4 v5 v6 v7 v8:Option V),σ=[some (.ref a),some (.int n),some (.int sh),some (.ref m),v4,v5,v6,v7,v8]∧Same H H1∧H1 m=some (.lst (M.map mV))∧M.length=3 * n∧∀ (i j:Nat),M[i]?=some (some j)→M[j]?=some (some i)∧i≠j) (fun nx hnx=>?_) ?_
  ·refine ⟨fun c σ H1=>∃ (F:List Nat) (M:List (Option Nat)) (at':Nat) (v6 v7 v8:Option V),c=F.length∧σ=[some (.ref a),some (.int n),some (.int sh),some (.ref m),some (.ref f),some (.int at'),v6,v7,v8]∧Same H H1∧H1 m=some (.lst (M.map mV))∧H1 f=some (.lst (F.map fun (i:Nat)=>V.int i))∧SewOk (3 * n) F M∧at' + F.length≤3 * n,
    ⟨_,List.range (3 * n),List.replicate (3 * n) none,0,none,none,none,rfl,rfl,sm0,?_,Zc,SewOk.start _,by simp⟩,?_⟩
   ·rw [Ze hfm.symm,Zc,eM]
   rintro c σ H1 ⟨F,M,at',v6,v7,v8,rfl,rfl,sm,g1,g2,hs,hat⟩
   refine ⟨_,rfl,f,_,rfl,.inl (SqL.of g2),_,_,rfl,rfl,_,rfl,?_⟩
   rw [List.length_map]
   refine ite2 (fun g=>?_) (fun g=>?_)
   ·have g:1 < F.length:=by have:=of_decide_eq_true g; omega
    obtain ⟨one,F',rfl⟩:∃ one F',F=one :: F':=by
     cases F with
     | nil=>simp at g
     | cons a b=>exact ⟨a,b,rfl⟩
    rw [List.length_cons] at g hat
    refine ⟨_,fun σ' H' h=>h,?_⟩
    refine ⟨_,rfl,.inl ⟨rfl,_,SqL.of g2⟩,f,_,0,0,V.int one,rfl,rfl,g2,by decide,by decide,(by simp [seqIndex?]),rfl,?_⟩
    have e0:((one :: F').map fun (i:Nat)=>V.int i).eraseIdx 0=F'.map fun (i:Nat)=>V.int i:=rfl
    rw [e0]
    have g2':(upd H1 f (.lst (F'.map fun (i:Nat)=>V.int i))) f=some (.lst (F'.map fun (i:Nat)=>V.int i)):=Zc
    have g1':(upd H1 f (.lst (F'.map fun (i:Nat)=>V.int i))) m=some (.lst (M.map mV)):=by rw [Ze hfm.symm]; exact g1
    have sm':Same H (upd H1 f (.lst (F'.map fun (i:Nat)=>V.int i))):=Same.add sm hf0
    generalize upd H1 f (.lst (F'.map fun (i:Nat)=>V.int i))=H2 at g1' g2' sm' ⊢
    have hpick:at' < xs.length:=by omega
    refine ⟨_,rfl,_,rfl,a,_,_,_,rfl,rfl,SqL.of (sm' _ _ ha),X4 (getI hpick),?_⟩
    obtain ⟨p0,p1⟩:=hx _ (List.getElem_mem hpick)
    have ep:xs.getD at' 0=xs[at']:=by rw [List.getD_eq_getElem?_getD,List.getElem?_eq_getElem hpick]; rfl
    rw [ep]
    generalize xs[at']=pick at p0 p1 ⊢
    refine ⟨_,rfl,_,_,rfl,rfl,?_⟩
    refine ⟨_,rfl,_,_,rfl,rfl,(by show (0:Int) < 7; decide),_,rfl,_,_,rfl,rfl,_,rfl,?_⟩
    refine ite2 (fun _=>?_) (fun _=>?_)
    ·-- other=free.pop(..)
     have hF:(0:Int) < F'.length:=by omega
     have k0:=Int.emod_nonneg (pick / 7) (show (F'.length:Int)≠0 by omega)
     have k1:=Int.emod_lt_of_pos (pick / 7) hF
     obtain ⟨kk,hkk⟩:∃ kk:Nat,pick / 7 % (F'.length:Int)=kk:=⟨_,(Int.toNat_of_nonneg k0).symm⟩
     have hkl:kk < F'.length:=by omega
     refine ⟨_,rfl,.inl ⟨rfl,_,SqL.of g2'⟩,_,rfl,_,_,rfl,rfl,⟨by decide,by decide⟩,_,rfl,f,_,rfl,.inl (SqL.of g2'),_,_,rfl,rfl,(by rw [List.length_map]; exact hF),f,_,_,kk,V.int F'[kk],rfl,rfl,g2',?_,?_,?_,?_,?_⟩
     ·rw [List.length_map,hkk]; omega
     ·rw [List.length_map,hkk]; omega
     ·rw [List.length_map,hkk]; simp [seqIndex?]; omega
     ·rw [natV,List.getElem?_eq_getElem hkl]; rfl
     have e1:(F'.map fun (i:Nat)=>V.int i).eraseIdx kk=(F'.eraseIdx kk).map fun (i:Nat)=>V.int i:=by rw [Zhb]
     rw [e1]
     have hp:=hs.pair (List.getElem?_eq_getElem hkl)
     have l1:one < M.length:=by rw [hs.len]; exact (hs.free one List.mem_cons_self).1
     have l2:F'[kk] < M.length:=by rw [hs.len]; exact (hs.free _ (List.mem_cons_of_mem _ (List.getElem_mem hkl))).1
     have g1'':(upd H2 f (.lst ((F'.eraseIdx kk).map fun (i:Nat)=>V.int i))) m=some (.lst (M.map mV)):=by rw [Ze hfm.symm]; exact g1'
     refine ⟨_,rfl,_,rfl,_,rfl,m,_,_,one,rfl,rfl,g1'',(by rw [List.length_map]; exact Oe l1),?_⟩
     refine ⟨_,rfl,_,rfl,_,rfl,m,_,_,F'[kk],rfl,rfl,Zc,(by rw [List.length_set,List.length_map]; exact Oe l2),?_⟩
     refine ⟨(F'.eraseIdx kk).length,?_,F'.eraseIdx kk,(M.set one (some F'[kk])).set F'[kk] (some one),at' + 1,_,_,_,rfl,rfl,Same.add (Same.add (Same.add sm' hf0) hm0) hm0,?_,?_,hp,?_⟩
     ·rw [List.length_eraseIdx_of_lt hkl,List.length_cons]; omega
     ·rw [Zc]
      show some (HO.lst (((M.map mV).set one (mV (some F'[kk]))).set F'[kk] (mV (some one))))=_
      rw [map_set,map_set]
     ·rw [Ze hfm,Ze hfm,Zc]
     ·rw [List.length_eraseIdx_of_lt hkl]; omega
    ·exact ⟨F'.length,by rw [List.length_cons]; omega,F',M,at' + 1,_,_,_,rfl,rfl,sm',g1',g2',hs.skip,by omega⟩
   ·exact hnx _ _ ⟨M,_,_,_,_,_,rfl,sm,g1,hs.len,hs.inv⟩
  rintro σ H1 ⟨M,v4,v5,v6,v7,v8,rfl,sm,g1,hl',hi'⟩
  exact ⟨_,rfl,k m M H1 sm hm0 g1 hl' hi'⟩
end
end KT
set_option maxHeartbeats 4000000
namespace KT
open PySem L2
theorem W6 {lo:Int} {n:Nat} {g:TG} {tt:TT} {tb:TB} {R:St→Hp→Prop} {σ:St} {H:Hp} (Pv:Nat→St→Hp→Prop) (h0:Pv 0 σ H)
  (hs:∀ (i:Nat) σ H,i < n→Pv i σ H→g (.int (lo + i)) σ H fun σ2 H2=>tt σ2 H2 fun b H3=>if b=true then tb σ2 H3 (Pv (i + 1)) else Pv (i + 1) σ2 H3) (hd:∀ σ H,Pv n σ H→R σ H):Wg (Itr lo n) g tt tb R σ H:=by
 refine ⟨fun i m σ H=>m=n - i∧i≤n∧Pv i σ H,⟨n,by simp,Nat.zero_le _,h0⟩,?_⟩
 rintro i m σ H ⟨rfl,hi,p⟩
 by_cases hlt:i < n
 ·refine .inr ⟨hlt,Pv (i + 1),fun σ' H' p'=>⟨n - (i + 1),by omega,rfl,hlt,p'⟩,fun x H' y=>?_⟩
  obtain ⟨e,y⟩:=y
  subst e y
  exact hs i σ _ hlt p
 ·have e:i=n:=by omega
  subst e
  exact .inl ⟨Nat.le_refl _,hd σ H p⟩
theorem Xr {K:PySem.W.Frag} {a:Addr} {xs:List V} {g:TG} {tt:TT} {tb:TB} {R:St→Hp→Prop} {σ:St} {H:Hp} (Pv:Nat→St→Hp→Prop) (h0:Pv 0 σ H) (hl:∀ i σ H,i≤xs.length→Pv i σ H→SqL K H a xs)
  (hs:∀ (i:Nat) x σ H,xs[i]?=some x→Pv i σ H→g x σ H fun σ2 H2=>tt σ2 H2 fun b H3=>if b=true then tb σ2 H3 (Pv (i + 1)) else Pv (i + 1) σ2 H3) (hd:∀ σ H,Pv xs.length σ H→R σ H):Wg (Itl K a) g tt tb R σ H:=by
 refine ⟨fun i m σ H=>m=xs.length - i∧i≤xs.length∧Pv i σ H,⟨xs.length,by simp,Nat.zero_le _,h0⟩,?_⟩
 rintro i m σ H ⟨rfl,hi,p⟩
 have q:=hl i σ H hi p
 by_cases hlt:i < xs.length
 ·refine .inr ⟨⟨xs,xs[i],q,by simp [hlt]⟩,Pv (i + 1),fun σ' H' p'=>⟨xs.length - (i + 1),by omega,rfl,hlt,p'⟩,fun x H' y=>?_⟩
  obtain ⟨e,y⟩:=y
  subst e
  exact hs i x σ _ (y xs q) p
 ·have e:i=xs.length:=by omega
  subst e
  exact .inl ⟨⟨xs,q,Nat.le_refl _⟩,hd σ H p⟩
theorem Zcm {K:PySem.W.Frag} {a:Addr} {xs:List V} {g:TG} {tt:TT} {tb:TB} {R:St→Hp→Prop} {σ:St} {H:Hp} (Pv:Nat→St→Hp→Prop) (h0:Pv 0 σ H) (hl:∀ i σ H,i≤xs.length→Pv i σ H→SqT K H a xs)
  (hs:∀ (i:Nat) x σ H,xs[i]?=some x→Pv i σ H→g x σ H fun σ2 H2=>tt σ2 H2 fun b H3=>if b=true then tb σ2 H3 (Pv (i + 1)) else Pv (i + 1) σ2 H3) (hd:∀ σ H,Pv xs.length σ H→R σ H):Wg (Itt K a) g tt tb R σ H:=by
 refine ⟨fun i m σ H=>m=xs.length - i∧i≤xs.length∧Pv i σ H,⟨xs.length,by simp,Nat.zero_le _,h0⟩,?_⟩
 rintro i m σ H ⟨rfl,hi,p⟩
 have q:=hl i σ H hi p
 by_cases hlt:i < xs.length
 ·refine .inr ⟨⟨xs,xs[i],q,by simp [hlt]⟩,Pv (i + 1),fun σ' H' p'=>⟨xs.length - (i + 1),by omega,rfl,hlt,p'⟩,fun x H' y=>?_⟩
  obtain ⟨e,y⟩:=y
  subst e
  exact hs i x σ _ (y xs q) p
 ·have e:i=xs.length:=by omega
  subst e
  exact .inl ⟨⟨xs,q,Nat.le_refl _⟩,hd σ H p⟩
noncomputable def row3 (ns:List Int) (k:Nat):List V:=[.int (ns.getD (3 * k) 0),.int (ns.getD (3 * k + 1) 0),.int (ns.getD (3 * k + 2) 0)]
noncomputable def Yp (H:Hp) (r:Addr) (ns:List Int):Prop:=∃ ts:List Addr,H r=some (.lst (ts.map V.ref))∧ns.length=3 * ts.length∧∀ (k:Nat) (t:Addr),ts[k]?=some t→H t=some (.tup (row3 ns k))
theorem Yp.same {H H':Hp} {r:Addr} {ns:List Int} (h:Yp H r ns) (s:Same H H'):Yp H' r ns:=by
 obtain ⟨ts,h1,h2,h3⟩:=h
 exact ⟨ts,s _ _ h1,h2,fun k t e=>s _ _ (h3 k t e)⟩
noncomputable def Zjw:Sp:=fun vs H Q _=>∃ (a:Addr) (M:List (Option Nat)) (n:Nat) (st sp:Int),vs=[.ref a,.int st,.int sp]∧H a=some (.lst (M.map mV))∧M.length=3 * n∧1≤n∧n≤14∧(∀ (i j:Nat),M[i]?=some (some j)→M[j]?=some (some i)∧i≠j)∧sp∈Vp ∧
 ∀ (p:Addr) (H':Hp),Same H H'→H p=none→Yp H' p (flat M st sp)→Q (.ref p) H'
theorem Oo {t:Int} (h:t∈Vp):-(2 ^ 64) < t∧t < 2 ^ 64:=by
 simp only [Vp,List.mem_cons,List.not_mem_nil,or_false] at h
 rcases h with rfl | rfl | rfl | rfl | rfl | rfl | rfl | rfl <;> decide
theorem Zlt {M:List (Option Nat)} {i:Nat} (h:i < M.length):atI (M.map mV) (0 + (i:Int))=some (mV M[i]):=by
 rw [Int.zero_add]
 exact X4 (by rw [List.getElem?_map,List.getElem?_eq_getElem h]; rfl)
section
variable {P:Program} {w:World} {K:PySem.W.Frag} {mg:Str→Option Value} {base:Heap} {t:Adr}
theorem Qs:FnScope ["_law_mates","_law_start","_law_step","_law_flat","_law_at","_law_mate"] ["_law_mates","_law_start","_law_step"] (Zg Zbt):=⟨rfl,rfl,rfl,by decide +kernel,rfl,by decide +kernel,by decide +kernel⟩
theorem Zg0 (T:Txt w K mg t):FnOk P w K mg base (CXr P w) 1 t.f_l_rows t.d_l_rows ["_law_mates","_law_start","_law_step"] Zjw:=by
 refine T.p_l_rows.F.aR Qs (fun cdv A outer s H vs Q E hr h=>?_)
 ·obtain ⟨a,M,n,st,sp,rfl,ha,hM,h1,h2,hi,hsp,k⟩:=h
  refine ⟨_,(Zd (Zn (i:=3) Qs.nd rfl (Or.inr rfl) (Y8 Zb))
   (Zd (Wc PassesOwn.never rfl (Xh rfl T.n_range (Za (Zo Zm (by rfl) T.n_len PySem.boot_len (Za (pv 0) Zb)) Zb)) (Zq (i:=4) Qs.nd rfl (Or.inl rfl)) (Zd (Zn (i:=5) Qs.nd rfl (Or.inl rfl) (Zv Zw (pv 0) (pv 4) (fun _ _=>rfl)))
   (Zh (Z1 (PW.pt (K9 (Zt Vl (pv 5) Qj (Zs _)) (U9 (Zt J5 (pv 5) (pv 4) (Zs _))))) (Zh (Z8 (Wf PySem.F.plainAttrs_list PySem.F.slot_list_append PySem.F.type_list_append Xa (pv 3) (Za (Zv Zw (pv 3) (pv 5) (fun _ _=>rfl)) Zb)))) (Zh (Z8 (Wf PySem.F.plainAttrs_list PySem.F.slot_list_append PySem.F.type_list_append Xa (pv 3) (Za (Zi Zy (Zi Z0 (pv 1) (Zi Wt (pv 2) (pv 4))) Zf) Zb))))))))
   (Zh (Zl (Xd (ts:=["_law_k"]) (fv:=[("_law_flat",3)]) ⟨rfl,by decide +kernel,by decide +kernel,Yi (by rfl),⟨⟨rfl,rfl,Or.inl rfl⟩,trivial⟩⟩ rfl (Xh rfl T.n_range (Za (Zi Yv (Zo Zm (by rfl) T.n_len PySem.boot_len (Za (pv 0) Zb)) Zf) Zb)) (fun _ _ _ _=>(Zq (i:=0) (show List.Nodup (["_law_k","_law_flat"]:List Str) from by decide +kernel) rfl (Or.inl rfl) (Or.inr rfl))) (fun _ _ _ _=>Yl) (fun _ _ _=>rfl) (fun _ _ _ _ _ _=>Yu (Xn (Za (Zv (Jm K) (pv 1) (Zi Wt Zf (pv 0)) (fun _ _=>rfl)) (Za (Zv (Jm K) (pv 1) (Zi Z0 (Zi Wt Zf (pv 0)) Zf) (fun _ _=>rfl)) (Za (Zv (Jm K) (pv 1) (Zi Z0 (Zi Wt Zf (pv 0)) Zf) (fun _ _=>rfl)) Zb)))))))))),?_⟩
  refine ⟨Nat.zero_le _,fun f hf=>?_⟩
  have eL:(((M.map mV).length:Nat):Int).toNat=M.length:=by simp
  have ha1:(upd H f (.lst [])) a=some (.lst (M.map mV)):=by rw [Ze (Zj ha hf)]; exact ha
  dsimp only [Zp]
  show tSeq (tFor _ _ _) _ _ _ _
  refine Yg (fun σ H1=>∃ (v4 v5:Option V),σ=[some (.ref a),some (.int st),some (.int sp),some (.ref f),v4,v5]∧Same H H1∧H1 f=some (.lst ((flat M st sp).map V.int))) (fun nx hnx=>?_) ?_
  ·refine ⟨_,rfl,a,_,rfl,.inl (SqL.of ha1),_,rfl,by omega,by rw [List.length_map]; omega,?_⟩
   rw [eL]
   refine Wy (n:=M.length) (fun i σ H1=>∃ (v4 v5:Option V),σ=[some (.ref a),some (.int st),some (.int sp),some (.ref f),v4,v5]∧Same H H1∧H1 f=some (.lst (((List.range i).map fun i=>nm st sp (rep M i)).map V.int))) ⟨none,none,rfl,Same.new hf,Zc⟩ ?_ ?_
   ·rintro i σ H1 hlt ⟨v4,v5,rfl,sm,hfl⟩
    refine ⟨_,rfl,_,rfl,a,_,_,_,rfl,rfl,SqL.of (sm _ _ ha),Zlt hlt,?_⟩
    have fin:∀ x:Int,x=nm st sp (rep M i)→(upd H1 f (.lst (((List.range i).map fun i=>nm st sp (rep M i)).map V.int ++ [V.int x]))) f=some (.lst (((List.range (i + 1)).map fun i=>nm st sp (rep M i)).map V.int)):=fun x hx=>by
     rw [Zc,hx,List.range_succ]
     simp
    have hlen:(((List.range i).map fun i=>nm st sp (rep M i)).map V.int).length < sizeLine:=by
     rw [List.length_map,List.length_map,List.length_range]; exact Zx (by omega)
    refine ⟨_,rfl,rfl,_,rfl,?_⟩
    cases e:M[i] with
    | none =>
     have er:rep M i=i:=by unfold rep; rw [List.getElem?_eq_getElem hlt,e]
     refine iteF ?_
     refine iteF ?_
     refine ⟨_,rfl,.inl ⟨rfl,_,SqL.of hfl⟩,_,rfl,_,rfl,_,rfl,_,_,rfl,rfl,.inl (Oo hsp),_,_,rfl,rfl,_,_,rfl,rfl,(by show (0:Int) < 10000; decide),f,_,_,rfl,rfl,hfl,hlen,?_⟩
     exact ⟨_,_,rfl,Same.add sm hf,fin _ (by rw [er]; unfold nm; rw [Int.zero_add])⟩
    | some j =>
     have hMi:M[i]?=some (some j):=by rw [List.getElem?_eq_getElem hlt,e]
     refine iteT ?_
     refine ⟨_,rfl,_,rfl,_,_,rfl,rfl,_,rfl,?_⟩
     refine ite2 (fun g=>?_) (fun g=>?_)
     ·have g:j < i:=by have:=of_decide_eq_true g; omega
      have er:rep M i=j:=by unfold rep; rw [hMi]; exact if_pos g
      have erj:rep M j=j:=by unfold rep; rw [(hi i j hMi).1]; exact if_neg (by omega)
      have ej:atI (((List.range i).map fun i=>nm st sp (rep M i)).map V.int) (j:Int)=some (V.int (nm st sp (rep M i))):=by
       refine X4 ?_
       rw [List.getElem?_map,List.getElem?_map,List.getElem?_range g,er]
       show some (V.int (nm st sp (rep M j)))=_
       rw [erj]
      refine ⟨_,rfl,.inl ⟨rfl,_,SqL.of hfl⟩,_,rfl,_,rfl,f,_,_,_,rfl,rfl,SqL.of hfl,ej,f,_,_,rfl,rfl,hfl,hlen,?_⟩
      exact ⟨_,_,rfl,Same.add sm hf,fin _ rfl⟩
     ·have g:¬ j < i:=by
       have:¬ ((j:Int) < 0 + (i:Int)):=fun z=>g (decide_eq_true z)
       omega
      have er:rep M i=i:=by unfold rep; rw [hMi]; exact if_neg g
      refine ⟨_,rfl,.inl ⟨rfl,_,SqL.of hfl⟩,_,rfl,_,rfl,_,rfl,_,_,rfl,rfl,.inl (Oo hsp),_,_,rfl,rfl,_,_,rfl,rfl,(by show (0:Int) < 10000; decide),f,_,_,rfl,rfl,hfl,hlen,?_⟩
      exact ⟨_,_,rfl,Same.add sm hf,fin _ (by rw [er]; unfold nm; rw [Int.zero_add])⟩
   ·rintro σ H1 ⟨v4,v5,rfl,sm,hfl⟩
    exact hnx _ _ ⟨v4,v5,rfl,sm,hfl⟩
  rintro σ H1 ⟨v4,v5,rfl,sm,hfl⟩
  refine ⟨_,rfl,a,_,rfl,.inl (SqL.of (sm _ _ ha)),_,_,rfl,rfl,⟨by decide,by decide⟩,_,rfl,by rw [List.length_map]; omega,by rw [List.length_map]; omega,fun D hD=>?_⟩
  have eD:((((M.map mV).length:Nat):Int) / 3).toNat=n:=by rw [List.length_map,hM]; omega
  have hD0:H D=none:=sm.free hD
  have hfD:f≠D:=fun z=>by rw [z] at hfl; rw [hD] at hfl; cases hfl
  have hlf:(flat M st sp).length=3 * n:=by unfold flat; simp [hM]
  show Wg (Itr 0 ((((M.map mV).length:Nat):Int) / 3).toNat) _ _ _ _ _ _
  rw [eD]
  refine W6 (fun i σ H2=>∃ (ts:List Addr) (v:Option V),σ=[v,some (.ref f)]∧Same H H2∧H2 D=some (.lst (ts.map V.ref))∧ts.length=i∧H2 f=some (.lst ((flat M st sp).map V.int))∧∀ (k:Nat) (t:Addr),ts[k]?=some t→H2 t=some (.tup (row3 (flat M st sp) k)))
   ⟨[],none,rfl,Same.add sm hD0,Zc,rfl,by rw [Ze hfD]; exact hfl,fun k t z=>by simp at z⟩ ?_ ?_
  ·rintro i σ H2 hlt ⟨ts,v,rfl,sm2,g1,hl2,g2,g3⟩
   have at':∀ (c:Nat) (z:Int),c < 3→z=3 * (0 + (i:Int)) + c→atI ((flat M st sp).map V.int) z=some (V.int ((flat M st sp).getD (3 * i + c) 0)):=fun c z hc hz=>by
    have e:z=((3 * i + c:Nat):Int):=by omega
    rw [e]
    exact X4 (getI (by omega))
   dsimp only [Zp,tYes]
   rw [if_pos rfl]
   refine ⟨_,rfl,_,rfl,_,_,rfl,rfl,.inl ⟨by decide,by decide⟩,f,_,_,_,rfl,rfl,SqL.of g2,at' 0 _ (by decide) (by simp),?_⟩
   refine ⟨_,rfl,_,rfl,_,_,rfl,rfl,.inl ⟨by decide,by decide⟩,_,_,rfl,rfl,f,_,_,_,rfl,rfl,SqL.of g2,at' 1 _ (by decide) rfl,?_⟩
   refine ⟨_,rfl,_,rfl,_,_,rfl,rfl,.inl ⟨by decide,by decide⟩,_,_,rfl,rfl,f,_,_,_,rfl,rfl,SqL.of g2,at' 2 _ (by decide) rfl,?_⟩
   refine ⟨(by show 3≤sizeLine; decide),fun q hq=>?_⟩
   have hqD:q≠D:=fun z=>by rw [z,g1] at hq; cases hq
   have hqf:q≠f:=fun z=>by rw [z,g2] at hq; cases hq
   have hq0:H q=none:=sm2.free hq
   refine ⟨_,by rw [Ze (Ne.symm hqD)]; exact g1,(by rw [List.length_map]; exact Zx (by omega)),ts ++ [q],_,rfl,Same.add (Same.add sm2 hq0) hD0,?_,?_,?_,?_⟩
   ·rw [Zc]; simp
   ·rw [List.length_append,List.length_singleton,hl2]
   ·rw [Ze hfD,Ze (Ne.symm hqf)]; exact g2
   ·intro k t z
    by_cases hk:k < ts.length
    ·rw [List.getElem?_append_left hk] at z
     have g:=g3 k t z
     rw [Ze (fun e=>by rw [e,g1] at g; cases g),Ze (Zj g hq)]
     exact g
    ·have hk2:k=ts.length:=by
      have:=(List.getElem?_eq_some_iff.mp z).1
      rw [List.length_append,List.length_singleton] at this
      omega
     subst hk2
     have:t=q:=by simpa using z.symm
     subst this
     rw [Ze hqD,Zc,hl2]
     rfl
  ·rintro σ H2 ⟨ts,v,rfl,sm2,g1,hl2,g2,g3⟩
   exact k D H2 sm2 hD0 ⟨ts,g1,by rw [hlf,hl2],g3⟩
end
end KT
set_option maxHeartbeats 4000000
namespace KT
open PySem L2
theorem at4 {i:Int} (h0:0≤i) (h1:i < 4):∃ sh:Int,atI [V.int 0,V.int 0,V.int 1,V.int 3] i=some (V.int sh):=by
 obtain rfl | rfl | rfl | rfl:i=0∨i=1∨i=2∨i=3:=by omega
 all_goals exact ⟨_,rfl⟩
theorem at8 {i:Int} (h0:0≤i) (h1:i < 8):∃ sp:Int,sp∈Vp∧atI [V.int 1,V.int 3,V.int 7,V.int 9,V.int 37,V.int 1009,V.int 3333,V.int 9999] i=some (V.int sp):=by
 obtain rfl | rfl | rfl | rfl | rfl | rfl | rfl | rfl:i=0∨i=1∨i=2∨i=3∨i=4∨i=5∨i=6∨i=7:=by omega
 all_goals exact ⟨_,by decide,rfl⟩
noncomputable def Zjt (K:PySem.W.Frag):Sp:=fun vs H Q _=>∃ (a:Addr) (ns:List Int),vs=[.ref a]∧SqL K H a (ns.map V.int)∧ns.length≤63 ∧
 ∀ (p m r:Addr) (M:List (Option Nat)) (nms:List Int) (H':Hp),Same H H'→H' p=some (.tup [.ref m,.ref r])→H' m=some (.lst (M.map mV))→Yp H' r nms→TD M nms→M.length≤42→H m=none→H r=none→Q (.ref p) H'
section
variable {P:Program} {w:World} {K:PySem.W.Frag} {mg:Str→Option Value} {base:Heap} {t:Adr}
theorem X5:FnScope ["_law_script","_law_head","_law_many","_law_names","_law_share","_law_mates","_law_step"] ["_law_script"] (Zg Zbq):=⟨rfl,rfl,rfl,by decide +kernel,rfl,by decide +kernel,by decide +kernel⟩
theorem Zgx (T:Txt w K mg t):FnOk P w K mg base (CXr P w) 2 t.f_l_tent t.d_l_tent ["_law_script"] (Zjt K):=by
 refine T.p_l_tent.F.aR X5 (fun cdv A outer s H vs Q E hr h=>?_)
 ·obtain ⟨a,ns,rfl,hS,hl,k⟩:=h
  refine ⟨_,(Zd (Zn (i:=1) X5.nd rfl (Or.inl rfl) (pcT (Jv T) hr T.p_l_cell (Za (pv 0) (Za Zf Zb))))
   (Zd (Zn (i:=2) X5.nd rfl (Or.inl rfl) (Zi Z0 Zf (Zi Zy (pv 1) Zf)))
   (Zd (Z1 (Zt Xq (Zi Zy (Zi Yv (pv 1) Zf) Zf) Zf (Zs _)) (Zh (Zn (i:=2) X5.nd rfl (Or.inl rfl) (Zi Z0 Zf (Zi Zy (Zi Yv (pv 1) Zf) Zf)))) Zu)
   (Zd (Zn (i:=3) X5.nd rfl (Or.inl rfl) (pcT (Jv T) hr T.p_l_cell (Za (pv 0) (Za Zf Zb))))
   (Zd (Zn (i:=4) X5.nd rfl (Or.inl rfl) (Zv Wj (Xn (Za Zf (Za Zf (Za Zf (Za Zf Zb))))) (Zi Zy (pv 3) Zf) (fun _ _=>rfl)))
   (Zd (Zn (i:=5) X5.nd rfl (Or.inl rfl) (pcT (Zgy T) hr T.p_l_sewn (Za (pcT (U2 T) hr T.p_l_numbers (Za (pcT (Jv T) hr T.p_l_cell (Za (pv 0) (Za Zf Zb))) (Za Zf Zb))) (Za (pv 2) (Za (pv 4) Zb)))))
   (Zd (Zn (i:=6) X5.nd rfl (Or.inl rfl) (Zv Wj (Xn (Za Zf (Za Zf (Za Zf (Za Zf (Za Zf (Za Zf (Za Zf (Za Zf Zb))))))))) (Zi Zy (Zi Yv (pv 3) Zf) Zf) (fun _ _=>rfl)))
   (Zh (Zl (Xn (Za (pv 5) (Za (pcT (Zg0 T) hr T.p_l_rows (Za (pv 5) (Za (Zi Zy (Zi Yv (pv 3) Zf) Zf) (Za (pv 6) Zb)))) Zb)))))))))))),?_⟩
  refine ⟨_,rfl,a,ns,0,rfl,hS,hl,by decide,by decide,?_⟩
  generalize cell ns 0=hd
  refine ⟨_,rfl,_,_,rfl,rfl,(by show (0:Int) < 6; decide),_,_,rfl,rfl,?_⟩
  dsimp only [Zp]
  show tSeq (tIfS _ _ _) _ _ _ _
  refine Yg (fun σ H1=>∃ n:Nat,1≤n∧n≤14∧σ=[some (.ref a),some (.int hd),some (.int n),none,none,none,none]∧H1=H) (fun nx hnx=>?_) ?_
  ·refine ⟨_,rfl,_,_,rfl,rfl,⟨by decide,by decide⟩,_,_,rfl,rfl,(by show (0:Int) < 9; decide),rfl,_,rfl,?_⟩
   refine ite2 (fun _=>?_) (fun _=>?_)
   ·refine ⟨_,rfl,_,_,rfl,rfl,⟨by decide,by decide⟩,_,_,rfl,rfl,(by show (0:Int) < 8; decide),_,_,rfl,rfl,?_⟩
    have e:(7 + hd / 54 % 8:Int)=((7 + (hd / 54 % 8).toNat:Nat):Int):=by omega
    exact hnx _ _ ⟨7 + (hd / 54 % 8).toNat,by omega,by omega,by rw [← e]; rfl,rfl⟩
   ·have e:(1 + hd % 6:Int)=((1 + (hd % 6).toNat:Nat):Int):=by omega
    exact hnx _ _ ⟨1 + (hd % 6).toNat,by omega,by omega,by rw [← e]; rfl,rfl⟩
  rintro σ H1 ⟨n,n1,n2,rfl,rfl⟩
  refine ⟨_,rfl,a,ns,2,rfl,hS,hl,by decide,by decide,?_⟩
  generalize cell ns 2=nam
  refine ⟨(by show 4≤sizeLine; decide),fun q hq=>?_⟩
  have m4:0≤nam % 4∧nam % 4 < 4:=by omega
  obtain ⟨sh,esh⟩:=at4 m4.1 m4.2
  refine ⟨_,rfl,_,_,rfl,rfl,(by show (0:Int) < 4; decide),q,_,_,_,rfl,rfl,SqT.of Zc,esh,?_⟩
  have s1:Same H1 (upd H1 q (.tup [V.int 0,V.int 0,V.int 1,V.int 3])):=Same.new hq
  refine ⟨_,rfl,a,ns,1,rfl,s1.seq hS,hl,by decide,by decide,?_⟩
  refine ⟨_,60,rfl,by decide,fun p xs H2 s2 hp h2 h60 hx=>?_⟩
  refine ⟨_,rfl,_,rfl,p,xs,n,sh,rfl,h2,h60,hx,n1,n2,fun m M H3 s3 hm hM hlen hinv=>?_⟩
  have s13:Same H1 H3:=(s1.trans s2).trans s3
  have hm0:H1 m=none:=(s1.trans s2).free hm
  refine ⟨(by show 8≤sizeLine; decide),fun q2 hq2=>?_⟩
  have m8:0≤nam / 4 % 8∧nam / 4 % 8 < 8:=by omega
  obtain ⟨sp,hsp,esp⟩:=at8 m8.1 m8.2
  refine ⟨_,rfl,_,_,rfl,rfl,⟨by decide,by decide⟩,_,_,rfl,rfl,(by show (0:Int) < 8; decide),q2,_,_,_,rfl,rfl,SqT.of Zc,esp,?_⟩
  have s14:Same H1 (upd H3 q2 (.tup [V.int 1,V.int 3,V.int 7,V.int 9,V.int 37,V.int 1009,V.int 3333,V.int 9999])):=Same.add s13 (s13.free hq2)
  have hM4:(upd H3 q2 (.tup [V.int 1,V.int 3,V.int 7,V.int 9,V.int 37,V.int 1009,V.int 3333,V.int 9999])) m=some (.lst (M.map mV)):=by rw [Ze (Zj hM hq2)]; exact hM
  refine ⟨_,rfl,_,rfl,_,rfl,_,_,rfl,rfl,⟨by decide,by decide⟩,_,_,rfl,rfl,(by show (0:Int) < 10000; decide),_,rfl,m,M,n,_,sp,rfl,hM4,hlen,n1,n2,hinv,hsp,fun r H5 s5 hr5 hrow=>?_⟩
  refine ⟨(by show 2≤sizeLine; decide),fun p5 hp5=>?_⟩
  have s15:=s14.trans s5
  have hr0:H1 r=none:=s14.free hr5
  refine k p5 m r M _ _ (Same.add s15 (s15.free hp5)) Zc ?_ (hrow.same (Same.new hp5)) (Zjk n1 n2 hlen hinv hsp) (by omega) hm0 hr0
  rw [Ze (Zj (s5 _ _ hM4) hp5)]
  exact s5 _ _ hM4
end
end KT
set_option maxHeartbeats 4000000
namespace KT
open PySem L2
noncomputable def spk (ns:List Int) (n:Nat) (f:Int→Addr):List (Key × V):=(keys ns n).map fun x=>((Sum.inl x:Key),V.ref (f x))
structure SpotsF (H:Hp) (ns:List Int) (n:Nat) (f:Int→Addr):Prop where
 inj:∀ x∈keys ns n,∀ y∈keys ns n,f x=f y→x=y
 at':∀ x∈keys ns n,H (f x)=some (.lst ((pl ns n x).map nV))
noncomputable def Zc6:Sp:=fun vs H Q _=>∃ (a:Addr) (M:List (Option Nat)) (ns:List Int),vs=[.ref a]∧H a=some (.lst (ns.map V.int))∧TD M ns∧ns.length≤120 ∧
 ∀ (d:Addr) (f:Int→Addr) (H':Hp),Same H H'→H d=none→H' d=some (.dK (spk ns ns.length f))→SpotsF H' ns ns.length f→(∀ x∈keys ns ns.length,H (f x)=none)→Q (.ref d) H'
section
variable {P:Program} {w:World} {K:PySem.W.Frag} {mg:Str→Option Value} {base:Heap} {t:Adr}
theorem Jr:FnScope ["names_at","spots","place","name"] ["names_at"] (Zg Kz):=⟨rfl,rfl,rfl,by decide +kernel,rfl,by decide +kernel,by decide +kernel⟩
theorem Zdg (T:Txt w K mg t):FnOk P w K mg base (CXr P w) 1 t.f_spots_of t.d_spots_of ["names_at"] Zc6:=by
 refine T.p_spots_of.F.aR Jr (fun cdv A outer s H vs Q E hr h=>?_)
 ·obtain ⟨a,M,ns,rfl,ha,td,hl,k⟩:=h
  have hu:=Xy hr
  refine ⟨_,(Zd (Zn (i:=1) Jr.nd rfl (Or.inl rfl) Vx)
   (Zd (Wc PassesOwn.never rfl (Zkc rfl T.n_enumerate (Za (pv 0) Zb)) (W0 rfl (Zz (Zq (i:=2) Jr.nd rfl (Or.inl rfl)) (Zz (Zq (i:=3) Jr.nd rfl (Or.inl rfl)) Xk))) (Zd (Z1 (PW.pt (Wl (Zt J5 (pv 3) Zf (Zs _)) (Wb (Zt Q0 (pv 3) (Ji (v:=.int 9999) rfl T.c_GREATEST_NAME ⟨_,rfl⟩) (Zs _))))) Yt Zu)
   (Zd (Z8 (Wf PySem.F.plainAttrs_list PySem.F.slot_list_append PySem.F.type_list_append Xa (Zib (pv 1) (pv 3) (Y8 Zb) ⟨rfl,rfl,rfl,rfl⟩) (Za (pv 2) Zb)))
   (Zh (Z1 (Zt Q0 (Zo Zm (by rfl) T.n_len PySem.boot_len (Za (Vk hu (pv 1) (pv 3) (fun _ _=>rfl)) Zb)) Zf (Zs _)) Yt Zu)))))
   (Zh (Zl (pv 1))))),?_⟩
  intro d hd
  have hda:a≠d:=Zj ha hd
  dsimp only [Zp]
  show tSeq (tFor _ _ _) _ _ _ _
  refine Yg (fun σ H1=>∃ (f:Int→Addr) (v2 v3:Option V),σ=[some (.ref a),some (.ref d),v2,v3]∧Same H H1∧H1 d=some (.dK (spk ns ns.length f))∧SpotsF H1 ns ns.length f∧∀ x∈keys ns ns.length,H (f x)=none) (fun nx hnx=>?_) ?_
  ·refine ⟨_,rfl,a,rfl,⟨_,SqL.of (by rw [Ze hda]; exact ha)⟩,?_⟩
   have el:(ns.map V.int).length=ns.length:=by simp
   refine Zi0 (xs:=ns.map V.int) (fun i σ H1=>∃ (f:Int→Addr) (v2 v3:Option V),σ=[some (.ref a),some (.ref d),v2,v3]∧Same H H1∧H1 d=some (.dK (spk ns i f))∧SpotsF H1 ns i f∧∀ x∈keys ns i,H (f x)=none)
    ⟨fun _=>0,none,none,rfl,Same.new hd,Zc,⟨fun x hx=>by simp [keys] at hx,fun x hx=>by simp [keys] at hx⟩,fun x hx=>by simp [keys] at hx⟩ ?_ ?_ ?_
   ·rintro i σ H1 _ ⟨f,v2,v3,rfl,sm,_⟩
    exact SqL.of (sm _ _ ha)
   ·rintro i x0 σ H1 q hx hq ⟨f,v2,v3,rfl,sm,hd1,sf,hf0⟩
    have hi:i < ns.length:=by rw [← el]; exact (List.getElem?_eq_some_iff.mp hx).1
    obtain ⟨x,hx'⟩:∃ x,ns[i]?=some x:=⟨_,List.getElem?_eq_getElem hi⟩
    obtain rfl:x0=V.int x:=by rw [List.getElem?_map,hx'] at hx; exact (Option.some.inj hx).symm
    refine ⟨q,_,rfl,SqT.of Zc,rfl,_,_,rfl,_,_,rfl,rfl,?_⟩
    obtain ⟨x0,x1⟩:=td.rng i x hx'
    refine ⟨_,rfl,_,_,rfl,rfl,_,rfl,?_⟩
    rw [decide_eq_false (by omega:¬ x < 0)]
    refine iteF ?_
    refine ⟨_,rfl,_,_,rfl,rfl,_,rfl,?_⟩
    rw [decide_eq_false (by omega:¬ x > 9999)]
    refine iteF ?_
    have hdq:d≠q:=Zj hd1 hq
    have hd2:(upd H1 q (.tup [.int i,.int x])) d=some (.dK (spk ns i f)):=by rw [Ze hdq]; exact hd1
    dsimp only [Xf]
    show tSeq (Zi6 _) _ _ _ _
    refine Yg (fun σ H2=>∃ (f:Int→Addr),σ=[some (.ref a),some (.ref d),some (.int i),some (.int x)]∧Same H H2∧H2 d=some (.dK (spk ns (i + 1) f))∧SpotsF H2 ns (i + 1) f∧∀ x∈keys ns (i + 1),H (f x)=none) (fun nx2 hnx2=>?_) ?_
    ·refine ⟨_,rfl,d,rfl,.inl ⟨_,.inl hd2⟩,_,rfl,Nat.zero_le _,fun l hl'=>?_⟩
     obtain ⟨hlq,hl1⟩:=Xc hl'
     have hdl:d≠l:=Zj hd1 hl1
     have hd3:(upd (upd H1 q (.tup [.int i,.int x])) l (.lst [])) d=some (.dK (spk ns i f)):=by rw [Ze hdl]; exact hd2
     have hlk:(spk ns i f).length < sizeLine:=by unfold spk; rw [List.length_map]; exact Zx (by have:=Qq ns i; omega)
     have hq0:H q=none:=sm.free hq
     have hl0:H l=none:=sm.free hl1
     have smq:Same H (upd (upd H1 q (.tup [.int i,.int x])) l (.lst [])):=Same.add (Same.add sm hq0) hl0
     have hp2:(pl ns i x).length < sizeLine:=Zx (by have:=Zb3 td i x; omega)
     have old:∀ b u,H1 b=some u→(upd (upd H1 q (.tup [.int i,.int x])) l (.lst [])) b=some u:=fun b u e=>by rw [Ze (Zj e hl1),Ze (Zj e hq)]; exact e
     refine ⟨spk ns i f,Sum.inl x,hd3,hlk,rfl,fun v hv=>?_,fun hv=>?_⟩
     ·-- the name stands already
      have hx2:x∈keys ns i:=by
       unfold spk at hv
       rw [W9] at hv
       by_cases c:x∈keys ns i
       ·exact c
       ·rw [if_neg c] at hv; cases hv
      obtain rfl:v=V.ref (f x):=by
       unfold spk at hv
       rw [W9,if_pos hx2] at hv
       exact (Option.some.inj hv).symm
      have ek:keys ns (i + 1)=keys ns i:=by rw [Jx hx',if_pos hx2]
      have hfx:=old _ _ (sf.at' x hx2)
      refine ⟨.inl ⟨rfl,_,SqL.of hfx⟩,_,rfl,f x,_,_,rfl,rfl,hfx,by rw [List.length_map]; exact hp2,hnx2 _ _ ⟨f,rfl,Same.add smq (hf0 x hx2),?_,⟨?_,?_⟩,?_⟩⟩
      ·have:d≠f x:=fun z=>by rw [← z,hd3] at hfx; cases hfx
       rw [Ze this,hd3]
       unfold spk
       rw [ek]
      ·rw [ek]; exact sf.inj
      ·intro y hy
       rw [ek] at hy
       by_cases c:y=x
       ·subst c
        rw [Zc,Zd5 hx',List.map_append]
        rfl
       ·have:f y≠f x:=fun z=>c (sf.inj y hy x hx2 z)
        rw [Ze this,old _ _ (sf.at' y hy),Zb2 (by rw [hx']; intro z; cases z; exact c rfl)]
      ·rw [ek]; exact hf0
     ·-- a new name
      have hx2:x ∉ keys ns i:=by
       intro c
       unfold spk at hv
       rw [W9,if_pos c] at hv
       cases hv
      have ek:keys ns (i + 1)=keys ns i ++ [x]:=by rw [Jx hx',if_neg hx2]
      have ep:putK (spk ns i f) (Sum.inl x) (V.ref l)=spk ns (i + 1) (fun y=>if y=x then l else f y):=by
       unfold spk
       rw [Zd3 hx2,ek,List.map_append]
       congr 1
       ·apply List.map_congr_left
        intro y hy
        dsimp only
        rw [if_neg (fun (z:y=x)=>hx2 (z ▸ hy))]
       ·simp
      rw [ep]
      have hl4:(upd (upd (upd H1 q (.tup [.int i,.int x])) l (.lst [])) d (.dK (spk ns (i + 1) (fun y=>if y=x then l else f y)))) l=some (.lst []):=by rw [Ze (Ne.symm hdl),Zc]
      refine ⟨.inl ⟨rfl,_,SqL.of hl4⟩,_,rfl,l,_,_,rfl,rfl,hl4,by decide,hnx2 _ _ ⟨fun y=>if y=x then l else f y,rfl,Same.add (Same.add smq hd) hl0,?_,⟨?_,?_⟩,?_⟩⟩
      ·rw [Ze hdl,Zc]
      ·intro y hy z hz e
       rw [ek,List.mem_append,List.mem_singleton] at hy hz
       by_cases c1:y=x
       ·by_cases c2:z=x
        ·rw [c1,c2]
        ·have hz':=hz.resolve_right c2
         simp only [c1,c2,if_true,if_false] at e
         exact absurd (sf.at' z hz') (by rw [← e,hl1]; intro w; cases w)
       ·have hy':=hy.resolve_right c1
        by_cases c2:z=x
        ·simp only [c1,c2,if_true,if_false] at e
         exact absurd (sf.at' y hy') (by rw [e,hl1]; intro w; cases w)
        ·have hz':=hz.resolve_right c2
         simp only [c1,c2,if_false] at e
         exact sf.inj y hy' z hz' e
      ·intro y hy
       rw [ek,List.mem_append,List.mem_singleton] at hy
       by_cases c:y=x
       ·subst c
        simp only [if_true]
        rw [Zc,Zd5 hx',Zlg hx2]
        rfl
       ·have hy':=hy.resolve_right c
        have e1:=sf.at' y hy'
        have n1:f y≠l:=Zj e1 hl1
        have n2:f y≠d:=fun z=>by rw [z,hd1] at e1; cases e1
        simp only [c,if_false]
        rw [Ze n1,Ze n2,old _ _ e1,Zb2 (by rw [hx']; intro z; cases z; exact c rfl)]
      ·intro y hy
       rw [ek,List.mem_append,List.mem_singleton] at hy
       by_cases c:y=x
       ·simp only [c,if_true]; exact hl0
       ·simp only [c,if_false]; exact hf0 y (hy.resolve_right c)
    rintro σ H2 ⟨f',rfl,sm2,hd4,sf2,hf2⟩
    have hx3:x∈keys ns (i + 1):=X8.mpr ⟨i,by omega,hx'⟩
    have hg:valV (spk ns (i + 1) f') (Sum.inl x)=some (V.ref (f' x)):=by unfold spk; rw [W9,if_pos hx3]
    refine ⟨_,rfl,_,rfl,d,_,rfl,?_,f' x,_,rfl,.inl (SqL.of (sf2.at' x hx3)),_,_,rfl,rfl,_,rfl,?_⟩
    ·exact .inl ⟨_,Sum.inl x,.inl hd4,rfl,hg.symm⟩
    have h2:=Zb3 td (i + 1) x
    rw [decide_eq_false (by rw [List.length_map]; omega:¬ ((((pl ns (i + 1) x).map nV).length:Nat):Int) > 2)]
    refine iteF ?_
    exact ⟨f',_,_,rfl,sm2,hd4,sf2,hf2⟩
   ·rintro σ H1 ⟨f,v2,v3,rfl,sm,hd1,sf,hf0⟩
    rw [el] at hd1 sf hf0
    exact hnx _ _ ⟨f,v2,v3,rfl,sm,hd1,sf,hf0⟩
  rintro σ H1 ⟨f,v2,v3,rfl,sm,hd1,sf,hf0⟩
  exact ⟨_,rfl,k d f H1 sm hd hd1 sf hf0⟩
noncomputable def Zc8:Sp:=fun vs H Q _=>∃ (d:Addr) (M:List (Option Nat)) (ns:List Int) (f:Int→Addr),vs=[.ref d,.int ns.length]∧H d=some (.dK (spk ns ns.length f))∧SpotsF H ns ns.length f∧TD M ns∧ns.length≤120 ∧
 ∀ (m:Addr) (o:Obj) (H':Hp),(∀ b u,b≠d→H b=some u→H' b=some u)→H m=none→H' m=some (.lst (M.map mV))→H' d=some (.frz o (.dK (spk ns ns.length f)))→Q (.ref m) H'
theorem Q5:FnScope ["spots","count","mates","pair"] ["spots","count"] (Zg K1):=⟨rfl,rfl,rfl,by decide +kernel,rfl,by decide +kernel,by decide +kernel⟩
theorem Zdh (T:Txt w K mg t):FnOk P w K mg base (CXr P w) 1 t.f_mates_of t.d_mates_of ["spots","count"] Zc8:=by
 refine T.p_mates_of.F.aR Q5 (fun cdv A outer s H vs Q E hr h=>?_)
 ·obtain ⟨d,M,ns,f,rfl,hd,sf,td,hl,k⟩:=h
  refine ⟨_,(Zd (Zn (i:=2) Q5.nd rfl (Or.inl rfl) (Zi Zca (Y8 (Za Qj Zb)) (pv 1)))
   (Zd (Wc PassesOwn.never rfl (Zka (pv 0) ⟨rfl,rfl,rfl⟩) (Zq (i:=3) Q5.nd rfl (Or.inl rfl)) (Zh (Z1 (Zt Xq (Zo Zm (by rfl) T.n_len PySem.boot_len (Za (pv 3) Zb)) Zf (Zs _)) (Zd (Wz (Zv Zw (pv 3) Zf (fun _ _=>rfl)) (Gb (pv 2) (Zv Zw (pv 3) Zf (fun _ _=>rfl)) Vr))
   (Zh (Wz (Zv Zw (pv 3) Zf (fun _ _=>rfl)) (Gb (pv 2) (Zv Zw (pv 3) Zf (fun _ _=>rfl)) Vr)))) Zu)))
   (Zh (Zl (pv 2))))),?_⟩
  refine ⟨(by show 1≤sizeLine; decide),fun q hq=>?_⟩
  refine ⟨_,rfl,q,_,_,rfl,rfl,Zc,by omega,by omega,?_,fun m hm=>?_⟩
  ·have:((ns.length:Nat):Int).toNat=ns.length:=by omega
   show 1 * ((ns.length:Nat):Int).toNat≤sizeLine
   rw [this,sizeLine_eq]; omega
  obtain ⟨hmq,hm0⟩:=Xc hm
  have eM:(List.replicate ((ns.length:Nat):Int).toNat [V.non]).flatten=(part M ns []).map mV:=by
   have:((ns.length:Nat):Int).toNat=M.length:=by rw [← td.len]; omega
   rw [this,List.flatten_replicate_singleton,Zid td,List.map_replicate]
   rfl
  rw [eM]
  have hdm:d≠m:=Zj hd hm0
  have hdq:d≠q:=Zj hd hq
  dsimp only [Zp]
  show tSeq (tFor _ _ _) _ _ _ _
  refine Yg (fun σ H1=>∃ (o:Obj) (v:Option V),σ=[some (.ref d),some (.int ns.length),some (.ref m),v]∧(∀ b u,b≠d→H b=some u→H1 b=some u)∧H1 m=some (.lst (M.map mV))∧H1 d=some (.frz o (.dK (spk ns ns.length f)))) (fun nx hnx=>?_) ?_
  ·refine ⟨_,rfl,d,_,rfl,.inl ⟨by rw [Ze hdm,Ze hdq]; exact hd,fun o=>?_⟩⟩
   refine Ziz (fun j σ H1=>∃ (v:Option V),σ=[some (.ref d),some (.int ns.length),some (.ref m),v]∧(∀ b u,b≠d→H b=some u→H1 b=some u)∧H1 m=some (.lst ((part M ns ((keys ns ns.length).take j)).map mV))∧H1 d=some (.frz o (.dK (spk ns ns.length f))))
    ⟨none,rfl,fun b u hb e=>?_,?_,Zc⟩ ?_ ?_ ?_
   ·rw [Ze hb,Ze (Zj e hm0),Ze (Zj e hq)]; exact e
   ·rw [Ze (Ne.symm hdm),Zc]
    rfl
   ·rintro j σ H1 _ ⟨v,rfl,old,h1,h2⟩
    exact h2
   ·rintro j k0 x0 σ H1 hk ⟨v,rfl,old,h1,h2⟩
    obtain ⟨x,hx,rfl⟩:∃ x,(keys ns ns.length)[j]?=some x∧x0=V.ref (f x):=by
     unfold spk at hk
     rw [List.getElem?_map] at hk
     cases e:(keys ns ns.length)[j]? with
     | none=>rw [e] at hk; cases hk
     | some x=>rw [e] at hk; cases hk; exact ⟨x,rfl,rfl⟩
    have hm1:x∈keys ns ns.length:=List.mem_of_getElem? hx
    have et:(keys ns ns.length).take (j + 1)=(keys ns ns.length).take j ++ [x]:=by
     rw [List.take_add_one,hx]; rfl
    have hfx:=sf.at' x hm1
    have hfd:f x≠d:=fun z=>by rw [z,hd] at hfx; cases hfx
    have hf1:=old _ _ hfd hfx
    dsimp only [Zp]
    refine ⟨_,rfl,f x,_,rfl,.inl (SqL.of hf1),rfl,_,rfl,?_⟩
    rcases Vw td hm1 with ⟨a,e,ea,ma⟩ | ⟨a,b,hab,e,ea,eb,ma,mb⟩
    ·rw [e] at hf1 ⊢
     refine iteF ?_
     refine ⟨_,rfl,old,?_,h2⟩
     rw [et,Zic td e ma]
     exact h1
    ·rw [e] at hf1 ⊢
     refine iteT ?_
     have la:a < (part M ns ((keys ns ns.length).take j)).length:=by rw [Xv]; exact (List.getElem?_eq_some_iff.mp ma).1
     have lb:b < (part M ns ((keys ns ns.length).take j)).length:=by rw [Xv]; exact (List.getElem?_eq_some_iff.mp mb).1
     have hfm:f x≠m:=Zj hfx hm0
     refine ⟨_,rfl,f x,_,_,_,rfl,rfl,SqL.of hf1,rfl,?_⟩
     refine ⟨_,rfl,_,rfl,f x,_,_,_,rfl,rfl,SqL.of hf1,rfl,m,_,_,a,rfl,rfl,h1,(by rw [List.length_map]; exact Oe la),?_⟩
     have hf2:(upd H1 m (.lst (((part M ns ((keys ns ns.length).take j)).map mV).set a (nV b)))) (f x)=some (.lst ([a,b].map nV)):=by rw [Ze hfm]; exact hf1
     refine ⟨_,rfl,f x,_,_,_,rfl,rfl,SqL.of hf2,rfl,?_⟩
     refine ⟨_,rfl,_,rfl,f x,_,_,_,rfl,rfl,SqL.of hf2,rfl,m,_,_,b,rfl,rfl,Zc,(by rw [List.length_set,List.length_map]; exact Oe lb),?_⟩
     refine ⟨_,rfl,fun c u hc ec=>?_,?_,?_⟩
     ·have:c≠m:=Zj ec hm0
      rw [Ze this,Ze this]
      exact old c u hc ec
     ·rw [Zc,et,Zgt td e hab ma mb]
      show some (HO.lst ((((part M ns ((keys ns ns.length).take j)).map mV).set a (mV (some b))).set b (mV (some a))))=_
      rw [map_set,map_set]
     ·rw [Ze hdm,Ze hdm]; exact h2
   ·rintro σ H1 ⟨v,rfl,old,h1,h2⟩
    refine hnx _ _ ⟨o,v,rfl,old,?_,h2⟩
    have:(keys ns ns.length).take (spk ns ns.length f).length=keys ns ns.length:=by
     unfold spk; rw [List.length_map,List.take_length]
    rw [this,Zie td] at h1
    exact h1
  rintro σ H1 ⟨o,v,rfl,old,h1,h2⟩
  exact ⟨_,rfl,k m o H1 old hm0 h1 h2⟩
end
end KT
set_option maxHeartbeats 4000000
namespace KT
open PySem L2
noncomputable def X7 (cl na sp mt:Addr):List (Str × V):=putF "mates" (.ref mt) (putF "spots" (.ref sp) (putF "names_at" (.ref na) (putF "cloths" (.ref cl) [])))
theorem Y3 (f:Str) (v:V):∀ fs:List (Str × V),(putF f v fs).length≤fs.length + 1
 | []=>by simp [putF]
 | (g,x) :: r=>by
  have:=Y3 f v r
  unfold putF
  split
  ·simp
  ·simp only [List.length_cons]; omega
theorem s_ns:¬ ("names_at":Str)="spots":=by decide
theorem s_nm:¬ ("names_at":Str)="mates":=by decide
theorem s_sm:¬ ("spots":Str)="mates":=by decide
theorem Zcw (cl na sp mt:Addr):(X7 cl na sp mt).lookup ("names_at":Str)=some (.ref na):=by
 unfold X7; rw [Z5,if_neg s_nm,Z5,if_neg s_ns,Z5,if_pos rfl]
theorem Ko (cl na sp mt:Addr):(X7 cl na sp mt).lookup ("spots":Str)=some (.ref sp):=by
 unfold X7; rw [Z5,if_neg s_sm,Z5,if_pos rfl]
theorem Zi1 (cl na sp mt:Addr):(X7 cl na sp mt).lookup ("mates":Str)=some (.ref mt):=by
 unfold X7; rw [Z5,if_pos rfl]
theorem Xm (cl na sp mt:Addr) {m:Str} (h:m≠"cloths"∧m≠"names_at"∧m≠"spots"∧m≠"mates":=by decide):(X7 cl na sp mt).lookup m=none:=by
 obtain ⟨h1,h2,h3,h4⟩:=h
 unfold X7; rw [Z5,if_neg h4,Z5,if_neg h3,Z5,if_neg h2,Z5,if_neg h1]; rfl
structure TentB (C:Addr) (H:Hp) (p:Addr) (M:List (Option Nat)) (ns:List Int) (dx cl na sp mt:Addr) (o:Obj) (f:Int→Addr):Prop where
 ins:H p=some (.ins C dx (X7 cl na sp mt))
 rows:Yp H cl ns
 names:H na=some (.lst (ns.map V.int))
 spots:H sp=some (.frz o (.dK (spk ns ns.length f)))
 mates:H mt=some (.lst (M.map mV))
 at':∀ x∈keys ns ns.length,H (f x)=some (.lst ((pl ns ns.length x).map nV))
noncomputable def Yb (C:Addr) (H:Hp) (p:Addr) (M:List (Option Nat)) (ns:List Int):Prop:=∃ dx cl na sp mt o f,TentB C H p M ns dx cl na sp mt o f
theorem Yb.same {C:Addr} {H H':Hp} {p:Addr} {M:List (Option Nat)} {ns:List Int} (h:Yb C H p M ns) (s:Same H H'):Yb C H' p M ns:=by
 obtain ⟨dx,cl,na,sp,mt,o,f,b⟩:=h
 exact ⟨dx,cl,na,sp,mt,o,f,s _ _ b.ins,b.rows.same s,s _ _ b.names,s _ _ b.spots,s _ _ b.mates,fun x hx=>s _ _ (b.at' x hx)⟩
theorem Zhr {ns:List Int} {k n:Nat} (h:ns.length=3 * n) (hk:k < n):(ns.take (3 * k)).map V.int ++ row3 ns k=(ns.take (3 * (k + 1))).map V.int:=by
 have e:ns.take (3 * (k + 1))=ns.take (3 * k) ++ [ns.getD (3 * k) 0,ns.getD (3 * k + 1) 0,ns.getD (3 * k + 2) 0]:=by
  have l0:3 * k < ns.length:=by omega
  have l1:3 * k + 1 < ns.length:=by omega
  have l2:3 * k + 2 < ns.length:=by omega
  have g:∀ i,i < ns.length→ns[i]?=some (ns.getD i 0):=fun i hi=>by rw [List.getD_eq_getElem?_getD,List.getElem?_eq_getElem hi]; rfl
  rw [show 3 * (k + 1)=3 * k + 1 + 1 + 1 by omega,List.take_add_one,List.take_add_one,List.take_add_one,g _ l0,g _ l1,g _ l2,List.append_assoc,List.append_assoc]
  rfl
 rw [e,List.map_append]
 rfl
noncomputable def Za9 (C:Addr):Sp:=fun vs H Q _=>∃ (p r dx:Addr) (M:List (Option Nat)) (ns:List Int),vs=[.ref p,.ref r]∧H p=some (.ins C dx [])∧Yp H r ns∧TD M ns∧ns.length≤120 ∧
 ∀ (H':Hp),(∀ b u,b≠p→H b=some u→H' b=some u)→Yb C H' p M ns→Q .non H'
section
variable {P:Program} {w:World} {K:PySem.W.Frag} {mg:Str→Option Value} {base:Heap} {t:Adr}
theorem Zbk:FnScope ["self","rows"] ["self","rows"] (Zg Ow):=⟨rfl,rfl,rfl,by decide +kernel,rfl,by decide +kernel,by decide +kernel⟩
theorem Zcf (T:Txt w K mg t):FnOk P w K mg base (CXr P w) 2 t.f_Tent_init t.d_Tent_init ["self","rows"] (Za9 t.C_Tent):=by
  refine T.p_Tent_init.F.aR Zbk (fun cdv A outer s H vs Q E hr h=>?_)
  · obtain ⟨p,r,dx,M,ns,rfl,hp,⟨ts,hr1,hr2,hr3⟩,td,hl,k⟩:=h
    refine ⟨_,(Zd (Z1 (Yf (Jf (pv 1) (fun _=>rfl))) Yt Zu)
      (Zd (Xe (pv 0) (Xd (ts:=["row"]) (fv:=[]) ⟨rfl,by decide +kernel,by decide +kernel,Yi (by rfl),trivial⟩ rfl (X1 (pv 1)) (fun _ _ _ _=>(Zq (i:=0) (show List.Nodup (["row"]:List Str) from by decide +kernel) rfl (Or.inl rfl) (Or.inr rfl))) (fun _ _ _ _=>Yl) (fun _ _ _=>rfl) (fun _ _ _ _ _ _=>Yu (Yx (Fg K) (by rfl) T.n_tuple PySem.Pv.boot_tuple (Za (pv 0) Zb)))) rfl)
      (Zd (Xe (pv 0) (Xd (ts:=["row","name"]) (fv:=[]) ⟨rfl,by decide +kernel,by decide +kernel,Yi (by rfl),trivial⟩ rfl (X1 (Zr (pv 0) rfl)) (fun _ _ _ _=>(Zq (i:=0) (show List.Nodup (["row","name"]:List Str) from by decide +kernel) rfl (Or.inl rfl) (Or.inr rfl))) (fun _ _ _ _=>Yl) (fun _ _ _=>rfl) (fun _ _ _ _ _ _=>Zgs rfl rfl (Zd6 K (pv 0)) (Zq (i:=1) (show List.Nodup (["row","name"]:List Str) from by decide +kernel) rfl (Or.inl rfl) (Or.inr rfl)) Yl (pv 1))) rfl)
      (Zd (Xe (pv 0) (pcT (Zdg T) hr T.p_spots_of (Za (Zr (pv 0) rfl) Zb)) rfl)
      (Zh (Xe (pv 0) (pcT (Zdh T) hr T.p_mates_of (Za (Zr (pv 0) rfl) (Za (Zo Zm (by rfl) T.n_len PySem.boot_len (Za (Zr (pv 0) rfl) Zb)) Zb))) rfl)))))),?_⟩
    obtain ⟨n,n1,n2,hn⟩:=td.n
    have hnn:ns.length=3 * n:=by rw [td.len,hn]
    have htn:ts.length=n:=by omega
    have hrp:r≠p:=fun z=>by rw [z,hp] at hr1; cases hr1
    refine ⟨_,rfl,true,.inl ⟨_,SqL.of hr1,?_⟩,?_⟩
    · cases ts with
      | nil=>simp at htn; omega
      | cons _ _=>rfl
    refine iteF ?_
    dsimp only [Xf]
    refine ⟨_,rfl,r,rfl,⟨_,SqL.of hr1⟩,fun D hD=>?_⟩
    have hDp:D≠p:=fun z=>by rw [z,hp] at hD; cases hD
    refine Xr (xs:=ts.map V.ref) (fun i σ H1=>∃ (v:Option V),σ=[v]∧Same H H1∧H1 D=some (.lst ((ts.take i).map V.ref))) ⟨none,rfl,Same.new hD,Zc⟩ ?_ ?_ ?_
    · rintro i σ H1 _ ⟨v,rfl,sm,h1⟩
      exact SqL.of (sm _ _ hr1)
    · rintro i x σ H1 hx ⟨v,rfl,sm,h1⟩
      dsimp only [Zp,tYes]
      rw [if_pos rfl]
      obtain ⟨tt,ht,rfl⟩:=Ys hx
      refine ⟨_,rfl,tt,_,rfl,.inr ⟨SqT.of (sm _ _ (hr3 i tt ht)),_,h1,(by rw [List.length_map,List.length_take]; exact Zx (by omega)),_,rfl,Same.add sm hD,?_⟩⟩
      rw [Zc,List.take_add_one,ht,List.map_append]
      rfl
    rintro σ H1 ⟨v,rfl,sm1,h1⟩
    rw [List.length_map,List.take_length] at h1
    have hp1:=sm1 _ _ hp
    refine ⟨_,rfl,p,_,dx,_,rfl,hp1,T.cl_Tent,T.a_Tent_cloths,by decide,?_⟩
    have old2:∀ b u,b≠p→H b=some u→(upd H1 p (.ins t.C_Tent dx (putF "cloths" (.ref D) []))) b=some u:=fun b u hb e=>by rw [Ze hb]; exact sm1 b u e
    have hD2:(upd H1 p (.ins t.C_Tent dx (putF "cloths" (.ref D) []))) D=some (.lst (ts.map V.ref)):=by rw [Ze hDp]; exact h1
    have hp2:(upd H1 p (.ins t.C_Tent dx (putF "cloths" (.ref D) []))) p=some (.ins t.C_Tent dx (putF "cloths" (.ref D) [])):=Zc
    have ht2:∀ (k:Nat) (q:Addr),ts[k]?=some q→(upd H1 p (.ins t.C_Tent dx (putF "cloths" (.ref D) []))) q=some (.tup (row3 ns k)):=fun k q e=>by
      have e1:=hr3 k q e
      have:q≠p:=fun z=>by rw [z,hp] at e1; cases e1
      exact old2 q _ this e1
    generalize upd H1 p (.ins t.C_Tent dx (putF "cloths" (.ref D) []))=H2 at old2 hD2 hp2 ht2 ⊢
    refine ⟨_,rfl,p,_,dx,_,_,rfl,hp2,T.cl_Tent,T.a_Tent_cloths,rfl,D,rfl,⟨_,SqL.of hD2⟩,fun N hN=>?_⟩
    have hND:N≠D:=fun z=>by rw [z,hD2] at hN; cases hN
    have hNp:N≠p:=fun z=>by rw [z,hp2] at hN; cases hN
    refine Xr (xs:=ts.map V.ref) (fun i σ H3=>∃ (v v':Option V),σ=[v,v']∧Same H2 H3∧H3 N=some (.lst ((ns.take (3 * i)).map V.int))) ⟨none,none,rfl,Same.new hN,Zc⟩ ?_ ?_ ?_
    · rintro i σ H3 _ ⟨v,v',rfl,sm,h3⟩
      exact SqL.of (sm _ _ hD2)
    · rintro i x σ H3 hx ⟨v,v',rfl,sm,h3⟩
      dsimp only [Zp,tYes]
      rw [if_pos rfl]
      obtain ⟨tt,ht,rfl⟩:=Ys hx
      have hi:i < n:=by rw [← htn]; exact (List.getElem?_eq_some_iff.mp ht).1
      refine ⟨_,rfl,tt,rfl,⟨_,SqT.of (sm _ _ (ht2 i tt ht))⟩,?_⟩
      refine Zcm (xs:=row3 ns i) (fun j σ H4=>∃ (v':Option V),σ=[some (.ref tt),v']∧Same H2 H4∧H4 N=some (.lst ((ns.take (3 * i)).map V.int ++ (row3 ns i).take j))) ⟨v',rfl,sm,by rw [h3,List.take_zero,List.append_nil]⟩ ?_ ?_ ?_
      · rintro j σ H4 _ ⟨v',rfl,sm,h4⟩
        exact SqT.of (sm _ _ (ht2 i tt ht))
      · rintro j x σ H4 hx ⟨v',rfl,sm,h4⟩
        dsimp only [Zp,tYes]
        rw [if_pos rfl]
        refine ⟨_,rfl,_,h4,?_,_,rfl,Same.add sm hN,?_⟩
        · rw [List.length_append,List.length_map,List.length_take,List.length_take]
          exact Zx (by have:(row3 ns i).length=3:=rfl; omega)
        · rw [Zc,List.take_add_one,hx,← List.append_assoc]
          rfl
      · rintro σ H4 ⟨v',rfl,sm,h4⟩
        refine ⟨_,_,rfl,sm,?_⟩
        rw [h4,List.take_length,Zhr hnn hi]
    rintro σ H3 ⟨v,v',rfl,sm3,h3⟩
    have eall:ns.take (3 * (ts.map V.ref).length)=ns:=by rw [List.length_map,htn,← hnn,List.take_length]
    rw [eall] at h3
    have hp3:=sm3 _ _ hp2
    refine ⟨_,rfl,p,_,dx,_,rfl,hp3,T.cl_Tent,T.a_Tent_names_at,(by have h1:=Y3 "cloths" (.ref D) []; simp only [List.length_nil] at h1; omega),?_⟩
    have old4:∀ b u,b≠p→H2 b=some u→(upd H3 p (.ins t.C_Tent dx (putF "names_at" (.ref N) (putF "cloths" (.ref D) [])))) b=some u:=fun b u hb e=>by rw [Ze hb]; exact sm3 b u e
    have hN4:(upd H3 p (.ins t.C_Tent dx (putF "names_at" (.ref N) (putF "cloths" (.ref D) [])))) N=some (.lst (ns.map V.int)):=by rw [Ze hNp]; exact h3
    have hp4:(upd H3 p (.ins t.C_Tent dx (putF "names_at" (.ref N) (putF "cloths" (.ref D) [])))) p=some (.ins t.C_Tent dx (putF "names_at" (.ref N) (putF "cloths" (.ref D) []))):=Zc
    generalize upd H3 p (.ins t.C_Tent dx (putF "names_at" (.ref N) (putF "cloths" (.ref D) [])))=H4 at old4 hN4 hp4 ⊢
    have lk1:(putF "names_at" (.ref N) (putF "cloths" (.ref D) [])).lookup ("names_at":Str)=some (.ref N):=by rw [Z5,if_pos rfl]
    refine ⟨_,rfl,p,_,dx,_,_,rfl,hp4,T.cl_Tent,T.a_Tent_names_at,lk1,N,M,ns,rfl,hN4,td,hl,fun d f H5 sm5 hd5 hd5' sf hf0=>?_⟩
    have hp5:=sm5 _ _ hp4
    refine ⟨_,rfl,p,_,dx,_,rfl,hp5,T.cl_Tent,T.a_Tent_spots,(by have h1:=Y3 "cloths" (.ref D) []; have h2:=Y3 "names_at" (.ref N) (putF "cloths" (.ref D) []); simp only [List.length_nil] at h1; omega),?_⟩
    have hdp:d≠p:=fun z=>by rw [z,hp4] at hd5; cases hd5
    have hfp:∀ x∈keys ns ns.length,f x≠p:=fun x hx z=>by have:=hf0 x hx; rw [z,hp4] at this; cases this
    have old6:∀ b u,b≠p→H4 b=some u→(upd H5 p (.ins t.C_Tent dx (putF "spots" (.ref d) (putF "names_at" (.ref N) (putF "cloths" (.ref D) []))))) b=some u:=fun b u hb e=>by rw [Ze hb]; exact sm5 b u e
    have hp6:(upd H5 p (.ins t.C_Tent dx (putF "spots" (.ref d) (putF "names_at" (.ref N) (putF "cloths" (.ref D) []))))) p=some (.ins t.C_Tent dx (putF "spots" (.ref d) (putF "names_at" (.ref N) (putF "cloths" (.ref D) [])))):=Zc
    have hd6:(upd H5 p (.ins t.C_Tent dx (putF "spots" (.ref d) (putF "names_at" (.ref N) (putF "cloths" (.ref D) []))))) d=some (.dK (spk ns ns.length f)):=by rw [Ze hdp]; exact hd5'
    have sf6:SpotsF (upd H5 p (.ins t.C_Tent dx (putF "spots" (.ref d) (putF "names_at" (.ref N) (putF "cloths" (.ref D) []))))) ns ns.length f:=⟨sf.inj,fun x hx=>by rw [Ze (hfp x hx)]; exact sf.at' x hx⟩
    generalize upd H5 p (.ins t.C_Tent dx (putF "spots" (.ref d) (putF "names_at" (.ref N) (putF "cloths" (.ref D) []))))=H6 at old6 hp6 hd6 sf6 ⊢
    have lk2:(putF "spots" (.ref d) (putF "names_at" (.ref N) (putF "cloths" (.ref D) []))).lookup ("spots":Str)=some (.ref d):=by rw [Z5,if_pos rfl]
    have lk3:(putF "spots" (.ref d) (putF "names_at" (.ref N) (putF "cloths" (.ref D) []))).lookup ("names_at":Str)=some (.ref N):=by rw [Z5,if_neg s_ns,Z5,if_pos rfl]
    have hN6:=old6 _ _ hNp hN4
    have eln:(((ns.map V.int).length:Nat):Int)=(ns.length:Nat):=by rw [List.length_map]
    refine ⟨_,rfl,p,_,dx,_,_,rfl,hp6,T.cl_Tent,T.a_Tent_spots,lk2,_,rfl,p,_,dx,_,_,rfl,hp6,T.cl_Tent,T.a_Tent_names_at,lk3,N,_,rfl,.inl (SqL.of hN6),d,M,ns,f,(by rw [eln]; rfl),hd6,sf6,td,hl,fun m o H7 old7 hm7 hmm hdd=>?_⟩
    have hpd:p≠d:=Ne.symm hdp
    have hp7:=old7 _ _ hpd hp6
    refine ⟨_,rfl,p,_,dx,_,rfl,hp7,T.cl_Tent,T.a_Tent_mates,(by have h1:=Y3 "cloths" (.ref D) []; have h2:=Y3 "names_at" (.ref N) (putF "cloths" (.ref D) []); have h3:=Y3 "spots" (.ref d) (putF "names_at" (.ref N) (putF "cloths" (.ref D) [])); simp only [List.length_nil] at h1; omega),?_⟩
    have hmp:m≠p:=fun z=>by rw [z,hp6] at hm7; cases hm7
    have dN:N≠d:=fun z=>by rw [z,hd6] at hN6; cases hN6
    have old8:∀ b u,b≠p→b≠d→H6 b=some u→(upd H7 p (.ins t.C_Tent dx (X7 D N d m))) b=some u:=fun b u hb hbd e=>by rw [Ze hb]; exact old7 b u hbd e
    have old46:∀ b u,b≠p→H4 b=some u→H6 b=some u∧b≠d:=fun b u hb e=>⟨old6 b u hb e,fun z=>by rw [z,hd5] at e; cases e⟩
    have old28:∀ b u,b≠p→H2 b=some u→(upd H7 p (.ins t.C_Tent dx (X7 D N d m))) b=some u:=fun b u hb e=>by
      obtain ⟨e6,hbd⟩:=old46 b u hb (old4 b u hb e)
      exact old8 b u hb hbd e6
    refine k _ (fun b u hb e=>old28 b u hb (old2 b u hb e)) ⟨dx,D,N,d,m,o,f,Zc,⟨ts,old28 _ _ hDp hD2,by omega,fun k q e=>?_⟩,?_,?_,?_,?_⟩
    · have e1:=ht2 k q e
      exact old28 q _ (fun z=>by rw [z,hp2] at e1; cases e1) e1
    · exact old8 _ _ hNp dN hN6
    · rw [Ze hdp]; exact hdd
    · rw [Ze hmp]; exact hmm
    · intro x hx
      have e1:=sf6.at' x hx
      exact old8 _ _ (hfp x hx) (fun z=>by rw [z,hd6] at e1; cases e1) e1
end
end KT
set_option maxHeartbeats 4000000
namespace KT
open PySem L2
noncomputable def Yz (ns:List Int) (x:Int):Str:=match pl ns ns.length x with
 | [a,b]=>if a / 3=b / 3 then "locked" else "free"
 | _=>"rim"
noncomputable def Zhz:Sp:=fun vs H Q _=>∃ p:Int,vs=[.int p]∧Q (.int (after p)) H
noncomputable def Zda:Sp:=fun vs H Q _=>∃ p:Int,vs=[.int p]∧Q (.int (p / 3)) H
noncomputable def Zaf (C:Addr):Sp:=fun vs H Q _=>∃ (p:Addr) (M:List (Option Nat)) (ns:List Int),vs=[.ref p]∧Yb C H p M ns∧ns.length < 64 ∧
 ∀ (l:Addr) (out:List Int),H l=none→out.Perm (keys ns ns.length)→out.Pairwise (·≤·)→Q (.ref l) (upd H l (.lst (out.map V.int)))
noncomputable def Ol (C:Addr):Sp:=fun vs H Q _=>∃ (p:Addr) (M:List (Option Nat)) (ns:List Int) (x:Int),vs=[.ref p,.int x]∧Yb C H p M ns∧Q (.bl (decide (0≤x∧x < ns.length))) H
noncomputable def Uh (C EP:Addr):Sp:=fun vs H Q E=>∃ (p:Addr) (M:List (Option Nat)) (ns:List Int) (x:Int),vs=[.ref p,.int x]∧Yb C H p M ns∧(0≤x∧x < ns.length→Q .non H)∧(¬ (0≤x∧x < ns.length)→E (.ref EP) none H)
noncomputable def Ku (C EP:Addr):Sp:=fun vs H Q E=>∃ (p:Addr) (M:List (Option Nat)) (ns:List Int) (x:Int),vs=[.ref p,.int x]∧Yb C H p M ns∧(∀ (i:Nat) (y:Int),x=i→ns[i]?=some y→Q (.int y) H)∧(¬ (0≤x∧x < ns.length)→E (.ref EP) none H)
noncomputable def Za8 (C EP:Addr):Sp:=fun vs H Q E=>∃ (p:Addr) (M:List (Option Nat)) (ns:List Int) (x:Int),vs=[.ref p,.int x]∧Yb C H p M ns∧M.length=ns.length∧(∀ (i:Nat) (y:Option Nat),x=i→M[i]?=some y→Q (mV y) H)∧(¬ (0≤x∧x < ns.length)→E (.ref EP) none H)
noncomputable def Gy (C ES:Addr):Sp:=fun vs H Q E=>∃ (p:Addr) (M:List (Option Nat)) (ns:List Int) (x:Int),vs=[.ref p,.int x]∧Yb C H p M ns∧(x∈keys ns ns.length→∀ l,H l=none→Q (.ref l) (upd H l (.lst ((pl ns ns.length x).map nV))))∧(x ∉ keys ns ns.length→E (.ref ES) none H)
noncomputable def Kt (C ES:Addr):Sp:=fun vs H Q E=>∃ (p:Addr) (M:List (Option Nat)) (ns:List Int) (x:Int),vs=[.ref p,.int x]∧Yb C H p M ns∧TD M ns∧(x∈keys ns ns.length→∀ H',Same H H'→Q (.str (Yz ns x)) H')∧(x ∉ keys ns ns.length→E (.ref ES) none H)
section
variable {P:Program} {w:World} {K:PySem.W.Frag} {mg:Str→Option Value} {base:Heap} {t:Adr}
theorem Zh2:FnScope ["place"] ["place"] (Zg Zd0):=⟨rfl,rfl,rfl,by decide +kernel,rfl,by decide +kernel,by decide +kernel⟩
theorem Zii (T:Txt w K mg t):FnOk P w K mg base (CXr P w) 1 t.f_after t.d_after ["place"] Zhz:=by
 refine T.p_after.F.aR Zh2 (fun cdv A outer s H vs Q E hr h=>?_)
 ·obtain ⟨p,rfl,k⟩:=h
  refine ⟨_,(Zh (Zl (Kh (Zt Xq (Zi Zy (pv 0) Zf) Zf (Zs _)) (Zi Uz (pv 0) Zf) (Zi Z0 (pv 0) Zf)))),?_⟩
  refine ⟨_,rfl,_,_,rfl,rfl,(by show (0:Int) < 3; decide),rfl,_,rfl,?_⟩
  refine ite2 (fun h=>?_) (fun h=>?_)
  ·have h:p % 3=2:=by simpa using h
   refine ⟨_,rfl,_,_,rfl,rfl,?_⟩
   have e:after p=p - 2:=if_pos h
   rw [e] at k; exact k
  ·have h:¬ p % 3=2:=by simpa using h
   refine ⟨_,rfl,_,_,rfl,rfl,?_⟩
   have e:after p=p + 1:=if_neg h
   rw [e] at k; exact k
theorem Zde:FnScope ["place"] ["place"] (Zg K5):=⟨rfl,rfl,rfl,by decide +kernel,rfl,by decide +kernel,by decide +kernel⟩
theorem Js (T:Txt w K mg t):FnOk P w K mg base (CXr P w) 1 t.f_cloth_of t.d_cloth_of ["place"] Zda:=by
 refine T.p_cloth_of.F.aR Zde (fun cdv A outer s H vs Q E hr h=>?_)
 ·obtain ⟨p,rfl,k⟩:=h
  refine ⟨_,(Zh (Zl (Zi Yv (pv 0) Zf))),?_⟩
  exact ⟨_,rfl,_,_,rfl,rfl,⟨by decide,by decide⟩,k⟩
theorem Zao:FnScope ["self"] ["self"] (Zg Uo):=⟨rfl,rfl,rfl,by decide +kernel,rfl,by decide +kernel,by decide +kernel⟩
theorem Zat (T:Txt w K mg t):FnOk P w K mg base (CXr P w) 1 t.f_Tent_seams t.d_Tent_seams ["self"] (Zaf t.C_Tent):=by
 refine T.p_Tent_seams.F.aR Zao (fun cdv A outer s H vs Q E hr h=>?_)
 ·obtain ⟨p,M,ns,rfl,⟨dx,cl,na,sp,mt,o,f,b⟩,h64,k⟩:=h
  refine ⟨_,(Zh (Zl (Zo (U7 rfl) (by rfl) T.n_sorted PyProof.Rows.boot_sorted (Za (Zr (pv 0) rfl) Zb)))),?_⟩
  refine ⟨_,rfl,p,_,dx,_,_,rfl,b.ins,T.cl_Tent,T.a_Tent_spots,Ko ..,sp,_,keys ns ns.length,rfl,.inr ⟨o,b.spots⟩,?_,by have:=Qq ns ns.length; omega,k⟩
  unfold spk; rw [List.map_map]; rfl
theorem Om:FnScope ["self","place"] ["self","place"] (Zg Qh):=⟨rfl,rfl,rfl,by decide +kernel,rfl,by decide +kernel,by decide +kernel⟩
theorem J4 (T:Txt w K mg t):FnOk P w K mg base (CXr P w) 1 t.f_Tent_has_place t.d_Tent_has_place ["self","place"] (Ol t.C_Tent):=by
 refine T.p_Tent_has_place.F.aR Om (fun cdv A outer s H vs Q E hr h=>?_)
 ·obtain ⟨p,M,ns,x,rfl,⟨dx,cl,na,sp,mt,o,f,b⟩,k⟩:=h
  refine ⟨_,(Zh (Zl (Zb9 Ze6 J5 Zf (pv 1) (Zo Zm (by rfl) T.n_len PySem.boot_len (Za (Zr (pv 0) rfl) Zb))))),?_⟩
  refine ⟨_,rfl,_,_,rfl,rfl,_,rfl,?_⟩
  refine ite2 (fun h=>?_) (fun h=>?_)
  ·have h:0≤x:=of_decide_eq_true h
   refine ⟨_,rfl,p,_,dx,_,_,rfl,b.ins,T.cl_Tent,T.a_Tent_names_at,Zcw ..,na,_,rfl,.inl (SqL.of b.names),_,_,rfl,rfl,?_⟩
   have:decide (x < (((ns.map V.int).length:Nat):Int))=decide (0≤x∧x < (ns.length:Int)):=by rw [List.length_map]; simp [h]
   show Q (V.bl (decide (x < (((ns.map V.int).length:Nat):Int)))) H
   rw [this]; exact k
  ·have h:¬ 0≤x:=fun z=>h (decide_eq_true z)
   have:decide (0≤x∧x < (ns.length:Int))=false:=decide_eq_false fun z=>h z.1
   rw [this] at k; exact k
theorem Uj:FnScope ["self","place"] ["self","place"] (Zg J2):=⟨rfl,rfl,rfl,by decide +kernel,rfl,by decide +kernel,by decide +kernel⟩
theorem Jw (T:Txt w K mg t):FnOk P w K mg base (CXr P w) 2 t.f_Tent_look_place t.d_Tent_look_place ["self","place"] (Uh t.C_Tent t.E_NoPlace):=by
 refine T.p_Tent_look_place.F.aX Uj (fun cdv A outer s H vs Q E hr h=>?_)
 ·obtain ⟨p,M,ns,x,rfl,ta,k1,k2⟩:=h
  obtain ⟨dx,cl,na,sp,mt,o,f,b⟩:=id ta
  refine ⟨_,(Yr (Ga (Yf (Yn (Z3 (pv 0) T.cl_Tent T.p_Tent_has_place.m (J4 T) (hr.mono (by decide)) T.p_Tent_has_place.b .nil Z2 (Za (pv 1) Zb)))) (Yr (Qy T.x_NoPlace FBV rfl T.gx_NoPlace rfl (Za Z4 Zb))) Vv)),?_⟩
  refine ⟨_,rfl,p,dx,_,rfl,b.ins,Xm _ _ _ _,_,rfl,p,M,ns,x,rfl,ta,_,rfl,?_⟩
  by_cases c:0≤x∧x < (ns.length:Int)
  ·rw [decide_eq_true c]
   exact iteF (k1 c)
  ·rw [decide_eq_false c]
   exact iteT ⟨by decide,k2 c⟩
theorem Ky:FnScope ["self","place"] ["self","place"] (Zg Vf):=⟨rfl,rfl,rfl,by decide +kernel,rfl,by decide +kernel,by decide +kernel⟩
theorem Gf (T:Txt w K mg t):FnOk P w K mg base (CXr P w) 3 t.f_Tent_seam_at t.d_Tent_seam_at ["self","place"] (Ku t.C_Tent t.E_NoPlace):=by
 refine T.p_Tent_seam_at.F.aX Ky (fun cdv A outer s H vs Q E hr h=>?_)
 ·obtain ⟨p,M,ns,x,rfl,ta,k1,k2⟩:=h
  obtain ⟨dx,cl,na,sp,mt,o,f,b⟩:=id ta
  refine ⟨_,(Y7 (Qi (Kg (pv 0) T.cl_Tent T.p_Tent_look_place.m (Jw T) (hr.mono (by decide)) T.p_Tent_look_place.b .nil (Za (pv 1) Zb)))
   (Yr (Wi (Zl (Zv Zw (Zr (pv 0) rfl) (pv 1) (fun _ _=>rfl)))))),?_⟩
  refine ⟨_,rfl,p,dx,_,rfl,b.ins,Xm _ _ _ _,_,rfl,p,M,ns,x,rfl,ta,fun c=>?_,k2⟩
  have hi:x.toNat < ns.length:=by omega
  obtain ⟨y,hy⟩:∃ y,ns[x.toNat]?=some y:=⟨_,List.getElem?_eq_getElem hi⟩
  have ex:x=(x.toNat:Int):=by omega
  refine ⟨_,rfl,p,_,dx,_,_,rfl,b.ins,T.cl_Tent,T.a_Tent_names_at,Zcw ..,_,rfl,na,_,_,_,rfl,rfl,SqL.of b.names,(by rw [ex]; exact Yk hy),k1 _ _ ex hy⟩
theorem Zbj:FnScope ["self","place"] ["self","place"] (Zg Ov):=⟨rfl,rfl,rfl,by decide +kernel,rfl,by decide +kernel,by decide +kernel⟩
theorem W4 (T:Txt w K mg t):FnOk P w K mg base (CXr P w) 3 t.f_Tent_mate t.d_Tent_mate ["self","place"] (Za8 t.C_Tent t.E_NoPlace):=by
 refine T.p_Tent_mate.F.aX Zbj (fun cdv A outer s H vs Q E hr h=>?_)
 ·obtain ⟨p,M,ns,x,rfl,ta,hlen,k1,k2⟩:=h
  obtain ⟨dx,cl,na,sp,mt,o,f,b⟩:=id ta
  refine ⟨_,(Y7 (Qi (Kg (pv 0) T.cl_Tent T.p_Tent_look_place.m (Jw T) (hr.mono (by decide)) T.p_Tent_look_place.b .nil (Za (pv 1) Zb)))
   (Yr (Wi (Zl (Zv Zw (Zr (pv 0) rfl) (pv 1) (fun _ _=>rfl)))))),?_⟩
  refine ⟨_,rfl,p,dx,_,rfl,b.ins,Xm _ _ _ _,_,rfl,p,M,ns,x,rfl,ta,fun c=>?_,k2⟩
  have hi:x.toNat < M.length:=by omega
  obtain ⟨y,hy⟩:∃ y,M[x.toNat]?=some y:=⟨_,List.getElem?_eq_getElem hi⟩
  have ex:x=(x.toNat:Int):=by omega
  refine ⟨_,rfl,p,_,dx,_,_,rfl,b.ins,T.cl_Tent,T.a_Tent_mates,Zi1 ..,_,rfl,mt,_,_,_,rfl,rfl,SqL.of b.mates,(by rw [ex]; exact Yk hy),k1 _ _ ex hy⟩
theorem G3:FnScope ["self","seam"] ["self","seam"] (Zg Ub):=⟨rfl,rfl,rfl,by decide +kernel,rfl,by decide +kernel,by decide +kernel⟩
theorem Fa (T:Txt w K mg t):FnOk P w K mg base (CXr P w) 1 t.f_Tent_places t.d_Tent_places ["self","seam"] (Gy t.C_Tent t.E_NoSeam):=by
 refine T.p_Tent_places.F.aX G3 (fun cdv A outer s H vs Q E hr h=>?_)
 ·obtain ⟨p,M,ns,x,rfl,ta,k1,k2⟩:=h
  obtain ⟨dx,cl,na,sp,mt,o,f,b⟩:=id ta
  have hu:=Xy hr
  refine ⟨_,(Y7 (Ga (Vg (Qz hu (pv 1) (Zr (pv 0) rfl)) (by with_unfolding_all rfl)) (Yr (Qy T.x_NoSeam FBV rfl T.gx_NoSeam rfl (Za Z4 Zb))) Vv)
   (Yr (Wi (Zl (Yx Xb (by rfl) T.n_list PySem.Pv.boot_list (Za (Vk hu (Zr (pv 0) rfl) (pv 1) (fun _ _=>rfl)) Zb)))))),?_⟩
  have hg:DGet H sp (.int x) (if x∈keys ns ns.length then some (V.ref (f x)) else none):=.inl ⟨_,Sum.inl x,.inr ⟨o,b.spots⟩,rfl,by unfold spk; rw [W9]⟩
  refine ⟨_,rfl,_,rfl,p,_,dx,_,_,rfl,b.ins,T.cl_Tent,T.a_Tent_spots,Ko ..,sp,_,rfl,hg,_,rfl,?_⟩
  by_cases c:x∈keys ns ns.length
  ·rw [if_pos c] at hg ⊢
   refine iteF ?_
   exact ⟨_,rfl,p,_,dx,_,_,rfl,b.ins,T.cl_Tent,T.a_Tent_spots,Ko ..,_,rfl,sp,_,rfl,hg,f x,_,rfl,.inl (SqL.of (b.at' x c)),k1 c⟩
  ·rw [if_neg c] at hg ⊢
   exact iteT ⟨by decide,k2 c⟩
theorem Qt:FnScope ["self","seam","spots"] ["self","seam"] (Zg Ve):=⟨rfl,rfl,rfl,by decide +kernel,rfl,by decide +kernel,by decide +kernel⟩
theorem Q3 (T:Txt w K mg t):FnOk P w K mg base (CXr P w) 2 t.f_Tent_sort_of t.d_Tent_sort_of ["self","seam"] (Kt t.C_Tent t.E_NoSeam):=by
 refine T.p_Tent_sort_of.F.aX Qt (fun cdv A outer s H vs Q E hr h=>?_)
 ·obtain ⟨p,M,ns,x,rfl,ta,td,k1,k2⟩:=h
  obtain ⟨dx,cl,na,sp,mt,o,f,b⟩:=id ta
  refine ⟨_,(Y7 (Zd4 (i:=2) Qt.nd rfl (Or.inl rfl) (Kg (pv 0) T.cl_Tent T.p_Tent_places.m (Fa T) (hr.mono (by decide)) T.p_Tent_places.b .nil (Za (pv 1) Zb)))
   (Y7 (Wi (Z1 (Zt Xq (Zo Zm (by rfl) T.n_len PySem.boot_len (Za (pv 2) Zb)) Zf (Zs _)) (Zh (Zl Z4)) Zu))
   (Y7 (Wi (Z1 (Zt Xq (pcT (Js T) hr T.p_cloth_of (Za (Zv Zw (pv 2) Zf (fun _ _=>rfl)) Zb)) (pcT (Js T) hr T.p_cloth_of (Za (Zv Zw (pv 2) Zf (fun _ _=>rfl)) Zb)) (Zs _)) (Zh (Zl Z4)) Zu))
   (Yr (Wi (Zl Z4)))))),?_⟩
  refine ⟨_,rfl,p,dx,_,rfl,b.ins,Xm _ _ _ _,_,rfl,p,M,ns,x,rfl,ta,fun c l hl=>?_,k2⟩
  have k1':=k1 c _ (Same.new (o:=.lst ((pl ns ns.length x).map nV)) hl)
  refine ⟨_,rfl,l,_,rfl,.inl (SqL.of Zc),rfl,_,rfl,?_⟩
  rcases Vw td c with ⟨a,e,_⟩ | ⟨a,b',hab,e,_⟩
  ·rw [e] at k1' ⊢
   refine iteT ?_
   have:Yz ns x="rim":=by unfold Yz; rw [e]
   rw [this] at k1'
   exact k1'
  ·rw [e] at k1' ⊢
   refine iteF ?_
   refine ⟨_,rfl,l,_,_,_,rfl,rfl,SqL.of Zc,rfl,_,rfl,_,rfl,l,_,_,_,rfl,rfl,SqL.of Zc,rfl,_,rfl,rfl,_,rfl,?_⟩
   by_cases q:a / 3=b' / 3
   ·have:Yz ns x="locked":=by unfold Yz; rw [e]; exact if_pos q
    rw [this] at k1'
    rw [decide_eq_true (by congr 1; omega)]
    exact iteT k1'
   ·have:Yz ns x="free":=by unfold Yz; rw [e]; exact if_neg q
    rw [this] at k1'
    rw [decide_eq_false (fun z=>q (by injection z; omega))]
    exact iteF k1'
end
end KT
set_option maxHeartbeats 4000000
namespace KT
open PySem L2
theorem Kv {M:List (Option Nat)} {ns:List Int} (td:TD M ns) {x:Int} (hx:x∈keys ns ns.length) :
  (Yz ns x="rim"∧∃ a,pl ns ns.length x=[a]∧M[a]?=some none)∨(Yz ns x="locked"∧∃ a b,a < b∧pl ns ns.length x=[a,b]∧M[a]?=some (some b)∧a / 3=b / 3)∨(Yz ns x="free"∧∃ a b,a < b∧pl ns ns.length x=[a,b]∧M[a]?=some (some b)∧a / 3≠b / 3):=by
 rcases Vw td hx with ⟨a,e,_,ma⟩ | ⟨a,b,hab,e,_,_,ma,_⟩
 ·exact .inl ⟨by unfold Yz; rw [e],a,e,ma⟩
 ·by_cases c:a / 3=b / 3
  ·exact .inr (.inl ⟨by unfold Yz; rw [e]; exact if_pos c,a,b,hab,e,ma,c⟩)
  ·exact .inr (.inr ⟨by unfold Yz; rw [e]; exact if_neg c,a,b,hab,e,ma,c⟩)
theorem t_lr:¬ (("locked":Str))="rim":=by decide
theorem t_fr:¬ (("free":Str))="rim":=by decide
end KT
set_option maxHeartbeats 4000000
namespace KT
open PySem L2
noncomputable def Zjz:Sp:=fun vs H Q _=>∃ (a b:Addr) (xs:List Int),vs=[.ref a,.ref b]∧H a=some (.lst (xs.map V.int))∧H b=some (.lst (xs.map V.int))∧xs.length≤100000∧Q (.bl true) H
noncomputable def Zjv:Sp:=fun vs H Q _=>∃ (r:Addr) (ns:List Int) (i:Nat) (x:Int),vs=[.ref r,.int i]∧Yp H r ns∧ns[i]?=some x∧Q (.int x) H
theorem Zby {H:Hp} {r:Addr} {ns:List Int} {i:Nat} {x:Int} (h:Yp H r ns) (hx:ns[i]?=some x):∃ ts:List Addr,∃ q,H r=some (.lst (ts.map V.ref))∧ts[i / 3]?=some q∧H q=some (.tup (row3 ns (i / 3)))∧(row3 ns (i / 3))[i % 3]?=some (V.int x):=by
 obtain ⟨ts,h1,h2,h3⟩:=h
 have hi:i < ns.length:=(List.getElem?_eq_some_iff.mp hx).1
 have hk:i / 3 < ts.length:=by omega
 refine ⟨ts,ts[i / 3],h1,List.getElem?_eq_getElem hk,h3 _ _ (List.getElem?_eq_getElem hk),?_⟩
 have g:∀ j,ns[j]?=some x→ns.getD j 0=x:=fun j hj=>by rw [List.getD_eq_getElem?_getD,hj]; rfl
 have hm:i % 3=0∨i % 3=1∨i % 3=2:=by omega
 rcases hm with m | m | m
 ·have:3 * (i / 3)=i:=by omega
  rw [m]; show some (V.int (ns.getD (3 * (i / 3)) 0))=_; rw [this,g i hx]
 ·have:3 * (i / 3) + 1=i:=by omega
  rw [m]; show some (V.int (ns.getD (3 * (i / 3) + 1) 0))=_; rw [this,g i hx]
 ·have:3 * (i / 3) + 2=i:=by omega
  rw [m]; show some (V.int (ns.getD (3 * (i / 3) + 2) 0))=_; rw [this,g i hx]
theorem div3 (i:Nat):(i:Int) / 3=((i / 3:Nat):Int):=by omega
theorem mod3 (i:Nat):(i:Int) % 3=((i % 3:Nat):Int):=by omega
theorem Zfr (i:Nat):(i:Int) - (i:Int) % 3 + ((i:Int) + 1) % 3=after i:=by unfold after; split <;> omega
noncomputable def sp_law (K:PySem.W.Frag):Sp:=fun vs H Q _=>∃ (a:Addr) (ns:List Int),vs=[.ref a]∧SqL K H a (ns.map V.int)∧ns.length≤63∧∀ H',Q (.bl true) H'
theorem sp_law_start {K:PySem.W.Frag} {H:Hp} {a:Addr} {ns:List Int} (hl:ns.length≤63) (hS:SqL K H a (ns.map V.int)):sp_law K [.ref a] H (fun v _=>v=.bl true) fun _ _ _=>False:=⟨a,ns,rfl,hS,hl,fun _=>rfl⟩
theorem Yp.copy {H:Hp} {r l:Addr} {ns:List Int} {ts:List Addr} (h1:H r=some (.lst (ts.map V.ref))) (h2:ns.length=3 * ts.length) (h3:∀ (k:Nat) (t:Addr),ts[k]?=some t→H t=some (.tup (row3 ns k))) (hl:H l=none):Yp (upd H l (.lst (ts.map V.ref))) l ns :=
 ⟨ts,Zc,h2,fun k q e=>by rw [Ze (Zj (h3 k q e) hl)]; exact h3 k q e⟩
theorem Zhq {H1:Hp} {r l x dx C:Addr} {ns:List Int} {ts:List Addr} (g1:H1 r=some (.lst (ts.map V.ref))) (g2:ns.length=3 * ts.length) (g3:∀ (k:Nat) (t:Addr),ts[k]?=some t→H1 t=some (.tup (row3 ns k)))
  (hl1:H1 l=none) (hx:upd H1 l (.lst (ts.map V.ref)) x=none) (hdx:upd H1 l (.lst (ts.map V.ref)) dx=none) :
  Yp (upd (upd (upd H1 l (.lst (ts.map V.ref))) dx (.own x)) x (.ins C dx [])) l ns∧Same (upd H1 l (.lst (ts.map V.ref))) (upd (upd (upd H1 l (.lst (ts.map V.ref))) dx (.own x)) x (.ins C dx [])):=by
 have s:Same (upd H1 l (.lst (ts.map V.ref))) (upd (upd (upd H1 l (.lst (ts.map V.ref))) dx (.own x)) x (.ins C dx [])):=Same.add (Same.new hdx) hx
 exact ⟨(Yp.copy g1 g2 g3 hl1).same s,s⟩
theorem Zgc {a b c:List Int} (h1:a.Perm c) (h2:b.Perm c) (s1:a.Pairwise (·≤·)) (s2:b.Pairwise (·≤·)):a=b :=
 (h1.trans h2.symm).eq_of_pairwise (fun x y _ _ h1 h2=>Int.le_antisymm h1 h2) s1 s2
section
variable {P:Program} {w:World} {K:PySem.W.Frag} {mg:Str→Option Value} {base:Heap} {t:Adr}
theorem Fm:FnScope ["_law_found","_law_due","_law_k"] ["_law_found","_law_due"] (Zg Zbv):=⟨rfl,rfl,rfl,by decide +kernel,rfl,by decide +kernel,by decide +kernel⟩
theorem Q2 (T:Txt w K mg t):FnOk P w K mg base (CXr P w) 2 t.f_l_list t.d_l_list ["_law_found","_law_due"] Zjz:=by
 refine T.p_l_list.F.aR Fm (fun cdv A outer s H vs Q E hr h=>?_)
 ·obtain ⟨a,b,xs,rfl,ha,hb,hl,k⟩:=h
  refine ⟨_,(Zd (Z1 (PW.pt (Wl (Yf (Yn (Zo We (by rfl) T.n_isinstance PyProof.Rows.boot_isinstance (Za (pv 0) (Za (Qb (v:=.ty "list") (by rfl) T.n_list PySem.Pv.boot_list rfl) Zb))))) (Wb (Zt Ob (Zo Zm (by rfl) T.n_len PySem.boot_len (Za (pv 0) Zb)) (Zo Zm (by rfl) T.n_len PySem.boot_len (Za (pv 1) Zb)) (Zs _))))) (Zh (Zl Xp)) Zu)
   (Zd (Wc PassesOwn.never rfl (Xh rfl T.n_range (Za (Zo Zm (by rfl) T.n_len PySem.boot_len (Za (pv 1) Zb)) Zb)) (Zq (i:=2) Fm.nd rfl (Or.inl rfl)) (Zh (Z1 (PW.pt (Wl (Yf (Yn (pcT (Vy T) hr T.p_l_whole (Za (Zv Zw (pv 0) (pv 2) (fun _ _=>rfl)) Zb)))) (Wb (Zt Ob (Zv Zw (pv 0) (pv 2) (fun _ _=>rfl)) (Zv Zw (pv 1) (pv 2) (fun _ _=>rfl)) (Zs _))))) (Zh (Zl Xp)) Zu)))
   (Zh (Zl Xp)))),?_⟩
  refine ⟨_,rfl,_,"list",_,true,rfl,TyOf.lst ha,Qp,_,rfl,iteF ?_⟩
  refine ⟨_,rfl,a,_,rfl,.inl (SqL.of ha),_,rfl,b,_,rfl,.inl (SqL.of hb),rfl,_,rfl,?_⟩
  rw [show (!decide (V.int ((xs.map V.int).length:Nat)=V.int ((xs.map V.int).length:Nat)))=false by simp]
  refine iteF ?_
  dsimp only [Xf]
  show tSeq (tFor _ _ _) _ _ _ _
  refine Yg (fun σ H1=>H1=H) (fun nx hnx=>?_) ?_
  ·refine ⟨_,rfl,b,_,rfl,.inl (SqL.of hb),_,rfl,by omega,by rw [List.length_map]; omega,?_⟩
   have eL:(((xs.map V.int).length:Nat):Int).toNat=xs.length:=by simp
   rw [eL]
   refine Wy (n:=xs.length) (fun i σ H1=>∃ v,σ=[some (.ref a),some (.ref b),v]∧H1=H) ⟨none,rfl,rfl⟩ ?_ ?_
   ·rintro i σ H1 hlt ⟨v,rfl,rfl⟩
    have ei:atI (xs.map V.int) (0 + (i:Int))=some (V.int xs[i]):=by rw [Int.zero_add]; exact Yk (List.getElem?_eq_getElem hlt)
    dsimp only [Zp]
    refine ⟨_,rfl,_,rfl,a,_,_,_,rfl,rfl,SqL.of ha,ei,_,rfl,_,rfl,iteF ?_⟩
    refine ⟨_,rfl,_,rfl,a,_,_,_,rfl,rfl,SqL.of ha,ei,_,rfl,_,rfl,b,_,_,_,rfl,rfl,SqL.of hb,ei,rfl,_,rfl,?_⟩
    rw [show (!decide (V.int xs[i]=V.int xs[i]))=false by simp]
    exact iteF ⟨_,rfl,rfl⟩
   ·rintro σ H1 ⟨v,rfl,rfl⟩
    exact hnx _ _ rfl
  ·rintro σ H1 rfl
   exact k
theorem Zgf:FnScope ["_law_rows_here","_law_place"] ["_law_rows_here","_law_place"] (Zg Zbs):=⟨rfl,rfl,rfl,by decide +kernel,rfl,by decide +kernel,by decide +kernel⟩
theorem Zgz (T:Txt w K mg t):FnOk P w K mg base (CXr P w) 1 t.f_l_seam t.d_l_seam ["_law_rows_here","_law_place"] Zjv:=by
 refine T.p_l_seam.F.aR Zgf (fun cdv A outer s H vs Q E hr h=>?_)
 ·obtain ⟨r,ns,i,x,rfl,hr1,hx,k⟩:=h
  refine ⟨_,(Zh (Zl (Zv Wj (Zv Zw (pv 0) (Zi Yv (pv 1) Zf) (fun _ _=>rfl)) (Zi Zy (pv 1) Zf) (fun _ _=>rfl)))),?_⟩
  obtain ⟨ts,q,e1,e2,e3,e4⟩:=Zby hr1 hx
  refine ⟨_,rfl,_,rfl,_,_,rfl,rfl,⟨by decide,by decide⟩,r,_,_,_,rfl,rfl,SqL.of e1,(by rw [div3]; exact Yk e2),_,rfl,_,_,rfl,rfl,(by show (0:Int) < 3; decide),q,_,_,_,rfl,rfl,SqT.of e3,(by rw [mod3]; exact X4 e4),k⟩
end
end KT
set_option maxHeartbeats 4000000
namespace KT
open PySem L2
theorem Ziq {ws:List Int}:(((ws.map V.int).length:Nat):Int)=ws.length:=by rw [List.length_map]
theorem Zi3 (x0:Int) (xr:List Int):cutV ((x0 :: xr).map V.int) (some 1) none=xr.map V.int:=by
 unfold cutV
 have e1:HT.sIx ((x0 :: xr).map V.int).length 0 (some ((1:Nat):Int))=1:=by
  rw [HT.sIx_nat,List.length_map,List.length_cons]
  omega
 rw [show (some (1:Int))=some ((1:Nat):Int) from rfl,e1,HT.sIx_none,List.map_cons,List.drop_succ_cons,List.drop_zero,List.length_cons,Nat.add_sub_cancel,List.take_length]
theorem Zcv {α:Type} {p:α→Bool} {l:List α} {i:Nat} {x:α} (h:l[i]?=some x):(l.take (i + 1)).filter p=if p x=true then (l.take i).filter p ++ [x] else (l.take i).filter p:=by
 rw [List.take_add_one,h,List.filter_append]
 by_cases c:p x=true
 ·simp [c]
 ·simp [c]
noncomputable def Zjs:Sp:=fun vs H Q _=>∃ (m a:Addr) (M:List (Option Nat)) (xs:List Int),vs=[.ref m,.ref a]∧H m=some (.lst (M.map mV))∧H a=some (.lst (xs.map V.int))∧xs≠[]∧xs.length≤60∧(∀ x∈xs,0≤x∧x < 1009)∧M.length≤42∧(∃ n,M.length=3 * n)∧(∀ (i j:Nat),M[i]?=some (some j)→M[j]?=some (some i)∧i≠j) ∧
 ∀ (l:Addr) (ws:List Nat) (H':Hp),Same H H'→H l=none→H' l=some (.lst (ws.map nV))→ws.length≤60→(ws=[]∨Pl M ws)→Q (.ref l) H'
noncomputable def Zf7 (K:PySem.W.Frag):Sp:=fun vs H Q _=>∃ (a m:Addr) (sc:List Int) (i:Int) (M:List (Option Nat)),vs=[.ref a,.int i,.ref m]∧SqL K H a (sc.map V.int)∧sc.length≤63∧0≤i∧i < 1000∧H m=some (.lst (M.map mV))∧M.length≤42∧(∃ n,M.length=3 * n)∧(∀ (i j:Nat),M[i]?=some (some j)→M[j]?=some (some i)∧i≠j) ∧
 ∀ (l:Addr) (ws:List Nat) (H':Hp),Same H H'→H l=none→H' l=some (.lst (ws.map nV))→ws.length≤60→(ws=[]∨Pl M ws)→Q (.ref l) H'
noncomputable def hasM (M:List (Option Nat)) (i:Nat):Bool:=match M[i]? with
 | some (some _)=>true
 | _=>false
theorem Jn {M:List (Option Nat)} {i:Nat}:hasM M i=true ↔ ∃ j,M[i]?=some (some j):=by
 unfold hasM
 split
 ·rename_i j h; exact ⟨fun _=>⟨j,h⟩,fun _=>rfl⟩
 ·rename_i h; exact ⟨fun z=>absurd z (by decide),fun ⟨j,e⟩=>absurd e (h j)⟩
section
variable {P:Program} {w:World} {K:PySem.W.Frag} {mg:Str→Option Value} {base:Heap} {t:Adr}
theorem Xo:FnScope ["_law_mates","_law_nums","_law_spots","_law_row","_law_pick","_law_side","_law_ways","_law_start","_law_stop"] ["_law_mates","_law_nums"] (Zg Zbp):=⟨rfl,rfl,rfl,by decide +kernel,rfl,by decide +kernel,by decide +kernel⟩
theorem Zgw (T:Txt w K mg t):FnOk P w K mg base (CXr P w) 1 t.f_l_walk t.d_l_walk ["_law_mates","_law_nums"] Zjs:=by
  refine T.p_l_walk.F.aR Xo (fun cdv A outer s H vs Q E hr h=>?_)
  · obtain ⟨m,a,M,xs,rfl,hm,ha,hx0,hx60,hx,h42,⟨n,hn⟩,inv,k⟩:=h
    refine ⟨_,(Zd (Wd (ts:=["_law_p"]) (fv:=[("_law_mates",0)]) (i:=2) ⟨rfl,by decide +kernel,by decide +kernel,Yi (by rfl),⟨⟨rfl,rfl,Or.inl rfl⟩,trivial⟩⟩ rfl Xo.nd rfl rfl (by rfl) (Xh rfl T.n_range (Za (Zo Zm (by rfl) T.n_len PySem.boot_len (Za (pv 0) Zb)) Zb)) (fun _ _ _ _=>(Zq (i:=0) (show List.Nodup (["_law_p","_law_mates"]:List Str) from by decide +kernel) rfl (Or.inl rfl) (Or.inr rfl))) (fun _ _ _ _=>(Oa (Zt Vl (Zv (Jm K) (pv 1) (pv 0) (fun _ _=>rfl)) Qj (Zs _)))) (fun _ _ _=>rfl) (fun _ _ _ _ _ _=>Yu (pv 0)))
      (Zd (Z1 (Zt Xq (Zo Zm (by rfl) T.n_len PySem.boot_len (Za (pv 2) Zb)) Zf (Zs _)) (Zh (Zl (Y8 Zb))) Zu)
      (Zd (Zn (i:=3) Xo.nd rfl (Or.inl rfl) (Y8 (Za (Zv Zw (pv 2) (Zi Zy (Zv Zw (pv 1) Zf (fun _ _=>rfl)) (Zo Zm (by rfl) T.n_len PySem.boot_len (Za (pv 2) Zb))) (fun _ _=>rfl)) Zb)))
      (Zd (Wc PassesOwn.never rfl (X1 (Xu Jb (pv 1) (X0 Zf) Wm)) (Zq (i:=4) Xo.nd rfl (Or.inl rfl)) (Zd (Zn (i:=5) Xo.nd rfl (Or.inr rfl) (Zv Zw (pv 0) (Zv Zw (pv 3) (Zmm Zk1 Zf) (fun _ _=>rfl)) (fun _ _=>rfl)))
      (Zd (Wd (ts:=["_law_k"]) (fv:=[("_law_side",5)]) (i:=6) ⟨rfl,by decide +kernel,by decide +kernel,Yi (by rfl),⟨⟨rfl,rfl,Or.inl rfl⟩,trivial⟩⟩ rfl Xo.nd rfl rfl (by rfl) (Xh rfl T.n_range (Za Zf Zb)) (fun _ _ _ _=>(Zq (i:=0) (show List.Nodup (["_law_k","_law_side"]:List Str) from by decide +kernel) rfl (Or.inl rfl) (Or.inr rfl))) (fun _ _ _ _=>Yl) (fun _ _ _=>rfl) (fun _ _ _ _ _ _=>Yu (Zi Z0 (Zi Uz (pv 1) (Zi Zy (pv 1) Zf)) (Zi Zy (Zi Z0 (Zi Z0 (pv 1) Zf) (pv 0)) Zf))))
      (Zd (Wd (ts:=["_law_p"]) (fv:=[("_law_mates",0)]) (i:=6) ⟨rfl,by decide +kernel,by decide +kernel,Yi (by rfl),⟨⟨rfl,rfl,Or.inl rfl⟩,trivial⟩⟩ rfl Xo.nd rfl rfl (by rfl) (X1 (pv 6)) (fun _ _ _ _=>(Zq (i:=0) (show List.Nodup (["_law_p","_law_mates"]:List Str) from by decide +kernel) rfl (Or.inl rfl) (Or.inr rfl))) (fun _ _ _ _=>(Oa (Zt Vl (Zv (Jm K) (pv 1) (pv 0) (fun _ _=>rfl)) Qj (Zs _)))) (fun _ _ _=>rfl) (fun _ _ _ _ _ _=>Yu (pv 0)))
      (Zd (Z1 (Zt Xq (Zo Zm (by rfl) T.n_len PySem.boot_len (Za (pv 6) Zb)) Zf (Zs _)) (Zh Zh8) Zu)
      (Zh (Z8 (Wf PySem.F.plainAttrs_list PySem.F.slot_list_append PySem.F.type_list_append Xa (pv 3) (Za (Zv Zw (pv 6) (Zi Zy (pv 4) (Zo Zm (by rfl) T.n_len PySem.boot_len (Za (pv 6) Zb))) (fun _ _=>rfl)) Zb)))))))))
      (Zd (Wc PassesOwn.never rfl (Xh rfl T.n_range (Za (Zo Zm (by rfl) T.n_len PySem.boot_len (Za (pv 3) Zb)) Zb)) (Zq (i:=7) Xo.nd rfl (Or.inl rfl)) (Zh (Wc PassesOwn.never rfl (Zkb rfl T.n_reversed rfl T.n_range (Za (Zi Z0 (pv 7) Zf) (Za (Zo Zm (by rfl) T.n_len PySem.boot_len (Za (pv 3) Zb)) Zb))) (Zq (i:=8) Xo.nd rfl (Or.inl rfl)) (Zh (Z1 (Zt Xq (Zv Zw (pv 3) (pv 7) (fun _ _=>rfl)) (Zv Zw (pv 3) (pv 8) (fun _ _=>rfl)) (Zs _)) (Zh (Zl (Xu Jb (pv 3) (X0 (pv 7)) (X0 (pv 8))))) Zu)))))
      (Zh (Zl (Y8 Zb)))))))),?_⟩
    refine Zk fun nxC hnxC=>?_
    refine ⟨_,rfl,m,_,rfl,.inl (SqL.of hm),_,rfl,by omega,by rw [List.length_map]; omega,fun D hD=>?_⟩
    have eL:(((M.map mV).length:Nat):Int).toNat=M.length:=by simp
    rw [eL]
    refine W6 (fun i σ H1=>∃ v,σ=[v,some (.ref m)]∧Same H H1∧H1 D=some (.lst (((List.range i).filter (hasM M)).map nV))) ⟨none,rfl,Same.new hD,Zc⟩ ?_ ?_
    · rintro i σ H1 hlt ⟨v,rfl,sm,h1⟩
      dsimp only [Zp]
      rw [Int.zero_add]
      obtain ⟨y,hy⟩:∃ y,M[i]?=some y:=⟨_,List.getElem?_eq_getElem hlt⟩
      have lt:(((List.range i).filter (hasM M)).map nV).length < sizeLine:=by
        rw [List.length_map]
        have:=List.length_filter_le (hasM M) (List.range i)
        rw [List.length_range] at this
        exact Zx (by omega)
      refine ⟨_,rfl,_,rfl,m,_,_,_,rfl,rfl,SqL.of (sm _ _ hm),Yk hy,rfl,_,rfl,?_⟩
      cases y with
      | none =>
        refine iteF ⟨_,rfl,sm,?_⟩
        rw [h1,List.range_succ,List.filter_append]
        have:hasM M i=false:=by rw [Bool.eq_false_iff]; intro z; obtain ⟨j,e⟩:=Jn.mp z; rw [hy] at e; cases e
        simp [this]
      | some j =>
        refine iteT ⟨_,rfl,_,h1,lt,_,rfl,Same.add sm hD,?_⟩
        rw [Zc,List.range_succ,List.filter_append]
        have:hasM M i=true:=Jn.mpr ⟨j,hy⟩
        simp [this]
        rfl
    rintro σ H1 ⟨v,rfl,s1,h1⟩
    refine hnxC _ _ ?_
    have hsp:∀ p∈(List.range M.length).filter (hasM M),∃ j,M[p]?=some (some j):=fun p hp=>Jn.mp (List.mem_filter.mp hp).2
    generalize (List.range M.length).filter (hasM M)=sps at h1 hsp
    refine Zk fun nxC hnxC=>?_
    refine ⟨_,rfl,D,_,rfl,.inl (SqL.of h1),rfl,_,rfl,?_⟩
    refine ite2 (fun c=>?_) (fun c=>?_)
    · exact ⟨Nat.zero_le _,fun l hl=>k l [] _ (Same.add s1 (s1.free hl)) (s1.free hl) Zc (Nat.zero_le _) (.inl rfl)⟩
    have hne:0 < sps.length:=by
      cases sps with
      | nil=>exact absurd rfl c
      | cons _ _=>simp
    dsimp only [Xf]
    refine hnxC _ _ ?_
    obtain ⟨x0,xr,rfl⟩:∃ x0 xr,xs=x0 :: xr:=by
      cases xs with
      | nil=>exact absurd rfl hx0
      | cons a b=>exact ⟨a,b,rfl⟩
    have k0:=Int.emod_nonneg x0 (show (sps.length:Int)≠0 by omega)
    have k1:=Int.emod_lt_of_pos x0 (show (0:Int) < sps.length by omega)
    obtain ⟨kk,hkk⟩:∃ kk:Nat,x0 % (sps.length:Int)=kk:=⟨_,(Int.toNat_of_nonneg k0).symm⟩
    have hkl:kk < sps.length:=by omega
    refine Zk fun nxC hnxC=>?_
    refine ⟨_,rfl,_,rfl,a,_,_,_,rfl,rfl,SqL.of (s1 _ _ ha),(show atI _ ((0:Nat):Int)=_ from X4 rfl),_,rfl,D,_,rfl,.inl (SqL.of h1),_,_,rfl,rfl,(by rw [List.length_map]; omega),D,_,_,_,rfl,rfl,SqL.of h1,(by rw [List.length_map,hkk]; exact Yk (List.getElem?_eq_getElem hkl)),(by show 1≤sizeLine; decide),fun r hr1=>?_⟩
    refine hnxC _ _ ?_
    have hr0:H r=none:=s1.free hr1
    obtain ⟨j0,hj0⟩:=hsp _ (List.getElem_mem hkl)
    have ch0:Ch M [sps[kk]]:=Ch.one hj0
    generalize sps[kk]=p0 at ch0
    have s2:Same H (upd H1 r (.lst [nV p0])):=Same.add s1 hr0
    have h2:(upd H1 r (.lst [nV p0])) r=some (.lst ([p0].map nV)):=Zc
    generalize upd H1 r (.lst [nV p0])=H2 at s2 h2
    dsimp only [Zp]
    show tSeq (tFor _ _ _) _ _ _ _
    refine Yg (fun σ H3=>∃ (row:List Nat) (v4 v5 v6:Option V),σ=[some (.ref m),some (.ref a),some (.ref D),some (.ref r),v4,v5,v6,none,none]∧Same H H3∧H3 r=some (.lst (row.map nV))∧Ch M row∧row.length≤60) (fun nx hnx=>?_) ?_
    · refine ⟨_,rfl,_,rfl,a,_,rfl,SqL.of (s2 _ _ ha),fun q hq=>?_⟩
      rw [Zi3]
      have hrq:r≠q:=Zj h2 hq
      have hq0:H q=none:=s2.free hq
      refine ⟨q,rfl,⟨_,SqL.of Zc⟩,?_⟩
      rw [List.length_cons] at hx60
      refine Zct (xs:=xr.map V.int) (fun i σ H3=>∃ (row:List Nat) (v4 v5 v6:Option V),σ=[some (.ref m),some (.ref a),some (.ref D),some (.ref r),v4,v5,v6,none,none]∧Same H H3∧H3 q=some (.lst (xr.map V.int))∧H3 r=some (.lst (row.map nV))∧Ch M row∧row≠[]∧row.length≤i + 1)
        ⟨[p0],none,none,none,rfl,Same.add s2 hq0,Zc,by rw [Ze hrq]; exact h2,ch0,by simp,by simp⟩ ?_ ?_ ?_
      · rintro i σ H3 _ ⟨row,v4,v5,v6,rfl,s3,h3,_⟩
        exact SqL.of h3
      · rintro i x σ H3 hxi ⟨row,v4,v5,v6,rfl,s3,h3,h4,ch,rne,rlen⟩
        have hi:i < xr.length:=by have:=(List.getElem?_eq_some_iff.mp hxi).1; rw [List.length_map] at this; exact this
        obtain ⟨pick,hpk,rfl⟩:∃ pick,xr[i]?=some pick∧x=V.int pick:=by
          rw [List.getElem?_map,List.getElem?_eq_getElem hi] at hxi
          exact ⟨_,List.getElem?_eq_getElem hi,(Option.some.inj hxi).symm⟩
        obtain ⟨la,hla⟩:∃ la,row.getLast?=some la:=by
          cases e:row.getLast? with
          | none=>exact absurd (List.getLast?_eq_none_iff.mp e) rne
          | some z=>exact ⟨z,rfl⟩
        have hlm:la∈row:=List.mem_of_getLast? hla
        obtain ⟨sd,hsd⟩:=ch.has la hlm
        have hsdM:sd < M.length:=(List.getElem?_eq_some_iff.mp (inv la sd hsd).1).1
        have elast:atI (row.map nV) (-1)=some (nV la):=by
          unfold atI ixN
          have hl:0 < row.length:=by cases row with | nil=>exact absurd rfl rne | cons _ _=>simp
          rw [if_neg (by decide),if_pos (by rw [List.length_map]; omega)]
          show ((row.map nV)[((-1:Int) + (row.map nV).length).toNat]?)=_
          rw [List.length_map,show ((-1:Int) + (row.length:Int)).toNat=row.length - 1 by omega,List.getElem?_map,← List.getLast?_eq_getElem?,hla]
          rfl
        dsimp only [Zp]
        refine Zk fun nxC hnxC=>?_
        refine ⟨_,rfl,_,rfl,_,rfl,r,_,_,_,rfl,rfl,SqL.of h4,elast,m,_,_,_,rfl,rfl,SqL.of (s3 _ _ hm),Yk hsd,?_⟩
        refine hnxC _ _ ?_
        refine Zk fun nxC hnxC=>?_
        refine ⟨2,rfl,by decide,by decide,fun W hW=>?_⟩
        have hW0:H W=none:=s3.free hW
        have hWr:r≠W:=Zj h4 hW
        have hWq:q≠W:=Zj h3 hW
        refine W6 (n:=2) (fun c σ H5=>∃ v,σ=[v,some (nV sd)]∧Same H3 H5∧H5 W=some (.lst (([side sd 1,side sd 2].take c).map nV))) ⟨none,rfl,Same.new hW,Zc⟩ ?_ ?_
        · rintro c σ H5 hc ⟨v,rfl,s5,h5⟩
          dsimp only [Zp,tYes]
          rw [if_pos rfl]
          refine ⟨_,rfl,_,rfl,_,_,rfl,rfl,(by show (0:Int) < 3; decide),_,_,rfl,rfl,_,rfl,_,_,rfl,rfl,_,rfl,_,_,rfl,rfl,_,_,rfl,rfl,(by show (0:Int) < 3; decide),_,_,rfl,rfl,_,h5,?_,_,rfl,Same.add s5 hW,?_⟩
          · rw [List.length_map,List.length_take]; exact Zx (by omega)
          · rw [Zc]
            have hc:c=0∨c=1:=by omega
            have e:∀ k:Nat,(sd:Int) - (sd:Int) % 3 + ((sd:Int) + 1 + (0 + (k:Int))) % 3=((side sd (k + 1):Nat):Int):=fun k=>by unfold side; omega
            rcases hc with rfl | rfl
            · show some (HO.lst ([] ++ [V.int ((sd:Int) - (sd:Int) % 3 + ((sd:Int) + 1 + (0 + ((0:Nat):Int))) % 3)]))=_
              rw [e 0]; rfl
            · show some (HO.lst ([nV (side sd 1)] ++ [V.int ((sd:Int) - (sd:Int) % 3 + ((sd:Int) + 1 + (0 + ((1:Nat):Int))) % 3)]))=_
              rw [e 1]; rfl
        rintro σ H5 ⟨v,rfl,s5,h5⟩
        refine hnxC _ _ ?_
        have h5:H5 W=some (.lst ([side sd 1,side sd 2].map nV)):=h5
        have sl:∀ c,side sd c < M.length:=fun c=>by rw [hn]; exact Zj2 (by omega)
        refine Zk fun nxC hnxC=>?_
        refine ⟨_,rfl,W,rfl,⟨_,SqL.of h5⟩,fun W2 hW2=>?_⟩
        have s35:=s3.trans s5
        refine Xr (xs:=[side sd 1,side sd 2].map nV) (fun c σ H6=>∃ v,σ=[v,some (.ref m)]∧Same H5 H6∧H6 W2=some (.lst ((([side sd 1,side sd 2].take c).filter (hasM M)).map nV))) ⟨none,rfl,Same.new hW2,Zc⟩ ?_ ?_ ?_
        · rintro c σ H6 _ ⟨v,rfl,s6,h6⟩
          exact SqL.of (s6 _ _ h5)
        · rintro c x σ H6 hxc ⟨v,rfl,s6,h6⟩
          obtain ⟨p,hp,rfl⟩:=Ys hxc
          have hpM:p < M.length:=by
            have:=List.mem_of_getElem? hp
            rcases List.mem_cons.mp this with rfl | z
            · exact sl 1
            · rw [List.mem_singleton.mp z]; exact sl 2
          obtain ⟨y,hy⟩:∃ y,M[p]?=some y:=⟨_,List.getElem?_eq_getElem hpM⟩
          dsimp only [Zp]
          refine ⟨_,rfl,_,rfl,m,_,_,_,rfl,rfl,SqL.of (s6 _ _ (s35 _ _ hm)),Yk hy,rfl,_,rfl,?_⟩
          cases y with
          | none =>
            refine iteF ⟨_,rfl,s6,?_⟩
            have:hasM M p=false:=by rw [Bool.eq_false_iff]; intro z; obtain ⟨j,e⟩:=Jn.mp z; rw [hy] at e; cases e
            rw [h6,Zcv hp,if_neg (by rw [this]; decide)]
          | some jj =>
            refine iteT ⟨_,rfl,_,h6,?_,_,rfl,Same.add s6 hW2,?_⟩
            · rw [List.length_map]
              have h1:=List.length_filter_le (hasM M) ([side sd 1,side sd 2].take c)
              have h2:([side sd 1,side sd 2].take c).length≤2:=by rw [List.length_take]; exact Nat.min_le_right _ _
              exact Zx (by omega)
            · rw [Zc,Zcv hp,if_pos (Jn.mpr ⟨jj,hy⟩),List.map_append]
              rfl
        rintro σ H6 ⟨v,rfl,s6,h6⟩
        refine hnxC _ _ ?_
        have h6:H6 W2=some (.lst (([side sd 1,side sd 2].filter (hasM M)).map nV)):=h6
        have hws:∀ p∈[side sd 1,side sd 2].filter (hasM M),(∃ j,M[p]?=some (some j))∧p / 3=sd / 3∧p≠sd:=fun p hp=>by
          obtain ⟨z1,z2⟩:=List.mem_filter.mp hp
          refine ⟨Jn.mp z2,?_,?_⟩
          · rcases List.mem_cons.mp z1 with rfl | z
            · exact Zbf _ _
            · rw [List.mem_singleton.mp z]; exact Zbf _ _
          · rcases List.mem_cons.mp z1 with rfl | z
            · unfold side; omega
            · rw [List.mem_singleton.mp z]; unfold side; omega
        generalize [side sd 1,side sd 2].filter (hasM M)=wys at h6 hws
        have s36:=s5.trans s6
        have h4':=s36 _ _ h4
        have h3':=s36 _ _ h3
        have s06:=s3.trans s36
        refine Zk fun nxC hnxC=>?_
        refine ⟨_,rfl,W2,_,rfl,.inl (SqL.of h6),rfl,_,rfl,?_⟩
        refine ite2 (fun c=>?_) (fun c=>?_)
        · exact hnx _ _ ⟨row,_,_,_,rfl,s06,h4',ch,by omega⟩
        have hwp:0 < wys.length:=by
          cases wys with
          | nil=>exact absurd rfl c
          | cons _ _=>simp
        dsimp only [Xf]
        refine hnxC _ _ ?_
        have c0:=Int.emod_nonneg pick (show (wys.length:Int)≠0 by omega)
        have c1:=Int.emod_lt_of_pos pick (show (0:Int) < wys.length by omega)
        obtain ⟨cc,hcc⟩:∃ cc:Nat,pick % (wys.length:Int)=cc:=⟨_,(Int.toNat_of_nonneg c0).symm⟩
        have hcl:cc < wys.length:=by omega
        obtain ⟨w1,w2,w3⟩:=hws _ (List.getElem_mem hcl)
        have hget:=List.getElem?_eq_getElem hcl
        refine ⟨_,rfl,.inl ⟨rfl,_,SqL.of h4'⟩,_,rfl,_,rfl,_,rfl,W2,_,rfl,.inl (SqL.of h6),_,_,rfl,rfl,(by rw [List.length_map]; omega),W2,_,_,_,rfl,rfl,SqL.of h6,(by rw [List.length_map,hcc]; exact Yk hget),r,_,_,rfl,rfl,h4',(by rw [List.length_map]; exact Zx (by omega)),?_⟩
        refine ⟨row ++ [wys[cc]],_,_,_,rfl,Same.add s06 hr0,?_,?_,ch.snoc hla hsd w2 w3 w1,by simp,by rw [List.length_append,List.length_singleton]; omega⟩
        · rw [Ze (Ne.symm hrq)]; exact h3'
        · rw [Zc,List.map_append]; rfl
      · rintro σ H3 ⟨row,v4,v5,v6,rfl,s3,h3,h4,ch,rne,rlen⟩
        rw [List.length_map] at rlen
        exact hnx _ _ ⟨row,_,_,_,rfl,s3,h4,ch,by omega⟩
    rintro σ H3 ⟨row,v4,v5,v6,rfl,s3,h3,ch,rlen⟩
    show tSeq (tFor _ _ _) _ _ _ _
    refine Yg (fun σ H4=>H4=H3) (fun nx hnx=>?_) ?_
    · refine ⟨_,rfl,r,_,rfl,.inl (SqL.of h3),_,rfl,by omega,by rw [List.length_map]; omega,?_⟩
      have eR:(((row.map nV).length:Nat):Int).toNat=row.length:=by simp
      rw [eR]
      refine Wy (n:=row.length) (fun i σ H4=>∃ v7 v8,σ=[some (.ref m),some (.ref a),some (.ref D),some (.ref r),v4,v5,v6,v7,v8]∧H4=H3) ⟨_,_,rfl,rfl⟩ ?_ ?_
      · rintro i σ H4 hi ⟨v7,v8,rfl,rfl⟩
        dsimp only [Zp]
        rw [Int.zero_add]
        refine ⟨_,rfl,_,_,rfl,rfl,_,rfl,r,_,rfl,.inl (SqL.of h3),((i + 1:Nat):Int),row.length - (i + 1),?_,by omega,by omega,?_⟩
        · rw [List.length_map]
          show [V.int ((i:Int) + 1),V.int (row.length:Int)]=_
          rw [show ((i:Int) + 1)=((i + 1:Nat):Int) by omega,show (row.length:Int)=((i + 1:Nat):Int) + ((row.length - (i + 1):Nat):Int) by omega]
        refine Zfj (n:=row.length - (i + 1)) (fun c σ H5=>∃ v8,σ=[some (.ref m),some (.ref a),some (.ref D),some (.ref r),v4,v5,v6,some (.int i),v8]∧H5=H4) ⟨_,rfl,rfl⟩ ?_ ?_
        · rintro c σ H4 hc ⟨v8,rfl,rfl⟩
          obtain ⟨e,he,hie,hel⟩:∃ e:Nat,((i + 1:Nat):Int) + ((row.length - (i + 1):Nat):Int) - 1 + (c:Int) * -1=(e:Int)∧i < e∧e < row.length:=⟨row.length - 1 - c,by omega,by omega,by omega⟩
          dsimp only [Zp]
          rw [he]
          have gi:=List.getElem?_eq_getElem hi
          have ge:=List.getElem?_eq_getElem hel
          refine ⟨_,rfl,_,rfl,r,_,_,_,rfl,rfl,SqL.of h3,Yk gi,_,rfl,_,rfl,r,_,_,_,rfl,rfl,SqL.of h3,Yk ge,rfl,_,rfl,?_⟩
          refine ite2 (fun z=>?_) (fun z=>?_)
          · have z:nV row[i]=nV row[e]:=of_decide_eq_true z
            have z:row[i]=row[e]:=by unfold nV at z; injection z with z; omega
            refine ⟨_,rfl,_,rfl,_,rfl,_,rfl,_,rfl,r,_,rfl,SqL.of h3,fun l hl=>?_⟩
            have ec:cutV (row.map nV) (some (i:Int)) (some (e:Int))=((row.drop i).take (e - i)).map nV:=by
              unfold cutV
              rw [HT.sIx_nat,HT.sIx_nat,List.length_map,Nat.min_eq_left (by omega),Nat.min_eq_left (by omega),List.map_take,List.map_drop]
            rw [ec]
            refine k l _ _ (Same.add s3 (s3.free hl)) (s3.free hl) Zc ?_ (.inr (ch.cut hie gi (by rw [ge,z])))
            rw [List.length_take,List.length_drop]; omega
          · exact ⟨_,rfl,rfl⟩
        · rintro σ H4 ⟨v8,rfl,rfl⟩
          exact ⟨_,_,rfl,rfl⟩
      · rintro σ H4 ⟨v7,v8,rfl,rfl⟩
        exact hnx _ _ rfl
    · rintro σ H4 rfl
      exact ⟨Nat.zero_le _,fun l hl=>k l [] _ (Same.add s3 (s3.free hl)) (s3.free hl) Zc (Nat.zero_le _) (.inl rfl)⟩
end
end KT
set_option maxHeartbeats 4000000
namespace KT
open PySem L2
noncomputable def Jq (ws:List Int) (by':Int):List Int:=rot ws (by' % ws.length).toNat
noncomputable def Zf6:Sp:=fun vs H Q _=>∃ (a:Addr) (ws:List Int) (b:Int),vs=[.ref a,.int b]∧H a=some (.lst (ws.map V.int))∧ws.length≤100000∧∀ (l:Addr) (H':Hp),Same H H'→H l=none→H' l=some (.lst ((Jq ws b).map V.int))→Q (.ref l) H'
noncomputable def Za7 (C:Addr):Sp:=fun vs H Q _=>∃ (p:Addr) (M:List (Option Nat)) (ns:List Int) (x:Int),vs=[.ref p,.int x]∧Yb C H p M ns∧M.length=ns.length∧Q (.bl (X3 M x)) H
noncomputable def Zex (C:Addr):Sp:=fun vs H Q _=>∃ (p:Addr) (M:List (Option Nat)) (ns:List Int) (a x:Int),vs=[.ref p,.int a,.int x]∧Yb C H p M ns∧M.length=ns.length∧X3 M a=true∧Q (.bl (Wp M a x)) H
noncomputable def Zhw (C:Addr):Sp:=fun vs H Q _=>∃ (p a:Addr) (M:List (Option Nat)) (ns ws:List Int),vs=[.ref p,.ref a]∧Yb C H p M ns∧M.length=ns.length∧H a=some (.lst (ws.map V.int))∧ws.length≤100000∧∀ H',Same H H'→Q (.bl (Ws M ws)) H'
noncomputable def Gv (C EN:Addr):Sp:=fun vs H Q E=>∃ (p a:Addr) (M:List (Option Nat)) (ns ws:List Int),vs=[.ref p,.ref a]∧Yb C H p M ns∧M.length=ns.length∧H a=some (.lst (ws.map V.int))∧ws.length≤100000∧∀ H',Same H H'→(Ws M ws=true→Q .non H')∧(Ws M ws=false→E (.ref EN) none H')
theorem Y5 {n:Nat} (h:n≤100000):n≤sizeLine:=by rw [sizeLine_eq]; omega
theorem V3 {ws:List Int} {s:Nat} (h:s≤ws.length):cutV (ws.map V.int) (some (s:Int)) none=(ws.drop s).map V.int:=by
 unfold cutV
 rw [HT.sIx_nat,HT.sIx_none,List.length_map,Nat.min_eq_left h,List.map_drop,List.take_of_length_le]
 rw [List.length_drop,List.length_map]
 exact Nat.le_refl _
theorem Gq {ws:List Int} {s:Nat} (h:s≤ws.length):cutV (ws.map V.int) none (some (s:Int))=(ws.take s).map V.int:=by
 unfold cutV
 rw [HT.sIx_none,HT.sIx_nat,List.length_map,Nat.min_eq_left h,List.drop_zero,Nat.sub_zero,List.map_take]
section
variable {P:Program} {w:World} {K:PySem.W.Frag} {mg:Str→Option Value} {base:Heap} {t:Adr}
theorem Op:FnScope ["_law_script","_law_at","_law_mates","_law_cell_here"] ["_law_script","_law_at","_law_mates"] (Zg K3):=⟨rfl,rfl,rfl,by decide +kernel,rfl,by decide +kernel,by decide +kernel⟩
theorem O2 (T:Txt w K mg t):FnOk P w K mg base (CXr P w) 2 t.f_l_thread t.d_l_thread ["_law_script","_law_at","_law_mates"] (Zf7 K):=by
 refine T.p_l_thread.F.aR Op (fun cdv A outer s H vs Q E hr h=>?_)
 ·obtain ⟨a,m,sc,i,M,rfl,hS,hl,i0,i1,hm,h42,hn,inv,k⟩:=h
  refine ⟨_,(Zd (Zn (i:=3) Op.nd rfl (Or.inl rfl) (pcT (Jv T) hr T.p_l_cell (Za (pv 0) (Za (pv 1) Zb))))
   (Zh (Zl (pcT (Zgw T) hr T.p_l_walk (Za (pv 2) (Za (pcT (U2 T) hr T.p_l_numbers (Za (Zi Yv (pv 3) Zf) (Za (Zi Z0 Zf (Zi Zy (pv 3) Zf)) Zb))) Zb)))))),?_⟩
  refine ⟨_,rfl,_,rfl,a,sc,i,rfl,hS,hl,i0,by omega,?_⟩
  dsimp only [Zp]
  generalize cell sc i=c
  have m0:0≤c % 50:=Int.emod_nonneg _ (by decide)
  have m1:c % 50 < 50:=Int.emod_lt_of_pos _ (by decide)
  have e:(4 + c % 50:Int)=((4 + (c % 50).toNat:Nat):Int):=by omega
  refine ⟨_,rfl,_,rfl,_,_,rfl,rfl,⟨by decide,by decide⟩,_,rfl,_,_,rfl,rfl,(by show (0:Int) < 50; decide),_,_,rfl,rfl,_,4 + (c % 50).toNat,(by rw [← e]; rfl),by omega,fun p xs H1 s1 hp h1 hxl hx=>?_⟩
  refine ⟨m,p,M,xs,rfl,s1 _ _ hm,h1,fun z=>by rw [z] at hxl; simp at hxl; omega,by omega,hx,h42,hn,inv,fun l ws H2 s2 hl2 h2 hw hpl=>k l ws H2 (s1.trans s2) (s1.free hl2) h2 hw hpl⟩
theorem Fl:FnScope ["word","by","start"] ["word","by"] (Zg Zbn):=⟨rfl,rfl,rfl,by decide +kernel,rfl,by decide +kernel,by decide +kernel⟩
theorem U1 (T:Txt w K mg t):FnOk P w K mg base (CXr P w) 1 t.f_turned t.d_turned ["word","by"] Zf6:=by
 refine T.p_turned.F.aR Fl (fun cdv A outer s H vs Q E hr h=>?_)
 ·obtain ⟨a,ws,b,rfl,ha,hl,k⟩:=h
  refine ⟨_,(Zd (Z1 (Yf (Jf (pv 0) (fun _=>rfl))) (Zh (Zl (Y8 Zb))) Zu)
   (Zd (Zn (i:=2) Fl.nd rfl (Or.inl rfl) (Zi Zy (pv 1) (Zo Zm (by rfl) T.n_len PySem.boot_len (Za (pv 0) Zb))))
   (Zh (Zl (Zi Qm (Xu Jb (pv 0) (X0 (pv 2)) Wm) (Xu Jb (pv 0) Wm (X0 (pv 2)))))))),?_⟩
  refine Zk fun nxC hnxC=>?_
  refine ⟨_,rfl,_,.inl ⟨_,SqL.of ha,rfl⟩,?_⟩
  by_cases hne:ws=[]
  ·subst hne
   exact iteT ⟨Nat.zero_le _,fun l hl'=>k l _ (Same.new hl') hl' (by rw [Zc]; unfold Jq rot; simp)⟩
  ·have e:(!(ws.map V.int).isEmpty)=true:=by cases ws with | nil=>exact absurd rfl hne | cons _ _=>rfl
   have hp:0 < ws.length:=by cases ws with | nil=>exact absurd rfl hne | cons _ _=>simp
   rw [e]
   refine iteF ?_
   dsimp only [Xf]
   refine hnxC _ _ ?_
   have k0:=Int.emod_nonneg b (show (ws.length:Int)≠0 by omega)
   have k1:=Int.emod_lt_of_pos b (show (0:Int) < ws.length by omega)
   obtain ⟨st,hst⟩:∃ st:Nat,b % (ws.length:Int)=st:=⟨_,(Int.toNat_of_nonneg k0).symm⟩
   have hsl:st≤ws.length:=by omega
   have et:Jq ws b=ws.drop st ++ ws.take st:=by unfold Jq rot; rw [hst,Int.toNat_natCast]
   refine ⟨_,rfl,_,rfl,a,_,rfl,.inl (SqL.of ha),_,_,rfl,rfl,(by rw [List.length_map]; omega),?_⟩
   dsimp only [Zp]
   rw [Ziq,hst]
   refine ⟨_,rfl,_,rfl,_,rfl,a,_,rfl,SqL.of ha,fun l1 h1=>?_⟩
   rw [V3 hsl]
   have s1:Same H (upd H l1 (.lst ((ws.drop st).map V.int))):=Same.new h1
   refine ⟨_,rfl,_,rfl,_,rfl,a,_,rfl,SqL.of (s1 _ _ ha),fun l2 h2=>?_⟩
   rw [Gq hsl]
   obtain ⟨hne2,h2'⟩:=Xc h2
   refine ⟨l1,l2,_,_,rfl,rfl,by rw [Ze (Ne.symm hne2),Zc],Zc,?_,fun l3 h3=>?_⟩
   ·rw [List.length_map,List.length_map,List.length_drop,List.length_take]; exact Y5 (by omega)
   ·have s3:=Same.add (o:=.lst ((ws.take st).map V.int)) s1 h2'
    refine k l3 _ (Same.add s3 (s3.free h3)) (s3.free h3) ?_
    rw [Zc,et,List.map_append]
theorem Zbi:FnScope ["tent","place"] ["tent","place"] (Zg Ou):=⟨rfl,rfl,rfl,by decide +kernel,rfl,by decide +kernel,by decide +kernel⟩
theorem Zce (T:Txt w K mg t):FnOk P w K mg base (CXr P w) 4 t.f_crossable t.d_crossable ["tent","place"] (Za7 t.C_Tent):=by
 refine T.p_crossable.F.aR Zbi (fun cdv A outer s H vs Q E hr h=>?_)
 ·obtain ⟨p,M,ns,x,rfl,ta,hMl,k⟩:=h
  obtain ⟨dx,cl,na,sp,mt,o,f,b⟩:=id ta
  refine ⟨_,(Zh (Zl (Qk (Z3 (pv 0) T.cl_Tent T.p_Tent_has_place.m (J4 T) (hr.mono (by decide)) T.p_Tent_has_place.b .nil Z2 (Za (pv 1) Zb)) (Vj (Wn Vl (Z3 (pv 0) T.cl_Tent T.p_Tent_mate.m (W4 T) (hr.mono (by decide)) T.p_Tent_mate.b .nil Z2 (Za (pv 1) Zb)) Qj (Zs _)))))),?_⟩
  refine ⟨_,rfl,p,dx,_,rfl,b.ins,Xm _ _ _ _,_,rfl,p,M,ns,x,rfl,ta,_,rfl,?_⟩
  by_cases c:0≤x∧x < (ns.length:Int)
  ·rw [decide_eq_true c]
   refine iteT ⟨_,rfl,p,dx,_,rfl,b.ins,Xm _ _ _ _,_,rfl,p,M,ns,x,rfl,ta,hMl,fun i y e1 e2=>?_,fun z=>absurd c z⟩
   refine ⟨rfl,?_⟩
   have:X3 M x=!decide (mV y=.non):=by
    unfold X3
    rw [e1,Int.toNat_natCast,List.getD_eq_getElem?_getD,e2,decide_eq_true (show (0:Int)≤i∧(i:Int) < M.length by omega)]
    cases y <;> rfl
   rw [this] at k
   exact k
  ·rw [decide_eq_false c]
   have:X3 M x=false:=by unfold X3; rw [decide_eq_false (by omega)]; rfl
   rw [this] at k
   exact iteF k
theorem Kx:FnScope ["tent","ahead","place","entry"] ["tent","ahead","place"] (Zg Fu):=⟨rfl,rfl,rfl,by decide +kernel,rfl,by decide +kernel,by decide +kernel⟩
theorem Zfa (T:Txt w K mg t):FnOk P w K mg base (CXr P w) 4 t.f_follows t.d_follows ["tent","ahead","place"] (Zex t.C_Tent):=by
 refine T.p_follows.F.aR Kx (fun cdv A outer s H vs Q E hr h=>?_)
 ·obtain ⟨p,M,ns,a,x,rfl,ta,hMl,hc,k⟩:=h
  obtain ⟨dx,cl,na,sp,mt,o,f,b⟩:=id ta
  refine ⟨_,(Zd (Zn (i:=3) Kx.nd rfl (Or.inl rfl) (Z3 (pv 0) T.cl_Tent T.p_Tent_mate.m (W4 T) (hr.mono (by decide)) T.p_Tent_mate.b .nil Z2 (Za (pv 1) Zb)))
   (Zh (Zl (Qk (Wn Xq (pcT (Js T) hr T.p_cloth_of (Za (pv 2) Zb)) (pcT (Js T) hr T.p_cloth_of (Za (pv 3) Zb)) (Zs _)) (Vj (Wn Ob (pv 2) (pv 3) (Zs _))))))),?_⟩
  obtain ⟨hr1,hs1⟩:=Bool.and_eq_true_iff.mp hc
  have hr1:=of_decide_eq_true hr1
  obtain ⟨m,hm⟩:=Option.isSome_iff_exists.mp hs1
  have hal:a.toNat < M.length:=by omega
  have ha:M[a.toNat]?=some (some m):=by rw [List.getD_eq_getElem?_getD,List.getElem?_eq_getElem hal] at hm; rw [List.getElem?_eq_getElem hal]; exact congrArg some hm
  have ef:Wp M a x=(decide (x / 3=(m:Int) / 3) && !decide (x=(m:Int))):=by unfold Wp; rw [hm]
  rw [ef] at k
  refine ⟨_,rfl,p,dx,_,rfl,b.ins,Xm _ _ _ _,_,rfl,p,M,ns,a,rfl,ta,hMl,fun i y e1 e2=>?_,fun z=>absurd (show 0≤a∧a < (ns.length:Int) by omega) z⟩
  have:i=a.toNat:=by omega
  subst this
  rw [ha] at e2
  cases e2
  refine ⟨_,rfl,_,rfl,_,rfl,_,rfl,rfl,_,rfl,?_⟩
  have dI:∀ u v:Int,decide (V.int u=V.int v)=decide (u=v):=fun u v=>by
   by_cases z:u=v
   ·subst z; simp
   ·rw [decide_eq_false z,decide_eq_false (fun y=>z (by injection y))]
  rw [dI]
  by_cases z:x / 3=(m:Int) / 3
  ·rw [decide_eq_true z] at k ⊢
   refine iteT ⟨_,rfl,_,rfl,rfl,?_⟩
   show Q (.bl (!decide (V.int x=V.int (m:Int)))) H
   rw [dI]
   exact k
  ·rw [decide_eq_false z] at k ⊢
   exact iteF k
theorem Zh0:FnScope ["tent","word"] ["tent","word"] (Zg Zdw):=⟨rfl,rfl,rfl,by decide +kernel,rfl,by decide +kernel,by decide +kernel⟩
theorem Zig (T:Txt w K mg t):FnOk P w K mg base (CXr P w) 5 t.f_plain t.d_plain ["tent","word"] (Zhw t.C_Tent):=by
  refine T.p_plain.F.aR Zh0 (fun cdv A outer s H vs Q E hr h=>?_)
  · obtain ⟨p,a,M,ns,ws,rfl,ta,hMl,ha,hl,k⟩:=h
    refine ⟨_,(Zd (Z1 (PW.pt (Wl (Yf (Jf (pv 1) (fun _=>rfl))) (Wb (Yf (Yn (Zo (Kq rfl) (by rfl) T.n_all PyProof.Rows.boot_all (Za (Xd (ts:=["place"]) (fv:=[("tent",0)]) ⟨rfl,by decide +kernel,by decide +kernel,Yi (by rfl),⟨⟨rfl,rfl,Or.inl rfl⟩,trivial⟩⟩ rfl (X1 (pv 1)) (fun _ _ _ _=>(Zq (i:=0) (show List.Nodup (["place","tent"]:List Str) from by decide +kernel) rfl (Or.inl rfl) (Or.inr rfl))) (fun _ _ _ _=>Yl) (fun _ _ _=>rfl) (fun _ _ _ _ _ _=>Yu (pcT (Zce T) hr T.p_crossable (Za (pv 1) (Za (pv 0) Zb))))) Zb))))))) (Zh (Zl Xp)) Zu)
      (Zh (Zl (Zo (Kq rfl) (by rfl) T.n_all PyProof.Rows.boot_all (Za (Xd (ts:=["ahead","place"]) (fv:=[("tent",0)]) ⟨rfl,by decide +kernel,by decide +kernel,Yi (by rfl),⟨⟨rfl,rfl,Or.inl rfl⟩,trivial⟩⟩ rfl (Zgn rfl T.n_zip (Za (pv 1) (Za (pcT (U1 T) hr T.p_turned (Za (pv 1) (Za Zf Zb))) Zb))) (fun _ _ _ _=>(Vi (n:=2) K rfl (Zz (Zq (i:=0) (show List.Nodup (["ahead","place","tent"]:List Str) from by decide +kernel) rfl (Or.inl rfl) (Or.inr rfl)) (Zz (Zq (i:=1) (show List.Nodup (["ahead","place","tent"]:List Str) from by decide +kernel) rfl (Or.inl rfl) (Or.inr rfl)) Xk)))) (fun _ _ _ _=>Yl) (fun _ _ _=>rfl) (fun _ _ _ _ _ _=>Yu (pcT (Zfa T) hr T.p_follows (Za (pv 2) (Za (pv 0) (Za (pv 1) Zb)))))) Zb))))),?_⟩
    refine Zk fun nxC hnxC=>?_
    refine ⟨_,rfl,_,.inl ⟨_,SqL.of ha,rfl⟩,?_⟩
    by_cases hne:ws=[]
    · subst hne
      exact iteT (k _ (Same.refl _))
    · have e:(!(ws.map V.int).isEmpty)=true:=by cases ws with | nil=>exact absurd rfl hne | cons _ _=>rfl
      have e':(!ws.isEmpty)=true:=by cases ws with | nil=>exact absurd rfl hne | cons _ _=>rfl
      have hp:0 < ws.length:=by cases ws with | nil=>exact absurd rfl hne | cons _ _=>simp
      rw [e]
      refine iteF ?_
      refine ⟨_,rfl,a,rfl,⟨_,SqL.of ha⟩,fun D hD=>?_⟩
      refine Xr (xs:=ws.map V.int) (fun i σ H1=>∃ v,σ=[v,some (.ref p)]∧Same H H1∧H1 D=some (.lst (((ws.take i).map (X3 M)).map V.bl))) ⟨none,rfl,Same.new hD,Zc⟩ ?_ ?_ ?_
      · rintro i σ H1 _ ⟨v,rfl,sm,h1⟩
        exact SqL.of (sm _ _ ha)
      · rintro i x σ H1 hx ⟨v,rfl,sm,h1⟩
        obtain ⟨y,hy,rfl⟩:=Ys hx
        dsimp only [Zp,tYes]
        rw [if_pos rfl]
        refine ⟨_,rfl,_,rfl,p,M,ns,y,rfl,ta.same sm,hMl,_,h1,?_,_,rfl,Same.add sm hD,?_⟩
        · rw [List.length_map,List.length_map,List.length_take,sizeLine_eq]; omega
        · rw [Zc,List.take_add_one,hy,List.map_append,List.map_append]; rfl
      rintro σ H1 ⟨v,rfl,s1,h1⟩
      rw [List.length_map,List.take_length] at h1
      refine ⟨D,_,rfl,SqL.of h1,_,rfl,?_⟩
      by_cases hc:(ws.map (X3 M)).all id=true
      · rw [hc]
        refine iteF ?_
        dsimp only [Xf]
        refine hnxC _ _ ?_
        refine ⟨_,rfl,_,rfl,a,ws,1,rfl,s1 _ _ ha,hl,fun tl H2 s2 htl h2=>?_⟩
        have s02:=s1.trans s2
        have et:Jq ws 1=rot ws (1 % ws.length):=by
          unfold Jq
          congr 1
        rw [et] at h2
        have hrl:(rot ws (1 % ws.length)).length=ws.length:=Jd ws (Nat.le_of_lt (Nat.mod_lt _ hp))
        have hcr:∀ y∈ws,X3 M y=true:=fun y hy=>List.all_eq_true.mp hc _ (List.mem_map.mpr ⟨y,hy,rfl⟩)
        have ep:Ws M ws=(W3 M ws (rot ws (1 % ws.length))).all id:=by unfold Ws; rw [e',hc]; rfl
        have k':=fun H' s'=>k H' s'
        rw [ep] at k'
        generalize rot ws (1 % ws.length)=vs at h2 hrl k'
        refine ⟨a,tl,_,_,rfl,SqL.of (s02 _ _ ha),SqL.of h2,fun D2 hD2=>?_⟩
        refine Zcl (xs:=ws.map V.int) (ys:=vs.map V.int) (by rw [List.length_map,List.length_map,hrl]) (fun i σ H3=>∃ v v',σ=[v,v',some (.ref p)]∧Same H2 H3∧H3 D2=some (.lst (((W3 M ws vs).take i).map V.bl))) ⟨none,none,rfl,Same.new hD2,Zc⟩ ?_ ?_ ?_
        · rintro i σ H3 _ ⟨v,v',rfl,s3,h3⟩
          exact ⟨SqL.of (s3 _ _ (s02 _ _ ha)),SqL.of (s3 _ _ h2)⟩
        · rintro i x y σ H3 q hx hy hq ⟨v,v',rfl,s3,h3⟩
          obtain ⟨x',hx',rfl⟩:=Ys hx
          obtain ⟨y',hy',rfl⟩:=Ys hy
          have s4:Same H3 (upd H3 q (.tup [V.int x',V.int y'])):=Same.new hq
          refine ⟨q,_,rfl,SqT.of Zc,rfl,_,_,rfl,_,_,rfl,rfl,?_⟩
          dsimp only [tYes]
          rw [if_pos rfl]
          refine ⟨_,rfl,_,rfl,_,rfl,p,M,ns,x',y',rfl,((ta.same s02).same s3).same s4,hMl,hcr x' (List.mem_of_getElem? hx'),_,s4 _ _ h3,?_,_,_,rfl,Same.add (s3.trans s4) hD2,?_⟩
          · rw [List.length_map,List.length_take]
            have:(W3 M ws vs).length≤ws.length:=by unfold W3; rw [List.length_map,List.length_zip]; omega
            rw [sizeLine_eq]; omega
          · have:(W3 M ws vs)[i]?=some (Wp M x' y'):=by
              unfold W3
              rw [List.getElem?_map,List.getElem?_zip_eq_some (z:=(x',y')) |>.mpr ⟨hx',hy'⟩]
              rfl
            rw [Zc,List.take_add_one,this,List.map_append]
            rfl
        rintro σ H3 ⟨v,v',rfl,s3,h3⟩
        have hpl:(W3 M ws vs).length=ws.length:=by unfold W3; rw [List.length_map,List.length_zip]; omega
        rw [List.length_map,List.take_of_length_le (Nat.le_of_eq hpl)] at h3
        exact ⟨D2,_,rfl,SqL.of h3,k' _ (s02.trans s3)⟩
      · have hc:(ws.map (X3 M)).all id=false:=by rw [Bool.eq_false_iff]; exact hc
        rw [hc]
        have ep:Ws M ws=false:=by unfold Ws; rw [hc]; simp
        have:=k _ s1
        rw [ep] at this
        exact iteT this
theorem G0:FnScope ["tent","word"] ["tent","word"] (Zg V7):=⟨rfl,rfl,rfl,by decide +kernel,rfl,by decide +kernel,by decide +kernel⟩
theorem Jk (T:Txt w K mg t):FnOk P w K mg base (CXr P w) 6 t.f_look_thread t.d_look_thread ["tent","word"] (Gv t.C_Tent t.E_NoThread):=by
 refine T.p_look_thread.F.aX G0 (fun cdv A outer s H vs Q E hr h=>?_)
 ·obtain ⟨p,a,M,ns,ws,rfl,ta,hMl,ha,hl,k⟩:=h
  refine ⟨_,(Yr (Ga (Yf (Yn (pcT (Zig T) hr T.p_plain (Za (pv 0) (Za (pv 1) Zb))))) (Yr (Qy T.x_NoThread FBV rfl T.gx_NoThread rfl (Za Z4 Zb))) Vv)),?_⟩
  refine ⟨_,rfl,_,rfl,p,a,M,ns,ws,rfl,ta,hMl,ha,hl,fun H' s'=>⟨_,rfl,?_⟩⟩
  obtain ⟨k1,k2⟩:=k H' s'
  cases e:Ws M ws with
  | true=>exact iteF (k1 e)
  | false=>exact iteT ⟨by decide,k2 e⟩
end
end KT
set_option maxHeartbeats 4000000
namespace KT
open PySem L2
theorem Xx (ws:List Nat):ws.map nV=(wI ws).map V.int:=by rw [List.map_map]; rfl
theorem Yy (ws:List Nat):(wI ws).length=ws.length:=by simp
noncomputable def Wq (M:List (Option Nat)) (ws:List Nat):List Nat:=ws.reverse.map fun p=>(M.getD p none).getD 0
theorem Xi (M:List (Option Nat)) (ws:List Nat):(Wq M ws).length=ws.length:=by unfold Wq; simp
theorem Zab {M:List (Option Nat)} {ws:List Nat} {i p m:Nat} (h:ws.reverse[i]?=some p) (hm:M[p]?=some (some m)):(Wq M ws)[i]?=some m:=by
 unfold Wq
 rw [List.getElem?_map,h]
 show some ((M.getD p none).getD 0)=some m
 rw [List.getD_eq_getElem?_getD,hm]
 rfl
noncomputable def Zdb (C:Addr):Sp:=fun vs H Q _=>∃ (p a:Addr) (M:List (Option Nat)) (ns:List Int) (ws:List Nat),vs=[.ref p,.ref a]∧Yb C H p M ns∧M.length=ns.length∧H a=some (.lst (ws.map nV))∧ws.length≤10000∧Pl M ws∧∀ (l:Addr) (H':Hp),Same H H'→H l=none→H' l=some (.lst ((Wq M ws).map nV))→Q (.ref l) H'
section
variable {P:Program} {w:World} {K:PySem.W.Frag} {mg:Str→Option Value} {base:Heap} {t:Adr}
theorem Zdf:FnScope ["tent","word"] ["tent","word"] (Zg K6):=⟨rfl,rfl,rfl,by decide +kernel,rfl,by decide +kernel,by decide +kernel⟩
theorem Zdj (T:Txt w K mg t):FnOk P w K mg base (CXr P w) 7 t.f_backward t.d_backward ["tent","word"] (Zdb t.C_Tent):=by
 refine T.p_backward.F.aX Zdf (fun cdv A outer s H vs Q E hr h=>?_)
 ·obtain ⟨p,a,M,ns,ws,rfl,ta,hMl,ha,hl,hP,k⟩:=h
  refine ⟨_,(Y7 (Qi (pxT (Jk T) hr T.p_look_thread (Za (pv 0) (Za (pv 1) Zb))))
   (Yr (Wi (Zl (Xd (ts:=["place"]) (fv:=[("tent",0)]) ⟨rfl,by decide +kernel,by decide +kernel,Yi (by rfl),⟨⟨rfl,rfl,Or.inl rfl⟩,trivial⟩⟩ rfl (Zgo rfl T.n_reversed (Za (pv 1) Zb)) (fun _ _ _ _=>(Zq (i:=0) (show List.Nodup (["place","tent"]:List Str) from by decide +kernel) rfl (Or.inl rfl) (Or.inr rfl))) (fun _ _ _ _=>Yl) (fun _ _ _=>rfl) (fun _ _ _ _ _ _=>Yu (Z3 (pv 1) T.cl_Tent T.p_Tent_mate.m (W4 T) (hr.mono (by decide)) T.p_Tent_mate.b .nil Z2 (Za (pv 0) Zb)))))))),?_⟩
  refine ⟨_,rfl,_,rfl,p,a,M,ns,wI ws,rfl,ta,hMl,by rw [ha,Xx],by rw [Yy]; omega,fun H1 s1=>⟨fun _=>?_,fun z=>absurd ((Uw.mpr hP).symm.trans z) (by decide)⟩⟩
  refine ⟨_,rfl,a,_,rfl,SqL.of (s1 _ _ ha),fun D hD=>?_⟩
  refine Zcn (xs:=ws.map nV) (fun i σ H2=>∃ v,σ=[v,some (.ref p)]∧Same H1 H2∧H2 D=some (.lst (((Wq M ws).take i).map nV))) ⟨none,rfl,Same.new hD,Zc⟩ ?_ ?_ ?_
  ·rintro i σ H2 _ ⟨v,rfl,sm,h2⟩
   exact SqL.of (sm _ _ (s1 _ _ ha))
  ·rintro i x σ H2 hx ⟨v,rfl,sm,h2⟩
   obtain ⟨q,hq,rfl⟩:∃ q,ws.reverse[i]?=some q∧x=nV q:=by
    rw [← List.map_reverse,List.getElem?_map] at hx
    cases e:ws.reverse[i]? with
    | none=>rw [e] at hx; cases hx
    | some y=>rw [e] at hx; cases hx; exact ⟨y,rfl,rfl⟩
   obtain ⟨mt,hmt⟩:=hP.has q (List.mem_reverse.mp (List.mem_of_getElem? hq))
   have ta2:=(ta.same s1).same sm
   obtain ⟨dx,cl,na,sp,mt',o,f,b⟩:=id ta2
   have hqM:q < M.length:=(List.getElem?_eq_some_iff.mp hmt).1
   dsimp only [Zp,tYes]
   rw [if_pos rfl]
   refine ⟨_,rfl,p,dx,_,rfl,b.ins,Xm _ _ _ _,_,rfl,p,M,ns,q,rfl,ta2,hMl,fun i' y e1 e2=>?_,fun z=>absurd (show (0:Int)≤q∧(q:Int) < ns.length by omega) z⟩
   have:i'=q:=by omega
   subst this
   rw [hmt] at e2
   cases e2
   refine ⟨_,h2,?_,_,rfl,Same.add sm hD,?_⟩
   ·rw [List.length_map,List.length_take,Xi]; exact Y5 (by omega)
   ·rw [Zc,List.take_add_one,Zab hq hmt,List.map_append]; rfl
  ·rintro σ H2 ⟨v,rfl,sm,h2⟩
   rw [List.length_map,List.take_of_length_le (by rw [Xi]; exact Nat.le_refl _)] at h2
   exact k D H2 (s1.trans sm) (s1.free hD) h2
end
end KT
set_option maxHeartbeats 4000000
namespace KT
open PySem L2
theorem Pl.wind {M:List (Option Nat)} {ws vs:List Nat} {m s:Nat} (h:Pl M ws) (hl:vs.length=m * ws.length) (hne:vs≠[]) (hg:∀ k,k < vs.length→vs[k]?=ws[(k + s) % ws.length]?):Pl M vs:=by
 have dv:ws.length ∣ vs.length:=⟨m,by rw [hl,Nat.mul_comm]⟩
 have hp:0 < vs.length:=by cases vs with | nil=>exact absurd rfl hne | cons _ _=>simp
 refine ⟨hne,fun p hm=>?_,fun k a p ha hp' m' hm'=>?_⟩
 ·obtain ⟨k,hk,e⟩:=List.mem_iff_getElem.mp hm
  have:=hg k hk
  rw [List.getElem?_eq_getElem hk,e] at this
  exact h.has p (List.mem_of_getElem? this.symm)
 ·have hk:k < vs.length:=(List.getElem?_eq_some_iff.mp ha).1
  rw [hg k hk] at ha
  rw [hg _ (Nat.mod_lt _ hp)] at hp'
  refine h.nxt ((k + s) % ws.length) a p ha ?_ m' hm'
  rw [← hp']
  congr 1
  rw [Nat.mod_add_mod,← Nat.mod_add_mod ((k + 1) % vs.length),Nat.mod_mod_of_dvd _ dv,Nat.mod_add_mod]
  congr 1
  omega
theorem Pl.turn {M:List (Option Nat)} {ws:List Nat} {m b:Nat} (h:Pl M ws) (hb:b < m * ws.length):Pl M (rot (List.replicate m ws).flatten b):=by
 have hl:=Zh5 ws m
 have hrl:(rot (List.replicate m ws).flatten b).length=m * ws.length:=by rw [Jd _ (by omega),hl]
 refine h.wind (m:=m) (s:=b) hrl (fun z=>?_) fun k hk=>?_
 ·rw [z] at hrl
  simp only [List.length_nil] at hrl
  omega
 ·rw [hrl] at hk
  rw [U8 (by omega) (by omega),hl,Zbz ws m _ (Nat.mod_lt _ (by omega)),Nat.mod_mod_of_dvd _ ⟨m,Nat.mul_comm _ _⟩]
theorem Zfv (ws:List Nat) (b:Nat):rot (wI ws) b=wI (rot ws b):=by
 unfold rot wI; rw [List.map_append,List.map_drop,List.map_take]
theorem Zj6 {α:Type} (ws:List α):rot ws ws.length=ws:=by unfold rot; simp
noncomputable def Jp (M:List (Option Nat)) (ws:List Nat) (x:List Int):Prop:=∃ b,b < ws.length∧(x=wI (rot ws b)∨x=wI (rot (Wq M ws) b))
theorem Zho (ws:List Nat) {b:Nat} (h:b < ws.length):Jq (wI ws) (b:Int)=wI (rot ws b):=by
 unfold Jq
 rw [Yy,show ((b:Int) % (ws.length:Int)).toNat=b by rw [← Int.natCast_emod,Nat.mod_eq_of_lt h,Int.toNat_natCast],Zfv]
theorem Zff {S:List Int→Prop} {a b:List Int} {p q:Addr} (h:HT.IsLeast S a):HT.IsLeast (fun x=>S x∨x=b) (if HT.lexLt b a=true then b else a):=by
 by_cases z:HT.lexLt b a=true
 ·rw [if_pos z]
  refine ⟨.inr rfl,fun c hc=>?_⟩
  rcases hc with hc | rfl
  ·cases e:HT.lexLt c b with
   | false=>rfl
   | true=>rw [← HT.lex_trans c b a e z]; exact (h.2 c hc)
  ·exact HT.lex_irr _
 ·rw [if_neg z]
  refine ⟨.inl h.1,fun c hc=>?_⟩
  rcases hc with hc | rfl
  ·exact h.2 c hc
  ·simpa using z
end KT
set_option maxHeartbeats 4000000
namespace KT
open PySem L2
noncomputable def Zae:Sp:=fun vs H Q _=>∃ (a:Addr) (ws:List Nat),vs=[.ref a]∧H a=some (.lst (ws.map nV))∧0 < ws.length∧ws.length≤10000∧∀ (l:Addr) (L:List Int) (H':Hp),Same H H'→H l=none→H' l=some (.lst (L.map V.int))→HT.IsLeast (fun x=>∃ b,b < ws.length∧x=wI (rot ws b)) L→Q (.ref l) H'
noncomputable def Zhx (C:Addr):Sp:=fun vs H Q _=>∃ (p a:Addr) (M:List (Option Nat)) (ns:List Int) (ws:List Nat),vs=[.ref p,.ref a]∧Yb C H p M ns∧M.length=ns.length∧H a=some (.lst (ws.map nV))∧ws.length≤10000∧Pl M ws∧∀ (l:Addr) (L:List Int) (H':Hp),Same H H'→H l=none→H' l=some (.lst (L.map V.int))→HT.IsLeast (Jp M ws) L→Q (.ref l) H'
noncomputable def Zev:Sp:=fun vs H Q _=>∃ (m a:Addr) (M:List (Option Nat)) (ws:List Nat),vs=[.ref m,.ref a]∧H m=some (.lst (M.map mV))∧H a=some (.lst (ws.map nV))∧ws.length≤10000∧Pl M ws∧∀ (l:Addr) (L:List Int) (H':Hp),Same H H'→H l=none→H' l=some (.lst (L.map V.int))→HT.IsLeast (Jp M ws) L→Q (.ref l) H'
theorem Zis {S T:List Int→Prop} {a b:List Int} (h:HT.IsLeast S a) (g:HT.IsLeast T b):HT.IsLeast (fun x=>S x∨T x) (if HT.lexLt b a=true then b else a):=by
 by_cases z:HT.lexLt b a=true
 ·rw [if_pos z]
  refine ⟨.inr g.1,fun c hc=>?_⟩
  rcases hc with hc | hc
  ·cases e:HT.lexLt c b with
   | false=>rfl
   | true=>rw [← HT.lex_trans c b a e z]; exact (h.2 c hc)
  ·exact g.2 c hc
 ·have z:HT.lexLt b a=false:=by simpa using z
  rw [if_neg (by rw [z]; decide)]
  refine ⟨.inl h.1,fun c hc=>?_⟩
  rcases hc with hc | hc
  ·exact h.2 c hc
  ·exact HT.lex_le z (g.2 c hc)
theorem IsLeast.iff {S T:List Int→Prop} {a:List Int} (h:HT.IsLeast S a) (e:∀ x,S x ↔ T x):HT.IsLeast T a:=⟨(e a).mp h.1,fun b hb=>h.2 b ((e b).mpr hb)⟩
theorem Zb6 {H:Hp} {p q:Addr} {a b:List Int} {c:Bool} (h1:H p=some (.lst (a.map V.int))) (h2:H q=some (.lst (b.map V.int))):H (if c=true then q else p)=some (.lst ((if c=true then b else a).map V.int)):=by
 cases c <;> assumption
theorem Fw {H:Hp} {p q:Addr} {c:Bool} (h1:H p=none) (h2:H q=none):H (if c=true then q else p)=none:=by
 cases c <;> assumption
theorem Za3 (M:List (Option Nat)) (ws:List Nat) (x:List Int):((∃ b,b < ws.length∧x=wI (rot ws b))∨∃ b,b < (Wq M ws).length∧x=wI (rot (Wq M ws) b)) ↔ Jp M ws x:=by
 rw [Xi]
 constructor
 ·rintro (⟨b,h,e⟩ | ⟨b,h,e⟩)
  ·exact ⟨b,h,.inl e⟩
  ·exact ⟨b,h,.inr e⟩
 ·rintro ⟨b,h,e | e⟩
  ·exact .inl ⟨b,h,e⟩
  ·exact .inr ⟨b,h,e⟩
theorem Zaz {ws:List Nat}:ws.map nV=(wI ws).map V.int:=Xx ws
section
variable {P:Program} {w:World} {K:PySem.W.Frag} {mg:Str→Option Value} {base:Heap} {t:Adr}
theorem Wu:FnScope ["word","best","by"] ["word"] (Zg Um):=⟨rfl,rfl,rfl,by decide +kernel,rfl,by decide +kernel,by decide +kernel⟩
theorem Ue (T:Txt w K mg t):FnOk P w K mg base (CXr P w) 2 t.f_least_turn t.d_least_turn ["word"] Zae:=by
 refine T.p_least_turn.F.aR Wu (fun cdv A outer s H vs Q E hr h=>?_)
 ·obtain ⟨a,ws,rfl,ha,h0,hl,k⟩:=h
  refine ⟨_,(Zd (Zn (i:=1) Wu.nd rfl (Or.inl rfl) (Yx Xb (by rfl) T.n_list PySem.Pv.boot_list (Za (pv 0) Zb)))
   (Zd (Wc PassesOwn.never rfl (Zgp rfl T.n_range (Za Zf (Za (Zo Zm (by rfl) T.n_len PySem.boot_len (Za (pv 0) Zb)) Zb))) (Zq (i:=2) Wu.nd rfl (Or.inl rfl)) (Zh (Zn (i:=1) Wu.nd rfl (Or.inl rfl) (Zo (Gr rfl hr.units) (by rfl) T.n_min PyProof.Rows.boot_min (Za (pv 1) (Za (pcT (U1 T) hr T.p_turned (Za (pv 0) (Za (pv 2) Zb))) Zb))))))
   (Zh (Zl (pv 1))))),?_⟩
  refine Zk fun nxC hnxC=>?_
  refine ⟨_,rfl,a,_,rfl,.inl (SqL.of ha),fun l hl1=>?_⟩
  refine hnxC _ _ ?_
  dsimp only [Zp]
  have s1:Same H (upd H l (.lst (ws.map nV))):=Same.new hl1
  have h1:(upd H l (.lst (ws.map nV))) l=some (.lst ((wI ws).map V.int)):=by rw [Zc,Zaz]
  generalize upd H l (.lst (ws.map nV))=H1 at s1 h1 ⊢
  show tSeq (tFor _ _ _) _ _ _ _
  refine Yg (fun σ H2=>∃ (p:Addr) (L:List Int) (v:Option V),σ=[some (.ref a),some (.ref p),v]∧Same H H2∧H p=none∧H2 p=some (.lst (L.map V.int))∧HT.IsLeast (fun x=>∃ b,b < ws.length∧x=wI (rot ws b)) L) (fun nx hnx=>?_) ?_
  ·refine ⟨_,rfl,a,_,rfl,.inl (SqL.of (s1 _ _ ha)),_,_,rfl,⟨by decide,by decide,by rw [List.length_map]; omega,by rw [List.length_map]; omega⟩,?_⟩
   rw [List.length_map]
   refine Wy (n:=((ws.length:Int) - 1).toNat) (fun i σ H2=>∃ (p:Addr) (L:List Int) (v:Option V),σ=[some (.ref a),some (.ref p),v]∧Same H H2∧H p=none∧H2 p=some (.lst (L.map V.int))∧HT.IsLeast (fun x=>∃ b,b < 1 + i∧x=wI (rot ws b)) L)
    ⟨l,wI ws,none,rfl,s1,hl1,h1,⟨0,by omega,by rw [Ke]⟩,fun c ⟨b,hb,e⟩=>?_⟩ ?_ ?_
   ·have:b=0:=by omega
    subst this
    rw [e,Ke]
    exact HT.lex_irr _
   ·rintro i σ H2 hi ⟨p,L,v,rfl,s2,hp,h2,m2⟩
    dsimp only [Zp]
    rw [show ((1:Int) + (i:Int))=((1 + i:Nat):Int) by omega]
    have hb:1 + i < ws.length:=by omega
    refine ⟨_,rfl,_,rfl,_,rfl,a,wI ws,_,rfl,by rw [s2 _ _ ha,Zaz],by rw [Yy]; omega,fun q H3 s3 hq h3=>?_⟩
    rw [Zho ws hb] at h3
    refine ⟨p,q,L,_,rfl,SqL.of (s3 _ _ h2),SqL.of h3,?_⟩
    refine ⟨_,_,_,rfl,s2.trans s3,Fw hp (s2.free hq),Zb6 (s3 _ _ h2) h3,?_⟩
    refine IsLeast.iff (Zff (p:=p) (q:=q) m2) fun x=>?_
    constructor
    ·rintro (⟨b,g,e⟩ | rfl)
     ·exact ⟨b,by omega,e⟩
     ·exact ⟨1 + i,by omega,rfl⟩
    ·rintro ⟨b,g,e⟩
     by_cases z:b=1 + i
     ·subst z; exact .inr e
     ·exact .inl ⟨b,by omega,e⟩
   ·rintro σ H2 ⟨p,L,v,rfl,s2,hp,h2,m2⟩
    refine hnx _ _ ⟨p,L,v,rfl,s2,hp,h2,IsLeast.iff m2 fun x=>?_⟩
    refine ⟨fun zz38=>?_,fun ⟨b,g,e⟩=>⟨b,by omega,e⟩⟩
    obtain ⟨b,g,e⟩:=zz38
    exact ⟨b,by omega,e⟩
  ·rintro σ H2 ⟨p,L,v,rfl,s2,hp,h2,m2⟩
   exact ⟨_,rfl,k p L H2 s2 hp h2 m2⟩
theorem Zbh:FnScope ["tent","word","back"] ["tent","word"] (Zg Zdx):=⟨rfl,rfl,rfl,by decide +kernel,rfl,by decide +kernel,by decide +kernel⟩
theorem Zcc (T:Txt w K mg t):FnOk P w K mg base (CXr P w) 8 t.f_least t.d_least ["tent","word"] (Zhx t.C_Tent):=by
 refine T.p_least.F.aX Zbh (fun cdv A outer s H vs Q E hr h=>?_)
 ·obtain ⟨p,a,M,ns,ws,rfl,ta,hMl,ha,hl,hP,k⟩:=h
  have hw0:0 < ws.length:=by have:=hP.ne; cases ws with | nil=>exact absurd rfl this | cons _ _=>simp
  refine ⟨_,(Y7 (Zd4 (i:=2) Zbh.nd rfl (Or.inl rfl) (pxT (Zdj T) hr T.p_backward (Za (pv 0) (Za (pv 1) Zb))))
   (Yr (Wi (Zl (Zo (Gr rfl hr.units) (by rfl) T.n_min PyProof.Rows.boot_min (Za (pcT (Ue T) hr T.p_least_turn (Za (pv 1) Zb)) (Za (pcT (Ue T) hr T.p_least_turn (Za (pv 2) Zb)) Zb))))))),?_⟩
  refine ⟨_,rfl,_,rfl,p,a,M,ns,ws,rfl,ta,hMl,ha,hl,hP,fun b H1 s1 hb h1=>?_⟩
  refine ⟨_,rfl,a,ws,rfl,s1 _ _ ha,hw0,hl,fun l2 L2 H2 s2 hl2 h2 m2=>?_⟩
  refine ⟨_,rfl,b,Wq M ws,rfl,s2 _ _ h1,by rw [Xi]; exact hw0,by rw [Xi]; exact hl,fun l3 L3 H3 s3 hl3 h3 m3=>?_⟩
  refine ⟨l2,l3,L2,L3,rfl,SqL.of (s3 _ _ h2),SqL.of h3,?_⟩
  have s13:=s1.trans (s2.trans s3)
  exact k _ _ H3 s13 (Fw (s1.free hl2) (s1.free (s2.free hl3))) (Zb6 (s3 _ _ h2) h3) (IsLeast.iff (Zis m2 m3) (Za3 M ws))
end
end KT
set_option maxHeartbeats 4000000
namespace KT
open PySem L2
theorem Ff {ws:List Nat} {s:Nat}:((wI ws).drop s).map V.int ++ ((wI ws).take s).map V.int=(wI (rot ws s)).map V.int:=by
 rw [← Zfv]; unfold rot; rw [List.map_append]
theorem Zd2 {ts:List Addr} {L:List Int} {j:Nat} (hj:j < ts.length) (h:ts.map V.ref=L.map V.int):False:=by
 cases ts with
 | nil=>simp at hj
 | cons c ct =>
  cases L with
  | nil=>cases h
  | cons d dt=>rw [List.map_cons,List.map_cons] at h; injection h with h _; cases h
noncomputable def W8 (H0 H:Hp) (D:Addr) (f:Nat→List Int) (n:Nat):Prop:=∃ ts:List Addr,H D=some (.lst (ts.map V.ref))∧ts.length=n∧∀ (j:Nat) (b:Addr),ts[j]?=some b→H b=some (.lst ((f j).map V.int))∧H0 b=none
theorem W8.same {H0 H H':Hp} {D:Addr} {f:Nat→List Int} {n:Nat} (h:W8 H0 H D f n) (s:Same H H'):W8 H0 H' D f n:=by
 obtain ⟨ts,h1,h2,h3⟩:=h
 exact ⟨ts,s _ _ h1,h2,fun j b e=>⟨s _ _ (h3 j b e).1,(h3 j b e).2⟩⟩
theorem W8.snoc {H0 H:Hp} {D q:Addr} {f:Nat→List Int} {n:Nat} {ts:List Addr} (h1:H D=some (.lst (ts.map V.ref))) (h2:ts.length=n) (h3:∀ (j:Nat) (b:Addr),ts[j]?=some b→H b=some (.lst ((f j).map V.int))∧H0 b=none)
  (hq:H q=some (.lst ((f n).map V.int))) (hq0:H0 q=none) (hD:∀ b,(b=q∨b∈ts)→b≠D):W8 H0 (upd H D (.lst (ts.map V.ref ++ [V.ref q]))) D f (n + 1):=by
 refine ⟨ts ++ [q],by rw [Zc,List.map_append]; rfl,by rw [List.length_append,List.length_singleton,h2],fun j b e=>?_⟩
 have mem:b=q∨b∈ts:=by
  have:=List.mem_of_getElem? e
  rcases List.mem_append.mp this with z | z
  ·exact .inr z
  ·exact .inl (List.mem_singleton.mp z)
 rw [Ze (hD b mem)]
 by_cases c:j < ts.length
 ·rw [List.getElem?_append_left c] at e
  exact h3 j b e
 ·have hj:=(List.getElem?_eq_some_iff.mp e).1
  rw [List.length_append,List.length_singleton] at hj
  have:j=ts.length:=by omega
  subst this
  have:b=q:=by simpa using e.symm
  subst this
  rw [h2]
  exact ⟨hq,hq0⟩
theorem Zgj {as bs:List Addr} {f g:Nat→List Int} {Pr:Addr→List Int→Prop} (h1:∀ (j:Nat) (b:Addr),as[j]?=some b→Pr b (f j)) (h2:∀ (j:Nat) (b:Addr),bs[j]?=some b→Pr b (g j)) :
  ∀ (j:Nat) (b:Addr),(as ++ bs)[j]?=some b→Pr b (if j < as.length then f j else g (j - as.length)):=fun j b e=>by
 by_cases c:j < as.length
 ·rw [List.getElem?_append_left c] at e
  rw [if_pos c]
  exact h1 j b e
 ·rw [List.getElem?_append_right (by omega)] at e
  rw [if_neg c]
  exact h2 _ b e
section
variable {P:Program} {w:World} {K:PySem.W.Frag} {mg:Str→Option Value} {base:Heap} {t:Adr}
theorem Vs:FnScope ["_law_mates","_law_word","_law_back","_law_rows_here"] ["_law_mates","_law_word"] (Zg Fs):=⟨rfl,rfl,rfl,by decide +kernel,rfl,by decide +kernel,by decide +kernel⟩
theorem Gd (T:Txt w K mg t):FnOk P w K mg base (CXr P w) 1 t.f_l_least t.d_l_least ["_law_mates","_law_word"] Zev:=by
  refine T.p_l_least.F.aR Vs (fun cdv A outer s H vs Q E hr h=>?_)
  · obtain ⟨m,a,M,ws,rfl,hm,ha,hl,hP,k⟩:=h
    have hw0:0 < ws.length:=by have:=hP.ne; cases ws with | nil=>exact absurd rfl this | cons _ _=>simp
    refine ⟨_,(Zd (Zn (i:=2) Vs.nd rfl (Or.inr rfl) (Xd (ts:=["_law_p"]) (fv:=[("_law_mates",0)]) ⟨rfl,by decide +kernel,by decide +kernel,Yi (by rfl),⟨⟨rfl,rfl,Or.inl rfl⟩,trivial⟩⟩ rfl (Zgo rfl T.n_reversed (Za (pv 1) Zb)) (fun _ _ _ _=>(Zq (i:=0) (show List.Nodup (["_law_p","_law_mates"]:List Str) from by decide +kernel) rfl (Or.inl rfl) (Or.inr rfl))) (fun _ _ _ _=>Yl) (fun _ _ _=>rfl) (fun _ _ _ _ _ _=>Yu (Zv (Jm K) (pv 1) (pv 0) (fun _ _=>rfl)))))
      (Zd (Wd (ts:=["_law_k"]) (fv:=[("_law_word",1)]) (i:=3) ⟨rfl,by decide +kernel,by decide +kernel,Yi (by rfl),⟨⟨rfl,rfl,Or.inl rfl⟩,trivial⟩⟩ rfl Vs.nd rfl rfl (by rfl) (Xh rfl T.n_range (Za (Zo Zm (by rfl) T.n_len PySem.boot_len (Za (pv 1) Zb)) Zb)) (fun _ _ _ _=>(Zq (i:=0) (show List.Nodup (["_law_k","_law_word"]:List Str) from by decide +kernel) rfl (Or.inl rfl) (Or.inr rfl))) (fun _ _ _ _=>Yl) (fun _ _ _=>rfl) (fun _ _ _ _ _ _=>Yu (Zi Qm (Xu (Vq K) (pv 1) (X0 (pv 0)) Wm) (Xu (Vq K) (pv 1) Wm (X0 (pv 0))))))
      (Zh (Zl (Zo (Zfp rfl hr.units) (by rfl) T.n_min PyProof.Rows.boot_min (Za (Zi Qm (pv 3) (Xd (ts:=["_law_k"]) (fv:=[("_law_back",2)]) ⟨rfl,by decide +kernel,by decide +kernel,Yi (by rfl),⟨⟨rfl,rfl,Or.inl rfl⟩,trivial⟩⟩ rfl (Xh rfl T.n_range (Za (Zo Zm (by rfl) T.n_len PySem.boot_len (Za (pv 2) Zb)) Zb)) (fun _ _ _ _=>(Zq (i:=0) (show List.Nodup (["_law_k","_law_back"]:List Str) from by decide +kernel) rfl (Or.inl rfl) (Or.inr rfl))) (fun _ _ _ _=>Yl) (fun _ _ _=>rfl) (fun _ _ _ _ _ _=>Yu (Zi Qm (Xu (Vq K) (pv 1) (X0 (pv 0)) Wm) (Xu (Vq K) (pv 1) Wm (X0 (pv 0))))))) Zb)))))),?_⟩
    refine Zk fun nxC hnxC=>?_
    refine ⟨_,rfl,a,_,rfl,SqL.of ha,fun D hD=>?_⟩
    refine Zcn (xs:=ws.map nV) (fun i σ H2=>∃ v,σ=[v,some (.ref m)]∧Same H H2∧H2 D=some (.lst (((Wq M ws).take i).map nV))) ⟨none,rfl,Same.new hD,Zc⟩ ?_ ?_ ?_
    · rintro i σ H2 _ ⟨v,rfl,sm,h2⟩
      exact SqL.of (sm _ _ ha)
    · rintro i x σ H2 hx ⟨v,rfl,sm,h2⟩
      obtain ⟨q,hq,rfl⟩:∃ q,ws.reverse[i]?=some q∧x=nV q:=by
        rw [← List.map_reverse,List.getElem?_map] at hx
        cases e:ws.reverse[i]? with
        | none=>rw [e] at hx; cases hx
        | some y=>rw [e] at hx; cases hx; exact ⟨y,rfl,rfl⟩
      obtain ⟨mt,hmt⟩:=hP.has q (List.mem_reverse.mp (List.mem_of_getElem? hq))
      dsimp only [Zp,tYes]
      rw [if_pos rfl]
      refine ⟨_,rfl,_,rfl,m,_,_,_,rfl,rfl,SqL.of (sm _ _ hm),Yk hmt,?_⟩
      refine ⟨_,h2,?_,_,rfl,Same.add sm hD,?_⟩
      · rw [List.length_map,List.length_take,Xi]; exact Y5 (by omega)
      · rw [Zc,List.take_add_one,Zab hq hmt,List.map_append]; rfl
    rintro σ H1 ⟨v,rfl,s1,h1⟩
    rw [List.length_map,List.take_of_length_le (by rw [Xi]; exact Nat.le_refl _)] at h1
    refine hnxC _ _ ?_
    dsimp only [Zp]
    refine Zk fun nxC hnxC=>?_
    refine ⟨_,rfl,a,_,rfl,.inl (SqL.of (s1 _ _ ha)),_,rfl,by rw [List.length_map]; omega,by rw [List.length_map]; omega,fun D2 hD2=>?_⟩
    show Wg (Itr 0 ((((ws.map nV).length:Nat):Int)).toNat) _ _ _ _ _ _
    rw [List.length_map,Int.toNat_natCast]
    refine W6 (fun i σ H2=>∃ v,σ=[v,some (.ref a)]∧Same H1 H2∧W8 H1 H2 D2 (fun j=>wI (rot ws j)) i) ⟨none,rfl,Same.new hD2,[],Zc,rfl,fun j b e=>by simp at e⟩ ?_ ?_
    · rintro i σ H2 hi ⟨v,rfl,s2,ts,g1,g2,g3⟩
      dsimp only [Zp,tYes]
      rw [if_pos rfl,Int.zero_add]
      have ha2:H2 a=some (.lst ((wI ws).map V.int)):=by rw [s2 _ _ (s1 _ _ ha),Zaz]
      refine ⟨_,rfl,_,rfl,_,rfl,a,_,rfl,SqL.of ha2,fun l1 e1=>?_⟩
      rw [V3 (by rw [Yy]; omega)]
      have t1:Same H2 (upd H2 l1 (.lst (((wI ws).drop i).map V.int))):=Same.new e1
      refine ⟨_,rfl,_,rfl,_,rfl,a,_,rfl,SqL.of (t1 _ _ ha2),fun l2 e2=>?_⟩
      rw [Gq (by rw [Yy]; omega)]
      obtain ⟨ne2,e2'⟩:=Xc e2
      refine ⟨l1,l2,_,_,rfl,rfl,by rw [Ze (Ne.symm ne2),Zc],Zc,?_,fun l3 e3=>?_⟩
      · rw [List.length_map,List.length_map,List.length_drop,List.length_take,Yy]; exact Y5 (by omega)
      rw [Ff]
      have t2:=Same.add (o:=.lst (((wI ws).take i).map V.int)) t1 e2'
      have e3':=t2.free e3
      have t3:=Same.add (o:=.lst ((wI (rot ws i)).map V.int)) t2 e3'
      have h3:(upd (upd (upd H2 l1 (.lst (((wI ws).drop i).map V.int))) l2 (.lst (((wI ws).take i).map V.int))) l3 (.lst ((wI (rot ws i)).map V.int))) l3=some (.lst ((wI (rot ws i)).map V.int)):=Zc
      generalize upd (upd (upd H2 l1 (.lst (((wI ws).drop i).map V.int))) l2 (.lst (((wI ws).take i).map V.int))) l3 (.lst ((wI (rot ws i)).map V.int))=H3 at t3 h3 ⊢
      refine ⟨_,t3 _ _ g1,(by rw [List.length_map,g2]; exact Y5 (by omega)),_,rfl,Same.add (s2.trans t3) hD2,?_⟩
      refine W8.snoc (t3 _ _ g1) g2 (fun j b e=>⟨t3 _ _ (g3 j b e).1,(g3 j b e).2⟩) h3 (s2.free e3') fun b hb z=>?_
      subst z
      rcases hb with rfl | hb
      · rw [g1] at e3'; cases e3'
      · obtain ⟨j,hj,e⟩:=List.mem_iff_getElem.mp hb
        have q3:=(g3 j b (by rw [List.getElem?_eq_getElem hj,e])).1
        rw [g1] at q3
        injection q3 with q3
        injection q3 with q3
        exact Zd2 hj q3
    rintro σ H2 ⟨v,rfl,s2,R1⟩
    refine hnxC _ _ ?_
    have h1':=s2 _ _ h1
    refine ⟨_,rfl,_,rfl,D,_,rfl,.inl (SqL.of h1'),_,rfl,by rw [List.length_map,Xi]; omega,by rw [List.length_map,Xi]; omega,fun D3 hD3=>?_⟩
    show Wg (Itr 0 (((((Wq M ws).map nV).length:Nat):Int)).toNat) _ _ _ _ _ _
    rw [List.length_map,Int.toNat_natCast]
    have hbl:=Xi M ws
    have hset:=Za3 M ws
    generalize Wq M ws=bk at h1' hbl hset ⊢
    refine W6 (fun i σ H3=>∃ v,σ=[v,some (.ref D)]∧Same H2 H3∧W8 H2 H3 D3 (fun j=>wI (rot bk j)) i) ⟨none,rfl,Same.new hD3,[],Zc,rfl,fun j b e=>by simp at e⟩ ?_ ?_
    · rintro i σ H3 hi ⟨v,rfl,s3,ts,g1,g2,g3⟩
      dsimp only [Zp,tYes]
      rw [if_pos rfl,Int.zero_add]
      have ha3:H3 D=some (.lst ((wI bk).map V.int)):=by rw [s3 _ _ h1',Zaz]
      refine ⟨_,rfl,_,rfl,_,rfl,D,_,rfl,SqL.of ha3,fun l1 e1=>?_⟩
      rw [V3 (by rw [Yy]; omega)]
      have t1:Same H3 (upd H3 l1 (.lst (((wI bk).drop i).map V.int))):=Same.new e1
      refine ⟨_,rfl,_,rfl,_,rfl,D,_,rfl,SqL.of (t1 _ _ ha3),fun l2 e2=>?_⟩
      rw [Gq (by rw [Yy]; omega)]
      obtain ⟨ne2,e2'⟩:=Xc e2
      refine ⟨l1,l2,_,_,rfl,rfl,by rw [Ze (Ne.symm ne2),Zc],Zc,?_,fun l3 e3=>?_⟩
      · rw [List.length_map,List.length_map,List.length_drop,List.length_take,Yy]; exact Y5 (by omega)
      rw [Ff]
      have t2:=Same.add (o:=.lst (((wI bk).take i).map V.int)) t1 e2'
      have e3':=t2.free e3
      have t3:=Same.add (o:=.lst ((wI (rot bk i)).map V.int)) t2 e3'
      have h3:(upd (upd (upd H3 l1 (.lst (((wI bk).drop i).map V.int))) l2 (.lst (((wI bk).take i).map V.int))) l3 (.lst ((wI (rot bk i)).map V.int))) l3=some (.lst ((wI (rot bk i)).map V.int)):=Zc
      generalize upd (upd (upd H3 l1 (.lst (((wI bk).drop i).map V.int))) l2 (.lst (((wI bk).take i).map V.int))) l3 (.lst ((wI (rot bk i)).map V.int))=H4 at t3 h3 ⊢
      refine ⟨_,t3 _ _ g1,(by rw [List.length_map,g2]; exact Y5 (by omega)),_,rfl,Same.add (s3.trans t3) hD3,?_⟩
      refine W8.snoc (t3 _ _ g1) g2 (fun j b e=>⟨t3 _ _ (g3 j b e).1,(g3 j b e).2⟩) h3 (s3.free e3') fun b hb z=>?_
      subst z
      rcases hb with rfl | hb
      · rw [g1] at e3'; cases e3'
      · obtain ⟨j,hj,e⟩:=List.mem_iff_getElem.mp hb
        have q3:=(g3 j b (by rw [List.getElem?_eq_getElem hj,e])).1
        rw [g1] at q3
        injection q3 with q3
        injection q3 with q3
        exact Zd2 hj q3
    rintro σ H3 ⟨v,rfl,s3,R2⟩
    obtain ⟨as,p1,p2,p3⟩:=R1.same s3
    obtain ⟨bs,q1,q2,q3⟩:=R2
    refine ⟨D2,D3,_,_,rfl,rfl,p1,q1,?_,fun l hl4=>?_⟩
    · rw [List.length_map,List.length_map,p2,q2]; exact Y5 (by omega)
    rw [← List.map_append]
    have s4:Same H3 (upd H3 l (.lst ((as ++ bs).map V.ref))):=Same.new hl4
    have h4:(upd H3 l (.lst ((as ++ bs).map V.ref))) l=some (.lst ((as ++ bs).map V.ref)):=Zc
    generalize upd H3 l (.lst ((as ++ bs).map V.ref))=H4 at s4 h4 ⊢
    have s03:=s1.trans (s2.trans s3)
    have all:=Zgj (as:=as) (bs:=bs) (f:=fun j=>wI (rot ws j)) (g:=fun j=>wI (rot bk j)) (Pr:=fun b L=>H4 b=some (.lst (L.map V.int))∧H b=none) (fun j b e=>⟨s4 _ _ (p3 j b e).1,s1.free (p3 j b e).2⟩) (fun j b e=>⟨s4 _ _ (q3 j b e).1,s1.free (s2.free (q3 j b e).2)⟩)
    rw [p2] at all
    refine ⟨l,as ++ bs,_,rfl,SqL.of h4,fun i b e=>SqL.of (all i b e).1,by rw [List.length_append,p2]; omega,fun b e=>?_⟩
    have hb:=all _ b e
    refine k b _ H4 (s03.trans s4) hb.2 hb.1 (IsLeast.iff (S:=fun x=>∃ i,i < ws.length + bk.length∧x=if i < ws.length then wI (rot ws i) else wI (rot bk (i - ws.length))) ⟨?_,?_⟩ fun x=>?_)
    · have hi:=(List.getElem?_eq_some_iff.mp e).1
      have e2:(as ++ bs).length=ws.length + bk.length:=by rw [List.length_append,p2,q2]
      exact ⟨_,Nat.lt_of_lt_of_eq hi e2,rfl⟩
    · rintro c ⟨i,hi,rfl⟩
      have:=HT.best_le (fun i=>if i < ws.length then wI (rot ws i) else wI (rot bk (i - ws.length))) ((as ++ bs).length - 1) i (by rw [List.length_append,p2,q2]; omega)
      exact this
    · rw [← hset x]
      constructor
      · rintro ⟨i,hi,e⟩
        by_cases c:i < ws.length
        · rw [if_pos c] at e; exact .inl ⟨i,c,e⟩
        · rw [if_neg c] at e; exact .inr ⟨i - ws.length,by omega,e⟩
      · rintro (⟨i,hi,e⟩ | ⟨i,hi,e⟩)
        · exact ⟨i,by omega,by rw [if_pos hi]; exact e⟩
        · exact ⟨ws.length + i,by omega,by rw [if_neg (by omega),Nat.add_sub_cancel_left]; exact e⟩
end
end KT
set_option maxHeartbeats 4000000
namespace KT
open PySem L2
theorem Zdo (i:Nat):(i:Int) - (i:Int) % 3 + ((i:Int) + 1) % 3=(aftN i:Int):=by rw [← Zel]; exact Zfr i
theorem dN {a b:Nat}:decide (V.int (a:Int)=V.int (b:Int))=decide (a=b):=by
 by_cases z:a=b
 ·subst z; simp
 ·rw [decide_eq_false z,decide_eq_false (fun y=>z (by injection y with y; omega))]
noncomputable def Zga (C:Addr):Sp:=fun vs H Q _=>∃ (p:Addr) (M:List (Option Nat)) (ns:List Int) (a x m:Nat),vs=[.ref p,.int a,.int x]∧Yb C H p M ns∧M.length=ns.length∧M[a]?=some (some m)∧Q (.str (letS M a x)) H
noncomputable def Zet (C:Addr):Sp:=fun vs H Q _=>∃ (p a:Addr) (M:List (Option Nat)) (ns:List Int) (ws:List Nat),vs=[.ref p,.ref a]∧Yb C H p M ns∧M.length=ns.length∧H a=some (.lst (ws.map nV))∧ws.length≤10000∧Pl M ws∧∀ H',Same H H'→Q (.str (Txt.join (Str.ofString "") (letL M ws))) H'
theorem Zio (M:List (Option Nat)) (a p:Nat):(letS M a p).length=1:=by unfold letS; split <;> decide
theorem Zco (M:List (Option Nat)):∀ l:List (Nat × Nat),((l.map fun q=>letS M q.1 q.2).map (·.length)).sum=l.length
 | []=>rfl
 | q :: r=>by rw [List.map_cons,List.map_cons,List.sum_cons,Zco M r,Zio,List.length_cons]; omega
section
variable {P:Program} {w:World} {K:PySem.W.Frag} {mg:Str→Option Value} {base:Heap} {t:Adr}
theorem Zge:FnScope ["tent","ahead","place"] ["tent","ahead","place"] (Zg Zbo):=⟨rfl,rfl,rfl,by decide +kernel,rfl,by decide +kernel,by decide +kernel⟩
theorem Zgv (T:Txt w K mg t):FnOk P w K mg base (CXr P w) 4 t.f_letter t.d_letter ["tent","ahead","place"] (Zga t.C_Tent):=by
 refine T.p_letter.F.aR Zge (fun cdv A outer s H vs Q E hr h=>?_)
 ·obtain ⟨p,M,ns,a,x,m,rfl,ta,hMl,ha,k⟩:=h
  obtain ⟨dx,cl,na,sp,mt',o,f,b⟩:=id ta
  have haM:a < M.length:=(List.getElem?_eq_some_iff.mp ha).1
  refine ⟨_,(Zh (Zl (Kh (Zt Xq (pv 2) (pcT (Zii T) hr T.p_after (Za (Z3 (pv 0) T.cl_Tent T.p_Tent_mate.m (W4 T) (hr.mono (by decide)) T.p_Tent_mate.b .nil Z2 (Za (pv 1) Zb)) Zb)) (Zs _)) Z4 Z4))),?_⟩
  refine ⟨_,rfl,_,rfl,p,dx,_,rfl,b.ins,Xm _ _ _ _,_,rfl,p,M,ns,a,rfl,ta,hMl,fun i y e1 e2=>?_,fun z=>absurd (show (0:Int)≤a∧(a:Int) < ns.length by omega) z⟩
  have:i=a:=by omega
  subst this
  rw [ha] at e2
  cases e2
  refine ⟨(m:Int),rfl,rfl,_,rfl,?_⟩
  have e:letS M i x=if x=aftN m then Str.ofString "R" else Str.ofString "L":=by unfold letS; rw [List.getD_eq_getElem?_getD,ha]; rfl
  rw [e] at k
  rw [Zel,dN]
  by_cases z:x=aftN m
  ·rw [if_pos z] at k
   rw [decide_eq_true z]
   exact iteT k
  ·rw [if_neg z] at k
   rw [decide_eq_false z]
   exact iteF k
theorem Ze1:FnScope ["tent","word"] ["tent","word"] (Zg Fo):=⟨rfl,rfl,rfl,by decide +kernel,rfl,by decide +kernel,by decide +kernel⟩
theorem Ze8 (T:Txt w K mg t):FnOk P w K mg base (CXr P w) 7 t.f_letters t.d_letters ["tent","word"] (Zet t.C_Tent):=by
 refine T.p_letters.F.aX Ze1 (fun cdv A outer s H vs Q E hr h=>?_)
 ·obtain ⟨p,a,M,ns,ws,rfl,ta,hMl,ha,hl,hP,k⟩:=h
  refine ⟨_,(Y7 (Qi (pxT (Jk T) hr T.p_look_thread (Za (pv 0) (Za (pv 1) Zb))))
   (Yr (Wi (Zl (Wf PySem.F.plainAttrs_str PySem.F.slot_str_join PySem.F.type_str_join Zd9 Z4 (Za (Xd (ts:=["ahead","place"]) (fv:=[("tent",0)]) ⟨rfl,by decide +kernel,by decide +kernel,Yi (by rfl),⟨⟨rfl,rfl,Or.inl rfl⟩,trivial⟩⟩ rfl (Zgn rfl T.n_zip (Za (pv 1) (Za (pcT (U1 T) hr T.p_turned (Za (pv 1) (Za Zf Zb))) Zb))) (fun _ _ _ _=>(Vi (n:=2) K rfl (Zz (Zq (i:=0) (show List.Nodup (["ahead","place","tent"]:List Str) from by decide +kernel) rfl (Or.inl rfl) (Or.inr rfl)) (Zz (Zq (i:=1) (show List.Nodup (["ahead","place","tent"]:List Str) from by decide +kernel) rfl (Or.inl rfl) (Or.inr rfl)) Xk)))) (fun _ _ _ _=>Yl) (fun _ _ _=>rfl) (fun _ _ _ _ _ _=>Yu (pcT (Zgv T) hr T.p_letter (Za (pv 2) (Za (pv 0) (Za (pv 1) Zb)))))) Zb)))))),?_⟩
  have hp:0 < ws.length:=by have:=hP.ne; cases ws with | nil=>exact absurd rfl this | cons _ _=>simp
  refine ⟨_,rfl,_,rfl,p,a,M,ns,wI ws,rfl,ta,hMl,by rw [ha,Xx],by rw [Yy]; omega,fun H1 s1=>⟨fun _=>?_,fun z=>absurd ((Uw.mpr hP).symm.trans z) (by decide)⟩⟩
  refine ⟨rfl,_,rfl,_,rfl,a,wI ws,1,rfl,by rw [s1 _ _ ha,Xx],by rw [Yy]; omega,fun tl H2 s2 htl h2=>?_⟩
  have s02:=s1.trans s2
  have et:(Jq (wI ws) 1).map V.int=(rot ws (1 % ws.length)).map nV:=by
   rw [Xx]
   congr 1
   unfold Jq
   rw [Yy,show (1 % (ws.length:Int)).toNat=1 % ws.length by
    rw [show (1:Int)=((1:Nat):Int) from rfl,← Int.natCast_emod,Int.toNat_natCast]]
   unfold rot wI
   rw [List.map_append,List.map_drop,List.map_take]
  rw [et] at h2
  have hrl:(rot ws (1 % ws.length)).length=ws.length:=Jd ws (Nat.le_of_lt (Nat.mod_lt _ hp))
  unfold letL at k
  generalize rot ws (1 % ws.length)=vs at h2 hrl k
  refine ⟨a,tl,_,_,rfl,SqL.of (s02 _ _ ha),SqL.of h2,fun D2 hD2=>?_⟩
  refine Zcl (xs:=ws.map nV) (ys:=vs.map nV) (by rw [List.length_map,List.length_map,hrl]) (fun i σ H3=>∃ v v',σ=[v,v',some (.ref p)]∧Same H2 H3∧H3 D2=some (.lst ((((ws.zip vs).map fun q=>letS M q.1 q.2).take i).map V.str))) ⟨none,none,rfl,Same.new hD2,Zc⟩ ?_ ?_ ?_
  ·rintro i σ H3 _ ⟨v,v',rfl,s3,h3⟩
   exact ⟨SqL.of (s3 _ _ (s02 _ _ ha)),SqL.of (s3 _ _ h2)⟩
  ·rintro i x y σ H3 q hx hy hq ⟨v,v',rfl,s3,h3⟩
   obtain ⟨x',hx',rfl⟩:=Ys hx
   obtain ⟨y',hy',rfl⟩:=Ys hy
   have s4:Same H3 (upd H3 q (.tup [nV x',nV y'])):=Same.new hq
   obtain ⟨mt,hmt⟩:=hP.has x' (List.mem_of_getElem? hx')
   refine ⟨q,_,rfl,SqT.of Zc,rfl,_,_,rfl,_,_,rfl,rfl,?_⟩
   dsimp only [tYes]
   rw [if_pos rfl]
   refine ⟨_,rfl,_,rfl,_,rfl,p,M,ns,x',y',mt,rfl,((ta.same s02).same s3).same s4,hMl,hmt,_,s4 _ _ h3,?_,_,_,rfl,Same.add (s3.trans s4) hD2,?_⟩
   ·rw [List.length_map,List.length_take,List.length_map,List.length_zip,sizeLine_eq]
    omega
   ·have:((ws.zip vs).map fun q=>letS M q.1 q.2)[i]?=some (letS M x' y'):=by
     rw [List.getElem?_map,List.getElem?_zip_eq_some (z:=(x',y')) |>.mpr ⟨hx',hy'⟩]
     rfl
    rw [Zc,List.take_add_one,this,List.map_append]
    rfl
  rintro σ H3 ⟨v,v',rfl,s3,h3⟩
  have hpl:((ws.zip vs).map fun q=>letS M q.1 q.2).length=ws.length:=by rw [List.length_map,List.length_zip]; omega
  rw [List.length_map,List.take_of_length_le (Nat.le_of_eq hpl)] at h3
  exact ⟨_,D2,_,rfl,rfl,SqL.of h3,by decide,by rw [Zco,List.length_map,List.length_zip]; omega,k _ (s02.trans s3)⟩
end
end KT
set_option maxHeartbeats 4000000
namespace KT
open PySem L2
noncomputable def tp (v:Nat × Nat):HO:=.tup [V.int v.1,V.int v.2]
noncomputable def wD (ks:List Int) (ad:Int→Addr):List (Key × V):=ks.map fun x=>((Sum.inl x:Key),V.ref (ad x))
noncomputable def WAt (H:Hp) (d:Addr) (ks:List Int) (g:Int→Nat × Nat):Prop:=∃ ad:Int→Addr,H d=some (.dK (wD ks ad))∧∀ x∈ks,H (ad x)=some (tp (g x))
theorem WAt.same {H H':Hp} {d:Addr} {ks:List Int} {g:Int→Nat × Nat} (h:WAt H d ks g) (s:Same H H'):WAt H' d ks g:=by
 obtain ⟨ad,h1,h2⟩:=h
 exact ⟨ad,s _ _ h1,fun x hx=>s _ _ (h2 x hx)⟩
theorem WAt.congr {H:Hp} {d:Addr} {ks:List Int} {g g':Int→Nat × Nat} (h:WAt H d ks g) (e:∀ x∈ks,g x=g' x):WAt H d ks g':=by
 obtain ⟨ad,h1,h2⟩:=h
 exact ⟨ad,h1,fun x hx=>by rw [← e x hx]; exact h2 x hx⟩
theorem Q9 (ks:List Int) (ad:Int→Addr):(wD ks ad).length=ks.length:=by unfold wD; rw [List.length_map]
theorem Zk0 {ks:List Int} {ad:Int→Addr} {y:Int}:valV (wD ks ad) (Sum.inl y)=if y∈ks then some (V.ref (ad y)) else none:=by unfold wD; rw [W9]
theorem Zfw {H:Hp} {d:Addr} {ks:List Int} {ad:Int→Addr} {y:Int} (h:Rd H d (.dK (wD ks ad))) (hy:y∈ks):DGet H d (.int y) (some (V.ref (ad y))):=.inl ⟨_,Sum.inl y,h,rfl,by rw [Zk0,if_pos hy]⟩
theorem Zl5 {ks:List Int} {ad:Int→Addr} {i:Nat} {k:Key} {v:V} (h:(wD ks ad)[i]?=some (k,v)):∃ y,ks[i]?=some y∧k=Sum.inl y∧v=V.ref (ad y):=by
 unfold wD at h
 rw [List.getElem?_map] at h
 cases e:ks[i]? with
 | none=>rw [e] at h; cases h
 | some z=>rw [e] at h; cases h; exact ⟨z,rfl,rfl,rfl⟩
theorem WAt.put {H:Hp} {d q:Addr} {ks:List Int} {g:Int→Nat × Nat} {ad:Int→Addr} {y:Int} {v:Nat × Nat} (h1:H d=some (.dK (wD ks ad))) (h2:∀ x∈ks,H (ad x)=some (tp (g x))) (hq:H q=some (tp v)) (hy:y∈ks) :
  WAt (upd H d (.dK (putK (wD ks ad) (Sum.inl y) (V.ref q)))) d ks (putG g y v):=by
 have nd:∀ r u,H r=some (tp u)→r≠d:=fun r u h z=>by rw [z,h1] at h; cases h
 refine ⟨fun x=>if x=y then q else ad x,?_,fun x hx=>?_⟩
 ·rw [Zc]
  unfold wD
  rw [Zj8 hy]
  congr 2
  apply List.map_congr_left
  intro x _
  by_cases c:x=y
  ·simp [c]
  ·simp [c]
 ·unfold putG
  show upd H d _ (if x=y then q else ad x)=some (tp (if x=y then v else g x))
  by_cases c:x=y
  ·rw [if_pos c,if_pos c,Ze (nd _ _ hq)]; exact hq
  ·rw [if_neg c,if_neg c,Ze (nd _ _ (h2 x hx))]; exact h2 x hx
theorem WAt.new {H:Hp} {d q:Addr} {ks:List Int} {g:Int→Nat × Nat} {ad:Int→Addr} {y:Int} {v:Nat × Nat} (h1:H d=some (.dK (wD ks ad))) (h2:∀ x∈ks,H (ad x)=some (tp (g x))) (hq:H q=some (tp v)) (hy:y ∉ ks) :
  WAt (upd H d (.dK (putK (wD ks ad) (Sum.inl y) (V.ref q)))) d (ks ++ [y]) (putG g y v):=by
 have nd:∀ r u,H r=some (tp u)→r≠d:=fun r u h z=>by rw [z,h1] at h; cases h
 refine ⟨fun x=>if x=y then q else ad x,?_,fun x hx=>?_⟩
 ·rw [Zc]
  unfold wD
  rw [Zd3 hy,List.map_append]
  congr 3
  ·apply List.map_congr_left
   intro x hx
   have:x≠y:=fun z=>hy (z ▸ hx)
   simp [this]
  ·simp
 ·unfold putG
  show upd H d _ (if x=y then q else ad x)=some (tp (if x=y then v else g x))
  by_cases c:x=y
  ·rw [if_pos c,if_pos c,Ze (nd _ _ hq)]; exact hq
  ·rw [if_neg c,if_neg c]
   have hx':x∈ks:=by
    rcases List.mem_append.mp hx with z | z
    ·exact z
    ·exact absurd (List.mem_singleton.mp z) c
   rw [Ze (nd _ _ (h2 x hx'))]; exact h2 x hx'
noncomputable def okD (m n:Nat):Prop:=Nat.gcd m n < 2 ^ 8900
theorem Zd8 {m n:Nat} (hm:1≤m) (h:okD m n):V5 (m:Int) (Nat.gcd m n:Nat)∧V5 (n:Int) (Nat.gcd m n:Nat):=by
 have h1:0 < Nat.gcd m n:=Nat.gcd_pos_of_pos_left _ hm
 have h3:(((Nat.gcd m n:Nat):Int)).natAbs.log2 < 9000:=by
  refine Nat.lt_of_lt_of_le (log2_lt (k:=8900) ?_ (by decide)) (by decide)
  rw [Int.natAbs_natCast]
  exact h
 exact ⟨⟨by omega,h3⟩,⟨by omega,h3⟩⟩
theorem Gg {m n:Nat} (hm:1≤m) (h:m < 2 ^ 8900):okD m n:=Nat.lt_of_le_of_lt (Nat.le_of_dvd hm (Nat.gcd_dvd_left _ _)) h
noncomputable def Zgb:Sp:=fun vs H Q _=>∃ a b:Nat,vs=[.int a,.int b]∧Q (.int (Nat.gcd a b:Nat)) H
noncomputable def O8 (EF:Addr):Sp:=fun vs H Q E=>∃ a b:Int,vs=[.int a,.int b]∧(1≤a→1≤b→Q .non H)∧(a < 1∨b < 1→E (.ref EF) none H)
noncomputable def Zc9 (EF:Addr):Sp:=fun vs H Q E=>∃ a b:Int,vs=[.int a,.int b]∧(∀ m n:Nat,a=m→b=n→1≤m→1≤n→okD m n∧∀ p,H p=none→Q (.ref p) (upd H p (tp (lowN m n))))∧(a < 1∨b < 1→E (.ref EF) none H)
noncomputable def Zac (C:Addr):Sp:=fun vs H Q _=>∃ (p:Addr) (M:List (Option Nat)) (ns:List Int),vs=[.ref p]∧Yb C H p M ns∧TD M ns∧ns.length < 64∧∀ (l:Addr) (H':Hp) (out:List Int),Same H H'→H l=none→H' l=some (.lst (out.map V.int))→out.Pairwise (·≤·)→SwK M ns out→Q (.ref l) H'
noncomputable def Gx (C:Addr):Sp:=fun vs H Q _=>∃ (p:Addr) (M:List (Option Nat)) (ns:List Int),vs=[.ref p]∧Yb C H p M ns∧TD M ns∧ns.length < 64∧∀ (d:Addr) (H':Hp) (ks:List Int),Same H H'→H d=none→WAt H' d ks (fun _=>(1,1))→SwK M ns ks→Q (.ref d) H'
noncomputable def Zf9 (C:Addr):Sp:=fun vs H Q _=>∃ (p d:Addr) (M:List (Option Nat)) (ns ks:List Int) (g:Int→Nat × Nat),vs=[.ref p,.ref d]∧Yb C H p M ns∧TD M ns∧ns.length < 64∧WAt H d ks g∧SwK M ns ks∧(∀ x∈ks,1≤(g x).1∧1≤(g x).2∧(g x).1 < 2 ^ 8900) ∧
 ∀ (d':Addr) (H':Hp),Same H H'→H d'=none→WAt H' d' ks (lowG g)→Q (.ref d') H'
theorem mulN {m n:Nat} (h1:m < 2 ^ 60000) (h2:n < 2 ^ 60000):IntMulOk (m:Int) (n:Int):=PyProof.Rows.mulOk_of_bits (Fh (k:=60000) (by rw [Int.natAbs_natCast]; exact h1) (by decide)) (Fh (k:=60000) (by rw [Int.natAbs_natCast]; exact h2) (by decide)) (by decide)
theorem Zbg {M:List (Option Nat)} {ns:List Int} (td:TD M ns) {x:Int} (hx:x∈keys ns ns.length):SwN M ns x ↔ Yz ns x≠"rim":=by
 constructor
 ·rintro ⟨p,j,h1,h2⟩ e
  rcases Kv td hx with ⟨_,a,e1,ma⟩ | ⟨e',_⟩ | ⟨e',_⟩
  ·have hp:p∈pl ns ns.length x:=Y0.mpr ⟨(List.getElem?_eq_some_iff.mp h2).1,h2⟩
   rw [e1,List.mem_singleton] at hp
   rw [hp,ma] at h1
   cases h1
  ·exact t_lr (e'.symm.trans e)
  ·exact t_fr (e'.symm.trans e)
 ·intro e
  rcases Kv td hx with ⟨e',_⟩ | ⟨_,a,b,_,e1,ma,_⟩ | ⟨_,a,b,_,e1,ma,_⟩
  ·exact absurd e' e
  ·have hp:a∈pl ns ns.length x:=by rw [e1]; exact List.mem_cons_self
   exact ⟨a,b,ma,(Y0.mp hp).2⟩
  ·have hp:a∈pl ns ns.length x:=by rw [e1]; exact List.mem_cons_self
   exact ⟨a,b,ma,(Y0.mp hp).2⟩
theorem SwK.len {M:List (Option Nat)} {ns ks:List Int} (sw:SwK M ns ks) (td:TD M ns):ks.length≤ns.length:=by
 have e:ks.Perm ((keys ns ns.length).filter fun x=>decide (x∈ks)):=(List.perm_ext_iff_of_nodup sw.nd ((Vz ns ns.length).filter _)).mpr fun x=>by
  rw [List.mem_filter,decide_eq_true_eq]
  exact ⟨fun h=>⟨((sw.mem x).mp h).key td,h⟩,fun h=>h.2⟩
 have h1:=e.length_eq
 have h2:=List.length_filter_le (fun x=>decide (x∈ks)) (keys ns ns.length)
 have h3:=Qq ns ns.length
 omega
noncomputable def swB (ns:List Int) (x:Int):Bool:=!decide (V.str (Yz ns x)=V.str "rim")
theorem Zjp {ns:List Int} {x:Int}:swB ns x=true ↔ Yz ns x≠"rim":=by
 unfold swB
 rw [Bool.not_eq_true',decide_eq_false_iff_not]
 exact ⟨fun h e=>h (by rw [e]),fun h e=>h (by injection e)⟩
theorem On {α:Type} {f:α→Bool} {l:List α} {i:Nat} {x:α} (h:l[i]?=some x):(l.take (i + 1)).filter f=if f x=true then (l.take i).filter f ++ [x] else (l.take i).filter f:=by
 rw [List.take_add_one,h,List.filter_append]
 by_cases c:f x=true
 ·simp [c]
 ·simp [c]
section
variable {P:Program} {w:World} {K:PySem.W.Frag} {mg:Str→Option Value} {base:Heap} {t:Adr}
theorem J1:FnScope ["one","other"] ["one","other"] (Zg Qg):=⟨rfl,rfl,rfl,by decide +kernel,rfl,by decide +kernel,by decide +kernel⟩
theorem J3 (T:Txt w K mg t):FnOk P w K mg base (CXr P w) 1 t.f_common_measure t.d_common_measure ["one","other"] Zgb:=by
 refine T.p_common_measure.F.aR J1 (fun cdv A outer s H vs Q E hr h=>?_)
 ·obtain ⟨a,b,rfl,k⟩:=h
  refine ⟨_,(Zd (Jg PassesOwn.never (Jf (pv 1) (fun _=>rfl)) (Zh (Vh (i:=0) (j:=1) rfl J1.nd rfl rfl (by decide) rfl rfl (Za (pv 1) (Za (Zi Zy (pv 0) (pv 1)) Zb)) (by rfl))))
   (Zh (Zl (pv 0)))),?_⟩
  refine ⟨fun m σ H1=>∃ a' b':Nat,b'=m∧H1=H∧σ=[some (.int a'),some (.int b')]∧Nat.gcd a' b'=Nat.gcd a b,⟨b,a,b,rfl,rfl,rfl,rfl⟩,?_⟩
  rintro m σ H1 ⟨a',b',rfl,rfl,rfl,e⟩
  refine ⟨_,rfl,_,rfl,?_⟩
  by_cases z:b'=0
  ·subst z
   refine iteF ⟨_,rfl,?_⟩
   rw [Nat.gcd_zero_right] at e
   rw [e]
   exact k
  ·have hz:((b':Int) != 0)=true:=by simp; omega
   rw [hz]
   refine iteT ⟨_,fun σ' H' h=>h,?_⟩
   refine ⟨_,rfl,_,rfl,_,rfl,_,_,rfl,rfl,(by show (0:Int) < b'; omega),_,_,rfl,?_⟩
   refine ⟨a' % b',Nat.mod_lt _ (by omega),b',a' % b',rfl,rfl,?_,?_⟩
   ·rw [Int.natCast_emod]; rfl
   ·rw [← e,Nat.gcd_comm a' b',Nat.gcd_rec b' a',Nat.gcd_comm]
theorem Kc:FnScope ["top","bottom"] ["top","bottom"] (Zg Qw):=⟨rfl,rfl,rfl,by decide +kernel,rfl,by decide +kernel,by decide +kernel⟩
theorem Kl (T:Txt w K mg t):FnOk P w K mg base (CXr P w) 1 t.f_look_fraction t.d_look_fraction ["top","bottom"] (O8 t.E_NoFraction):=by
 refine T.p_look_fraction.F.aX Kc (fun cdv A outer s H vs Q E hr h=>?_)
 ·obtain ⟨a,b,rfl,k1,k2⟩:=h
  refine ⟨_,(Yr (Ga (PW.pt (Wl (Zt J5 (pv 0) Zf (Zs _)) (Wb (Zt J5 (pv 1) Zf (Zs _))))) (Yr (Qy T.x_NoFraction FBV rfl T.gx_NoFraction rfl (Za Z4 Zb))) Vv)),?_⟩
  refine ⟨_,rfl,_,_,rfl,rfl,_,rfl,?_⟩
  refine ite2 (fun c=>?_) (fun c=>?_)
  ·have c:a < 1:=by simpa using c
   exact iteT ⟨by decide,k2 (.inl c)⟩
  ·have c:¬ a < 1:=by simpa using c
   refine ⟨_,rfl,_,_,rfl,rfl,_,rfl,?_⟩
   refine ite2 (fun d=>?_) (fun d=>?_)
   ·have d:b < 1:=by simpa using d
    exact ⟨by decide,k2 (.inr d)⟩
   ·have d:¬ b < 1:=by simpa using d
    exact k1 (by omega) (by omega)
theorem Oq:FnScope ["top","bottom","measure"] ["top","bottom"] (Zg K4):=⟨rfl,rfl,rfl,by decide +kernel,rfl,by decide +kernel,by decide +kernel⟩
theorem O3 (T:Txt w K mg t):FnOk P w K mg base (CXr P w) 2 t.f_fraction t.d_fraction ["top","bottom"] (Zc9 t.E_NoFraction):=by
 refine T.p_fraction.F.aX Oq (fun cdv A outer s H vs Q E hr h=>?_)
 ·obtain ⟨a,b,rfl,k1,k2⟩:=h
  refine ⟨_,(Y7 (Qi (pxT (Kl T) hr T.p_look_fraction (Za (pv 0) (Za (pv 1) Zb))))
   (Y7 (Wi (Zn (i:=2) Oq.nd rfl (Or.inl rfl) (pcT (J3 T) hr T.p_common_measure (Za (pv 0) (Za (pv 1) Zb)))))
   (Yr (Wi (Zl (Xn (Za (Zi Ql (pv 0) (pv 2)) (Za (Zi Ql (pv 1) (pv 2)) Zb)))))))),?_⟩
  refine ⟨_,rfl,_,rfl,a,b,rfl,fun ha hb=>?_,k2⟩
  obtain ⟨m,rfl⟩:∃ m:Nat,a=m:=⟨a.toNat,by omega⟩
  obtain ⟨n,rfl⟩:∃ n:Nat,b=n:=⟨b.toNat,by omega⟩
  obtain ⟨hbg,k⟩:=k1 m n rfl rfl (by omega) (by omega)
  obtain ⟨g1,g2⟩:=Zd8 (m:=m) (n:=n) (by omega) hbg
  refine ⟨_,rfl,_,rfl,m,n,rfl,?_⟩
  dsimp only [Zp]
  refine ⟨_,rfl,_,rfl,_,_,rfl,rfl,g1,_,rfl,_,rfl,_,_,rfl,rfl,g2,(by show 2≤sizeLine; rw [sizeLine_eq]; decide),fun p hp=>?_⟩
  exact k p hp
theorem Zam:FnScope ["tent"] ["tent"] (Zg Uk):=⟨rfl,rfl,rfl,by decide +kernel,rfl,by decide +kernel,by decide +kernel⟩
theorem Ud (T:Txt w K mg t):FnOk P w K mg base (CXr P w) 3 t.f_sewn_seams t.d_sewn_seams ["tent"] (Zac t.C_Tent):=by
 refine T.p_sewn_seams.F.aR Zam (fun cdv A outer s H vs Q E hr h=>?_)
 ·obtain ⟨p,M,ns,rfl,ta,td,h64,k⟩:=h
  refine ⟨_,(Zh (Zl (Xd (ts:=["seam"]) (fv:=[("tent",0)]) ⟨rfl,by decide +kernel,by decide +kernel,Yi (by rfl),⟨⟨rfl,rfl,Or.inl rfl⟩,trivial⟩⟩ rfl (X1 (Jh (pv 0) T.cl_Tent T.p_Tent_seams.m (Zat T) (hr.mono (by decide)) T.p_Tent_seams.b .nil Z2)) (fun _ _ _ _=>(Zq (i:=0) (show List.Nodup (["seam","tent"]:List Str) from by decide +kernel) rfl (Or.inl rfl) (Or.inr rfl))) (fun _ _ _ _=>(Oa (Zt Ob (Z3 (pv 1) T.cl_Tent T.p_Tent_sort_of.m (Q3 T) (hr.mono (by decide)) T.p_Tent_sort_of.b .nil Z2 (Za (pv 0) Zb)) Z4 (Zs _)))) (fun _ _ _=>rfl) (fun _ _ _ _ _ _=>Yu (pv 0))))),?_⟩
  obtain ⟨dx,cl,na,sp,mt,o,ff,b⟩:=id ta
  refine ⟨_,rfl,p,dx,_,rfl,b.ins,Xm _ _ _ _,p,M,ns,rfl,ta,h64,fun l ks hl1 hpm hst=>?_⟩
  have s1:Same H (upd H l (.lst (ks.map V.int))):=Same.new hl1
  have h1:(upd H l (.lst (ks.map V.int))) l=some (.lst (ks.map V.int)):=Zc
  generalize upd H l (.lst (ks.map V.int))=H1 at s1 h1 ⊢
  have hkl:ks.length≤64:=by rw [hpm.length_eq]; have:=Qq ns ns.length; omega
  refine ⟨l,rfl,⟨_,SqL.of h1⟩,fun D hD=>?_⟩
  refine Xr (xs:=ks.map V.int) (fun i σ H3=>∃ v,σ=[v,some (.ref p)]∧Same H1 H3∧H3 D=some (.lst (((ks.take i).filter (swB ns)).map V.int))) ⟨none,rfl,Same.new hD,Zc⟩ ?_ ?_ ?_
  ·rintro i σ H3 _ ⟨v,rfl,s3,h3⟩
   exact SqL.of (s3 _ _ h1)
  ·rintro i x σ H3 hx ⟨v,rfl,s3,h3⟩
   obtain ⟨y,hy,rfl⟩:=Ys hx
   have hyk:y∈keys ns ns.length:=hpm.mem_iff.mp (List.mem_of_getElem? hy)
   have ta3:=(ta.same s1).same s3
   obtain ⟨dx,cl,na,sp,mt,o,ff,b⟩:=id ta3
   dsimp only [Zp]
   refine ⟨_,rfl,p,dx,_,rfl,b.ins,Xm _ _ _ _,_,rfl,p,M,ns,y,rfl,ta3,td,fun _ H4 s4=>?_,fun z=>absurd hyk z⟩
   refine ⟨rfl,_,rfl,?_⟩
   show if swB ns y=true then _ else _
   have lt:(((ks.take i).filter (swB ns)).map V.int).length < sizeLine:=by
    rw [List.length_map]
    have:=List.length_filter_le (swB ns) (ks.take i)
    rw [List.length_take] at this
    exact Zx (by omega)
   by_cases c:swB ns y=true
   ·rw [if_pos c]
    refine ⟨_,rfl,_,s4 _ _ h3,lt,_,rfl,Same.add (s3.trans s4) hD,?_⟩
    rw [Zc,On hy,if_pos c,List.map_append]
    rfl
   ·rw [if_neg c]
    refine ⟨_,rfl,s3.trans s4,?_⟩
    rw [s4 _ _ h3,On hy,if_neg c]
  ·rintro σ H3 ⟨v,rfl,s3,h3⟩
   rw [List.length_map,List.take_length] at h3
   refine k D H3 _ (s1.trans s3) (s1.free hD) h3 (hst.filter _) ⟨(hpm.nodup_iff.mpr (Vz ns ns.length)).filter _,fun x=>?_⟩
   rw [List.mem_filter,hpm.mem_iff,Zjp]
   refine ⟨fun zz39=>?_,fun h=>⟨h.key td,(Zbg td (h.key td)).mp h⟩⟩
   obtain ⟨h1,h2⟩:=zz39
   exact (Zbg td h1).mpr h2
theorem G2:FnScope ["tent"] ["tent"] (Zg Ua):=⟨rfl,rfl,rfl,by decide +kernel,rfl,by decide +kernel,by decide +kernel⟩
theorem G9 (T:Txt w K mg t):FnOk P w K mg base (CXr P w) 4 t.f_even_worths t.d_even_worths ["tent"] (Gx t.C_Tent):=by
 refine T.p_even_worths.F.aR G2 (fun cdv A outer s H vs Q E hr h=>?_)
 ·obtain ⟨p,M,ns,rfl,ta,td,h64,k⟩:=h
  have hu:=Xy hr
  refine ⟨_,(Zh (Zl (Uy (ts:=["seam"]) (fv:=[]) ⟨rfl,by decide +kernel,by decide +kernel,Yi (by rfl),trivial⟩ rfl (X1 (pcT (Ud T) hr T.p_sewn_seams (Za (pv 0) Zb))) (fun _ _ _ _=>(Zq (i:=0) (show List.Nodup (["seam"]:List Str) from by decide +kernel) rfl (Or.inl rfl) (Or.inr rfl))) (fun _ _ _ _=>Yl) (fun _ _ _=>rfl) (fun _ _ _ _ _ _=>Ki (pv 0) (Xn (Za Zf (Za Zf Zb))))))),?_⟩
  refine ⟨_,rfl,p,M,ns,rfl,ta,td,h64,fun l H1 ks s1 hl1 h1 _ sw=>?_⟩
  have hkl:ks.length≤64:=by
   have:=sw.len td
   omega
  refine ⟨l,rfl,⟨_,SqL.of h1⟩,fun D hD=>?_⟩
  refine Xr (xs:=ks.map V.int) (fun i σ H3=>∃ v,σ=[v]∧Same H1 H3∧WAt H3 D (ks.take i) fun _=>(1,1)) ⟨none,rfl,Same.new hD,fun _=>0,Zc,fun x hx=>by simp at hx⟩ ?_ ?_ ?_
  ·rintro i σ H3 _ ⟨v,rfl,s3,h3⟩
   exact SqL.of (s3 _ _ h1)
  ·rintro i x σ H3 hx ⟨v,rfl,s3,ad,h3,h4⟩
   obtain ⟨y,hy,rfl⟩:=Ys hx
   dsimp only [Zp,tYes]
   rw [if_pos rfl]
   refine ⟨_,rfl,(by show 2≤sizeLine; rw [sizeLine_eq]; decide),fun q hq=>?_⟩
   have sq:Same H3 (upd H3 q (.tup [V.int 1,V.int 1])):=Same.new hq
   have hq':(upd H3 q (.tup [V.int 1,V.int 1])) q=some (tp (1,1)):=Zc
   have hny:y ∉ ks.take i:=fun z=>by
    have hi:i < ks.length:=(List.getElem?_eq_some_iff.mp hy).1
    have nd:=sw.nd
    rw [← List.take_append_drop i ks,List.nodup_append] at nd
    refine nd.2.2 y z y ?_ rfl
    rw [List.drop_eq_getElem_cons hi,(List.getElem?_eq_some_iff.mp hy).2]
    exact List.mem_cons_self
   refine ⟨_,Sum.inl y,rfl,sq _ _ h3,(by rw [Q9,List.length_take]; exact Zx (by omega)),_,rfl,Same.add (s3.trans sq) hD,?_⟩
   rw [List.take_add_one,hy]
   have:=WAt.new (g:=fun _=>(1,1)) (v:=(1,1)) (sq _ _ h3) (fun x hx=>sq _ _ (h4 x hx)) hq' hny
   exact this.congr fun x _=>by unfold putG; split <;> rfl
  ·rintro σ H3 ⟨v,rfl,s3,h3⟩
   rw [List.length_map,List.take_length] at h3
   exact k D H3 ks (s1.trans s3) (s1.free hD) h3 sw
theorem Ka:FnScope ["tent","worths"] ["tent","worths"] (Zg Qu):=⟨rfl,rfl,rfl,by decide +kernel,rfl,by decide +kernel,by decide +kernel⟩
theorem Kj (T:Txt w K mg t):FnOk P w K mg base (CXr P w) 4 t.f_lowest_worths t.d_lowest_worths ["tent","worths"] (Zf9 t.C_Tent):=by
 refine T.p_lowest_worths.F.aR Ka (fun cdv A outer s H vs Q E hr h=>?_)
 ·obtain ⟨p,d,M,ns,ks,g,rfl,ta,td,h64,wa,sw,ok,k⟩:=h
  have hu:=Xy hr
  refine ⟨_,(Zd (Z1 (Zt (Zln hr.units) (Zo (U7 rfl) (by rfl) T.n_sorted PyProof.Rows.boot_sorted (Za (pv 1) Zb)) (pcT (Ud T) hr T.p_sewn_seams (Za (pv 0) Zb)) (Zs _)) Yt Zu)
   (Zh (Zl (Zd7 (Uy (ts:=["seam","top","bottom"]) (fv:=[]) ⟨rfl,by decide +kernel,by decide +kernel,Yi (by rfl),trivial⟩ rfl (Zb7 (pv 1) ⟨rfl,rfl,rfl⟩) (fun _ _ _ _=>(Vi (n:=2) K rfl (Zz (Zq (i:=0) (show List.Nodup (["seam","top","bottom"]:List Str) from by decide +kernel) rfl (Or.inl rfl) (Or.inr rfl)) (Zz (Vi (n:=2) K rfl (Zz (Zq (i:=1) (show List.Nodup (["seam","top","bottom"]:List Str) from by decide +kernel) rfl (Or.inl rfl) (Or.inr rfl)) (Zz (Zq (i:=2) (show List.Nodup (["seam","top","bottom"]:List Str) from by decide +kernel) rfl (Or.inl rfl) (Or.inr rfl)) Xk))) Xk)))) (fun _ _ _ _=>Yl) (fun _ _ _=>rfl) (fun _ _ _ _ _ _=>Ki (pv 0) (pcT (O3 T) hr T.p_fraction (Za (pv 1) (Za (pv 2) Zb))))))))),?_⟩
  obtain ⟨ad,hd,had⟩:=id wa
  have hkl:ks.length < 64:=by
   have:=sw.len td
   omega
  refine Zk fun nxC hnxC=>?_
  refine ⟨_,rfl,d,_,ks,rfl,.inl hd,(by unfold wD; rw [List.map_map]; rfl),hkl,fun l1 out1 hl1 pm1 st1=>?_⟩
  have s1:Same H (upd H l1 (.lst (out1.map V.int))):=Same.new hl1
  have h1:(upd H l1 (.lst (out1.map V.int))) l1=some (.lst (out1.map V.int)):=Zc
  generalize upd H l1 (.lst (out1.map V.int))=H1 at s1 h1 ⊢
  refine ⟨_,rfl,p,M,ns,rfl,ta.same s1,td,h64,fun l2 H2 out2 s2 hl2 h2 st2 sw2=>?_⟩
  refine ⟨l1,l2,out1,out2,rfl,rfl,SqL.of (s2 _ _ h1),SqL.of h2,_,rfl,?_⟩
  obtain rfl:=Zgc pm1 (sw2.perm sw) st1 st2
  rw [decide_eq_true rfl]
  refine iteF ?_
  try dsimp only [Xf]
  refine hnxC _ _ ?_
  have s12:=s1.trans s2
  have hd2:=s12 _ _ hd
  have had2:∀ x∈ks,H2 (ad x)=some (tp (g x)):=fun x hx=>s12 _ _ (had x hx)
  clear h1 h2 st1 st2 pm1 sw2 hl2
  refine ⟨_,rfl,d,_,rfl,.inl ⟨hd2,fun o=>?_⟩⟩
  intro D hD
  obtain ⟨hDd,hD2⟩:=Xc hD
  have hda:∀ x∈ks,ad x≠d:=fun x hx z=>by have:=had2 x hx; rw [z,hd2] at this; cases this
  refine Gi (fun i σ H3=>∃ v0 v1 v2,σ=[v0,v1,v2]∧(∀ b u,b≠d→H2 b=some u→H3 b=some u)∧H3 d=some (.frz o (.dK (wD ks ad)))∧WAt H3 D (ks.take i) (lowG g)) ⟨none,none,none,rfl,fun b u hb e=>by rw [Ze (Zj e hD2),Ze hb]; exact e,by rw [Ze (Ne.symm hDd),Zc],fun _=>0,Zc,fun x hx=>by simp at hx⟩ ?_ ?_ ?_
  ·rintro i σ H3 _ ⟨v0,v1,v2,rfl,_,e,_⟩
   exact e
  ·rintro i k0 x0 σ H3 q hk0 hq ⟨v0,v1,v2,rfl,s3,e3,ad3,h3,h4⟩
   obtain ⟨y,hy,rfl,rfl⟩:=Zl5 hk0
   have hyk:=List.mem_of_getElem? hy
   obtain ⟨o1,o2,o3⟩:=ok y hyk
   have sq:Same H3 (upd H3 q (.tup [kV (Sum.inl y),V.ref (ad y)])):=Same.new hq
   have hqq:(upd H3 q (.tup [kV (Sum.inl y),V.ref (ad y)])) q=some (.tup [kV (Sum.inl y),V.ref (ad y)]):=Zc
   have hay:(upd H3 q (.tup [kV (Sum.inl y),V.ref (ad y)])) (ad y)=some (tp (g y)):=sq _ _ (s3 _ _ (hda y hyk) (had2 y hyk))
   generalize upd H3 q (.tup [kV (Sum.inl y),V.ref (ad y)])=H4 at sq hqq hay ⊢
   dsimp only [Zp]
   refine ⟨q,_,rfl,SqT.of hqq,rfl,_,_,rfl,_,_,rfl,⟨ad y,_,rfl,SqT.of hay,rfl,_,_,rfl,_,_,rfl,rfl,?_⟩⟩
   refine ⟨rfl,?_⟩
   dsimp only [Zp,tYes]
   rw [if_pos rfl]
   refine ⟨_,rfl,_,rfl,_,rfl,((g y).1:Int),((g y).2:Int),rfl,fun m n em en hm hn=>?_,fun z=>by omega⟩
   obtain rfl:m=(g y).1:=by omega
   obtain rfl:n=(g y).2:=by omega
   refine ⟨Gg hm o3,fun r hr=>?_⟩
   have sr:Same H4 (upd H4 r (tp (lowN (g y).1 (g y).2))):=Same.new hr
   have hny:y ∉ ks.take i:=fun z=>by
    have hi:i < ks.length:=(List.getElem?_eq_some_iff.mp hy).1
    have nd:=sw.nd
    rw [← List.take_append_drop i ks,List.nodup_append] at nd
    refine nd.2.2 y z y ?_ rfl
    rw [List.drop_eq_getElem_cons hi,(List.getElem?_eq_some_iff.mp hy).2]
    exact List.mem_cons_self
   have s34:=sq.trans sr
   refine ⟨_,Sum.inl y,rfl,s34 _ _ h3,(by rw [Q9,List.length_take]; exact Zx (by omega)),_,_,_,rfl,fun b u hb e=>?_,?_,?_⟩
   ·rw [Ze (Zj e hD2)]; exact s34 _ _ (s3 b u hb e)
   ·rw [Ze (Ne.symm hDd)]; exact s34 _ _ e3
   ·rw [List.take_add_one,hy]
    have:=WAt.new (g:=lowG g) (v:=lowN (g y).1 (g y).2) (s34 _ _ h3) (fun x hx=>s34 _ _ (h4 x hx)) (Zc (H:=H4) (a:=r)) hny
    exact this.congr fun x _=>by
     unfold putG
     split
     ·rename_i z; rw [z]; rfl
     ·rfl
  ·rintro σ H3 ⟨v0,v1,v2,rfl,s3,e3,w3⟩
   rw [Q9,List.take_length] at w3
   refine ⟨d,o,_,e3,(fun o' u z=>by have z:H d=some (.frz o' u):=z; rw [hd] at z; cases z),?_⟩
   have sF:Same H2 (upd H3 d (.dK (wD ks ad))):=fun b u e=>by
    by_cases c:b=d
    ·subst c; rw [hd2] at e; rw [Zc]; exact e
    ·rw [Ze c]; exact s3 b u c e
   refine k D _ (s12.trans sF) (s12.free hD2) ?_
   obtain ⟨ad3,h5,h6⟩:=w3
   exact ⟨ad3,by rw [Ze hDd]; exact h5,fun x hx=>by rw [Ze (fun z=>by have:=h6 x hx; rw [z,e3] at this; cases this)]; exact h6 x hx⟩
end
end KT
set_option maxHeartbeats 4000000
namespace KT
open PySem L2
noncomputable def Zld:Sp:=fun vs H Q _=>∃ m n:Nat,vs=[.int m,.int n]∧1≤m∧1≤n∧okD m n∧∀ p,H p=none→Q (.ref p) (upd H p (tp (lowN m n)))
noncomputable def Zjx:Sp:=fun vs H Q _=>∃ (p q:Addr) (v:Nat × Nat),vs=[.ref p,.ref q]∧H p=some (tp v)∧H q=some (tp v)∧Q (.bl true) H
noncomputable def Zf5:Sp:=fun vs H Q _=>∃ (m r nm:Addr) (M:List (Option Nat)) (ns xs:List Int),vs=[.ref m,.ref r,.ref nm]∧H m=some (.lst (M.map mV))∧Yp H r ns∧TD M ns∧M.length≤42∧H nm=some (.lst (xs.map V.int))∧xs.length=60∧(∀ x∈xs,x=2) ∧
 ∀ (d:Addr) (H':Hp) (ks:List Int) (g:Int→Nat × Nat),Same H H'→H d=none→WAt H' d ks g→SwK M ns ks→(∀ x∈ks,g x=(1,1))→Q (.ref d) H'
section
variable {P:Program} {w:World} {K:PySem.W.Frag} {mg:Str→Option Value} {base:Heap} {t:Adr}
theorem Jc:FnScope ["_law_top","_law_bottom","_law_one","_law_other","_law_rest"] ["_law_top","_law_bottom"] (Zg Zdy):=⟨rfl,rfl,rfl,by decide +kernel,rfl,by decide +kernel,by decide +kernel⟩
theorem Zcd (T:Txt w K mg t):FnOk P w K mg base (CXr P w) 1 t.f_l_low t.d_l_low ["_law_top","_law_bottom"] Zld:=by
 refine T.p_l_low.F.aR Jc (fun cdv A outer s H vs Q E hr h=>?_)
 ·obtain ⟨m,n,rfl,hm,hn,hbg,k⟩:=h
  obtain ⟨g1,g2⟩:=Zd8 (m:=m) (n:=n) hm hbg
  refine ⟨_,(Zd (Zn (i:=2) Jc.nd rfl (Or.inl rfl) (pv 0))
   (Zd (Zn (i:=3) Jc.nd rfl (Or.inl rfl) (pv 1))
   (Zd (Jg PassesOwn.never (Zt Q0 (pv 3) Zf (Zs _)) (Zd (Zn (i:=4) Jc.nd rfl (Or.inl rfl) (Zi Zy (pv 2) (pv 3)))
   (Zd (Zn (i:=2) Jc.nd rfl (Or.inl rfl) (pv 3))
   (Zh (Zn (i:=3) Jc.nd rfl (Or.inl rfl) (pv 4))))))
   (Zh (Zl (Xn (Za (Zi Ql (pv 0) (pv 2)) (Za (Zi Ql (pv 1) (pv 2)) Zb)))))))),?_⟩
  refine ⟨_,rfl,?_⟩
  refine ⟨_,rfl,?_⟩
  show tSeq (Ug _ _) _ _ _ _
  refine ⟨fun c σ H1=>∃ (a' b':Nat) (v:Option V),b'=c∧H1=H∧σ=[some (.int m),some (.int n),some (.int a'),some (.int b'),v]∧Nat.gcd a' b'=Nat.gcd m n,⟨n,m,n,none,rfl,rfl,rfl,rfl⟩,?_⟩
  rintro c σ H1 ⟨a',b',v,rfl,rfl,rfl,e⟩
  refine ⟨_,rfl,_,_,rfl,rfl,_,rfl,?_⟩
  refine ite2 (fun z=>?_) (fun z=>?_)
  ·have z:0 < b':=by have:=of_decide_eq_true z; omega
   refine ⟨_,fun σ' H' h=>h,?_⟩
   refine ⟨_,rfl,_,rfl,_,_,rfl,rfl,(by show (0:Int) < b'; omega),?_⟩
   refine ⟨_,rfl,?_⟩
   refine ⟨_,rfl,?_⟩
   refine ⟨a' % b',Nat.mod_lt _ z,b',a' % b',some (.int ((a':Int) % (b':Int))),rfl,rfl,?_,?_⟩
   ·rw [Int.natCast_emod]; rfl
   ·rw [← e,Nat.gcd_comm a' b',Nat.gcd_rec b' a',Nat.gcd_comm]
  ·have z:b'=0:=by have z':¬ (0:Int) < b':=(by simpa using z); omega
   subst z
   rw [Nat.gcd_zero_right] at e
   subst e
   dsimp only
   refine ⟨_,rfl,_,rfl,_,_,rfl,rfl,g1,_,rfl,_,rfl,_,_,rfl,rfl,g2,(by show 2≤sizeLine; rw [sizeLine_eq]; decide),fun p hp=>?_⟩
   exact k p hp
theorem Zgg:FnScope ["_law_found","_law_due"] ["_law_found","_law_due"] (Zg Zbu):=⟨rfl,rfl,rfl,by decide +kernel,rfl,by decide +kernel,by decide +kernel⟩
theorem Fx (T:Txt w K mg t):FnOk P w K mg base (CXr P w) 2 t.f_l_pair t.d_l_pair ["_law_found","_law_due"] Zjx:=by
 refine T.p_l_pair.F.aR Zgg (fun cdv A outer s H vs Q E hr h=>?_)
 ·obtain ⟨p,q,v,rfl,hp,hq,k⟩:=h
  refine ⟨_,(Zd (Z1 (PW.pt (Wl (Yf (Yn (Zo We (by rfl) T.n_isinstance PyProof.Rows.boot_isinstance (Za (pv 0) (Za (Qb (v:=.ty "tuple") (by rfl) T.n_tuple PySem.Pv.boot_tuple rfl) Zb))))) (Wb (Zt Ob (Zo Zm (by rfl) T.n_len PySem.boot_len (Za (pv 0) Zb)) Zf (Zs _))))) (Zh (Zl Xp)) Zu)
   (Zh (Zl (Qk (pcT (Vy T) hr T.p_l_whole (Za (Zv Wj (pv 0) Zf (fun _ _=>rfl)) Zb)) (Qk (pcT (Vy T) hr T.p_l_whole (Za (Zv Wj (pv 0) Zf (fun _ _=>rfl)) Zb)) (Vj (Wn (Zlp hr.units) (pv 0) (pv 1) (Zs _)))))))),?_⟩
  refine ⟨_,rfl,_,"tuple",_,true,rfl,TyOf.tup hp,Qp,_,rfl,iteF ?_⟩
  refine ⟨_,rfl,p,_,rfl,.inr (SqT.of hp),rfl,_,rfl,iteF ?_⟩
  refine ⟨_,rfl,p,_,_,_,rfl,rfl,SqT.of hp,rfl,(v.1:Int),rfl,_,rfl,iteT ?_⟩
  refine ⟨_,rfl,p,_,_,_,rfl,rfl,SqT.of hp,rfl,(v.2:Int),rfl,_,rfl,iteT ?_⟩
  refine ⟨_,rfl,_,rfl,p,q,[(v.1:Int),v.2],[(v.1:Int),v.2],rfl,rfl,SqT.of hp,SqT.of hq,?_⟩
  rw [decide_eq_true rfl]
  exact k
theorem Wr:FnScope ["_law_mates","_law_rows_here","_law_nums","_law_bound","_law_worths_here","_law_p","_law_top"] ["_law_mates","_law_rows_here","_law_nums"] (Zg K2):=⟨rfl,rfl,rfl,by decide +kernel,rfl,by decide +kernel,by decide +kernel⟩
theorem Zdi (T:Txt w K mg t):FnOk P w K mg base (CXr P w) 1 t.f_l_worths t.d_l_worths ["_law_mates","_law_rows_here","_law_nums"] Zf5:=by
 refine T.p_l_worths.F.aR Wr (fun cdv A outer s H vs Q E hr h=>?_)
 ·obtain ⟨m,r,nm,M,ns,xs,rfl,hm,hr1,td,h42,hnm,hxl,hxs,k⟩:=h
  have hu:=Xy hr
  refine ⟨_,(Zd (Zn (i:=3) Wr.nd rfl (Or.inl rfl) (Zv Wj (Xn (Za Zf (Za Zf (Za Zf (Za Zf Zb))))) (Zi Zy (Zv Zw (pv 2) Zf (fun _ _=>rfl)) Zf) (fun _ _=>rfl)))
   (Zd (Zn (i:=4) Wr.nd rfl (Or.inl rfl) Vx)
   (Zd (Wc PassesOwn.never rfl (Xh rfl T.n_range (Za (Zo Zm (by rfl) T.n_len PySem.boot_len (Za (pv 0) Zb)) Zb)) (Zq (i:=5) Wr.nd rfl (Or.inl rfl)) (Zh (Z1 (PW.pt (K9 (Zt Vl (Zv Zw (pv 0) (pv 5) (fun _ _=>rfl)) Qj (Zs _)) (U9 (Zt J5 (pv 5) (Zv Zw (pv 0) (pv 5) (fun _ _=>rfl)) (Zs _))))) (Zd (Zn (i:=6) Wr.nd rfl (Or.inl rfl) (Zi Z0 Zf (Zi Zy (Zv Zw (pv 2) (Zi Z0 (pv 5) Zf) (fun _ _=>rfl)) (pv 3))))
   (Zh (G5 hu (pv 4) (Zv Wj (Zv Zw (pv 1) (Zi Yv (pv 5) Zf) (fun _ _=>rfl)) (Zi Zy (pv 5) Zf) (fun _ _=>rfl)) (Xn (Za (pv 6) (Za (Zi Z0 Zf (Zi Zy (Zi Yv (Zv Zw (pv 2) (Zi Z0 (pv 5) Zf) (fun _ _=>rfl)) Zf) (pv 3))) Zb))) rfl))) Zu)))
   (Zh (Zl (pv 4)))))),?_⟩
  have hMl:=td.len
  have at':∀ i:Nat,i < 60→∃ x,atI (xs.map V.int) (i:Int)=some (V.int x)∧x=2:=fun i hi=>by
   have e:=List.getElem?_eq_getElem (show i < xs.length by omega)
   exact ⟨xs[i],Yk e,hxs _ (List.getElem_mem _)⟩
  obtain ⟨_,e0,rfl⟩:=at' 0 (by decide)
  have e0:atI (xs.map V.int) 0=some (V.int 2):=e0
  have hbd:atI ([V.int 9,V.int 3,V.int 1,V.int 100]) (2 % 4)=some (V.int 1):=rfl
  refine Zk fun nxC hnxC=>?_
  refine ⟨(by show 4≤sizeLine; rw [sizeLine_eq]; decide),fun q1 hq1=>?_⟩
  have s1:Same H (upd H q1 (.tup [V.int 9,V.int 3,V.int 1,V.int 100])):=Same.new hq1
  refine ⟨_,rfl,nm,_,_,_,rfl,rfl,SqL.of (s1 _ _ hnm),e0,_,_,rfl,rfl,(by show (0:Int) < 4; decide),q1,_,_,_,rfl,rfl,SqT.of Zc,hbd,?_⟩
  refine hnxC _ _ ?_
  show tSeq _ _ _ _ (upd H q1 (.tup [V.int 9,V.int 3,V.int 1,V.int 100]))
  generalize upd H q1 (.tup [V.int 9,V.int 3,V.int 1,V.int 100])=H1 at s1 ⊢
  try dsimp only [Zp]
  refine Zk fun nxC hnxC=>?_
  intro d hd
  refine hnxC _ _ ?_
  have hd0:H d=none:=s1.free hd
  have s2:Same H (upd H1 d (.dK [])):=Same.add s1 hd0
  have h2:WAt (upd H1 d (.dK [])) d [] (fun _=>(1,1)):=⟨fun _=>0,Zc,fun x hx=>absurd hx List.not_mem_nil⟩
  generalize upd H1 d (.dK [])=H2 at s2 h2 ⊢
  clear s1 hd hq1
  try dsimp only [Zp]
  show tSeq (tFor _ _ _) _ _ _ _
  refine Yg (fun σ H'=>∃ (ks:List Int) (g:Int→Nat × Nat) (v5 v6:Option V),σ=[some (.ref m),some (.ref r),some (.ref nm),some (.int 1),some (.ref d),v5,v6]∧Same H H'∧WAt H' d ks g∧ks.Nodup∧(∀ x,x∈ks ↔ ∃ p j:Nat,p < M.length∧M[p]?=some (some j)∧p < j∧ns[p]?=some x)∧∀ x∈ks,g x=(1,1)) (fun nx hnx=>?_) ?_
  ·refine ⟨_,rfl,m,_,rfl,.inl (SqL.of (s2 _ _ hm)),_,rfl,by omega,by rw [List.length_map]; omega,?_⟩
   have eL:(((M.map mV).length:Nat):Int).toNat=M.length:=by simp
   rw [eL]
   refine Wy (n:=M.length) (fun i σ H'=>∃ (ks:List Int) (g:Int→Nat × Nat) (v5 v6:Option V),σ=[some (.ref m),some (.ref r),some (.ref nm),some (.int 1),some (.ref d),v5,v6]∧Same H H'∧WAt H' d ks g∧ks.length≤i∧ks.Nodup∧(∀ x,x∈ks ↔ ∃ p j:Nat,p < i∧M[p]?=some (some j)∧p < j∧ns[p]?=some x)∧∀ x∈ks,g x=(1,1)) ⟨[],_,_,_,rfl,s2,h2,Nat.le_refl _,List.nodup_nil,fun x=>⟨fun z=>absurd z List.not_mem_nil,fun ⟨p,j,z,_⟩=>by omega⟩,fun x hx=>absurd hx List.not_mem_nil⟩ ?_ ?_
   ·rintro i σ H3 hi ⟨ks,g,v5,v6,rfl,s3,w3,hkl,nd,mem,bds⟩
    dsimp only [Zp]
    rw [Int.zero_add]
    obtain ⟨my,hmy⟩:∃ z,M[i]?=some z:=⟨_,List.getElem?_eq_getElem hi⟩
    refine ⟨_,rfl,_,rfl,m,_,_,_,rfl,rfl,SqL.of (s3 _ _ hm),Yk hmy,rfl,_,rfl,?_⟩
    cases my with
    | none =>
     refine iteF (iteF ⟨ks,g,_,_,rfl,s3,w3,by omega,nd,fun x=>?_,bds⟩)
     rw [mem]
     exact ⟨fun ⟨p,j,z1,z2⟩=>⟨p,j,by omega,z2⟩,fun ⟨p,j,z1,z2,z3⟩=>by
      rcases Nat.lt_or_ge p i with q | q
      ·exact ⟨p,j,q,z2,z3⟩
      ·have:p=i:=by omega
       subst this; rw [hmy] at z2; cases z2⟩
    | some j =>
     refine iteT ⟨_,rfl,_,rfl,_,rfl,m,_,_,_,rfl,rfl,SqL.of (s3 _ _ hm),Yk hmy,_,_,rfl,rfl,_,rfl,?_⟩
     by_cases c:i < j
     ·rw [decide_eq_true (by omega:(i:Int) < (j:Int))]
      refine iteT ?_
      obtain ⟨y,hy⟩:∃ y,ns[i]?=some y:=⟨_,List.getElem?_eq_getElem (by omega)⟩
      obtain ⟨_,ex,rfl⟩:=at' (i + 1) (by omega)
      have ex:atI (xs.map V.int) ((i:Int) + 1)=some (V.int 2):=by rw [← ex]; rfl
      have hnm3:=s3 _ _ hnm
      refine Zk fun nxC hnxC=>?_
      refine ⟨_,rfl,_,rfl,_,_,rfl,rfl,nm,_,_,_,rfl,rfl,SqL.of hnm3,ex,_,rfl,_,_,rfl,rfl,(by show (0:Int) < 1; decide),_,_,rfl,rfl,?_⟩
      refine hnxC _ _ ?_
      try dsimp only [Zp]
      obtain ⟨us,q,w1,w2,w3',w4⟩:=Zby (hr1.same s3) hy
      refine ⟨_,rfl,_,rfl,_,rfl,_,_,rfl,rfl,nm,_,_,_,rfl,rfl,SqL.of hnm3,ex,_,_,rfl,rfl,⟨by decide,by decide⟩,_,rfl,_,_,rfl,rfl,(by show (0:Int) < 1; decide),_,_,rfl,rfl,(by show 2≤sizeLine; rw [sizeLine_eq]; decide),fun tq htq=>?_⟩
      have sq:Same H3 (upd H3 tq (.tup [V.int (1 + 2 % 1),V.int (1 + 2 / 9 % 1)])):=Same.new htq
      have hq:(upd H3 tq (.tup [V.int (1 + 2 % 1),V.int (1 + 2 / 9 % 1)])) tq=some (tp (1,1)):=by
       rw [Zc]; unfold tp
       rfl
      refine ⟨_,rfl,_,rfl,_,rfl,_,_,rfl,rfl,⟨by decide,by decide⟩,r,_,_,_,rfl,rfl,SqL.of (sq _ _ w1),(by rw [div3]; exact Yk w2),_,rfl,_,_,rfl,rfl,(by show (0:Int) < 3; decide),q,_,_,_,rfl,rfl,SqT.of (sq _ _ w3'),(by rw [mod3]; exact X4 w4),?_⟩
      obtain ⟨ad,e1,e2⟩:=w3
      refine ⟨d,_,rfl,DPut.k (k:=Sum.inl y) (sq _ _ e1) (by rw [Q9]; exact Zx (by omega)),?_⟩
      have hny:y ∉ ks:=fun z=>by
       obtain ⟨p,j',z1,z2,z3,z4⟩:=(mem y).mp z
       rcases td.eqv p i y z4 hy with e | e
       ·omega
       ·rw [z2] at e
        cases e
        have:=(td.inv p i z2).1
        rw [hmy] at this
        cases this
        omega
      have wn:=WAt.new (sq _ _ e1) (fun x hx=>sq _ _ (e2 x hx)) hq hny
      refine ⟨ks ++ [y],_,_,_,rfl,Same.add (s3.trans sq) hd0,wn,by rw [List.length_append,List.length_singleton]; omega,?_,fun x=>?_,fun x hx=>?_⟩
      ·rw [List.nodup_append]
       refine ⟨nd,by simp,fun a ha b hb e=>?_⟩
       rw [List.mem_singleton] at hb
       subst hb e
       exact hny ha
      ·rw [List.mem_append,mem,List.mem_singleton]
       constructor
       ·rintro (⟨p,j',z1,z2⟩ | rfl)
        ·exact ⟨p,j',by omega,z2⟩
        ·exact ⟨i,j,by omega,hmy,c,hy⟩
       ·rintro ⟨p,j',z1,z2,z3,z4⟩
        rcases Nat.lt_or_ge p i with q | q
        ·exact .inl ⟨p,j',q,z2,z3,z4⟩
        ·have:p=i:=by omega
         subst this
         rw [hy] at z4
         cases z4
         exact .inr rfl
      ·unfold putG
       by_cases z:x=y
       ·rw [if_pos z]
       ·rw [if_neg z]
        refine bds x ?_
        rcases List.mem_append.mp hx with q | q
        ·exact q
        ·exact absurd (List.mem_singleton.mp q) z
     ·rw [decide_eq_false (by omega:¬ (i:Int) < (j:Int))]
      refine iteF ⟨ks,g,_,_,rfl,s3,w3,by omega,nd,fun x=>?_,bds⟩
      rw [mem]
      exact ⟨fun ⟨p,j,z1,z2⟩=>⟨p,j,by omega,z2⟩,fun ⟨p,j',z1,z2,z3,z4⟩=>by
       rcases Nat.lt_or_ge p i with q | q
       ·exact ⟨p,j',q,z2,z3,z4⟩
       ·have:p=i:=by omega
        subst this
        rw [hmy] at z2
        cases z2
        omega⟩
   ·rintro σ H3 ⟨ks,g,v5,v6,rfl,s3,w3,hkl,nd,mem,bds⟩
    exact hnx _ _ ⟨ks,g,_,_,rfl,s3,w3,nd,mem,bds⟩
  rintro σ H3 ⟨ks,g,v5,v6,rfl,s3,w3,nd,mem,bds⟩
  refine ⟨_,rfl,k d H3 ks g s3 hd0 w3 ⟨nd,fun x=>?_⟩ bds⟩
  rw [mem]
  constructor
  ·rintro ⟨p,j,_,h1,_,h2⟩
   exact ⟨p,j,h1,h2⟩
  ·rintro ⟨p,j,h1,h2⟩
   obtain ⟨h3,hne⟩:=td.inv p j h1
   have hp:=(List.getElem?_eq_some_iff.mp h1).1
   have hj:=(List.getElem?_eq_some_iff.mp h3).1
   rcases Nat.lt_or_ge p j with q | q
   ·exact ⟨p,j,hp,h1,q,h2⟩
   ·exact ⟨j,p,hj,h3,by omega,by rw [td.eqm p j h1]; exact h2⟩
end
end KT
set_option maxHeartbeats 4000000
namespace KT
open PySem L2 Mx
theorem mulS {m n:Nat} (h1:m < 2 ^ 3000) (h2:n < 2 ^ 3000):IntMulOk (m:Int) (n:Int):=mulN (Nat.lt_of_lt_of_le h1 (Nat.pow_le_pow_right (by decide) (by decide))) (Nat.lt_of_lt_of_le h2 (Nat.pow_le_pow_right (by decide) (by decide)))
theorem divS {m n:Nat} (h0:0 < n) (h:n < 2 ^ 3000):V5 (m:Int) (n:Int):=⟨by omega,Nat.lt_of_lt_of_le (log2_lt (k:=3000) (by rw [Int.natAbs_natCast]; exact h) (by decide)) (by decide)⟩
noncomputable def FrAt (H:Hp) (a:Addr) (vs:List (Nat × Nat)):Prop:=∃ qs:List Addr,H a=some (.lst (qs.map V.ref))∧qs.length=vs.length∧∀ (i:Nat) (q:Addr) (v:Nat × Nat),qs[i]?=some q→vs[i]?=some v→H q=some (tp v)
theorem FrAt.same {H H':Hp} {a:Addr} {vs:List (Nat × Nat)} (h:FrAt H a vs) (s:Same H H'):FrAt H' a vs:=by
 obtain ⟨qs,h1,h2,h3⟩:=h
 exact ⟨qs,s _ _ h1,h2,fun i q v e1 e2=>s _ _ (h3 i q v e1 e2)⟩
noncomputable def Zj0:Sp:=fun us H Q _=>∃ (c:Addr) (vs:List (Nat × Nat)) (ys:List Str),us=[.ref c,.str (Txt.join (Str.ofString "") ys)]∧FrAt H c vs∧vs.length=ys.length∧vs.length≤100∧(∀ v∈vs,v.1≤100∧v.2≤100)∧(∀ y∈ys,isLR y)∧∀ H',Same H H'→Q (.int (tr (tab (vs.zip (ys.map tuB))):Nat)) H'
noncomputable def Zjy:Sp:=fun us H Q _=>∃ (a:Addr) (N:Nat) (fs:List Nat),us=[.int N,.ref a]∧H a=some (.lst (fs.map nV))∧0 < N∧N < 2 ^ 3000∧(∀ f∈fs,1≤f∧f≤100)∧fs.length≤200∧∀ p,H p=none→Q (.ref p) (upd H p (tp (lowN N (prd fs))))
noncomputable def Zht (C:Addr):Sp:=fun us H Q _=>∃ (p d a:Addr) (M:List (Option Nat)) (ns ks:List Int) (g:Int→Nat × Nat) (ws:List Nat),us=[.ref p,.ref d,.ref a]∧Yb C H p M ns∧TD M ns∧ns.length < 64∧WAt H d ks g∧SwK M ns ks∧(∀ x∈ks,1≤(g x).1∧1≤(g x).2∧(g x).1≤100∧(g x).2≤100)∧H a=some (.lst (ws.map nV))∧ws.length≤100∧Pl M ws ∧
 ∀ (r:Addr) (H':Hp),Same H H'→H' r=some (tp (wor (lowG g) M ns ws))→Q (.ref r) H'
theorem Km:∀ vs:List (Nat × Nat),(vs.flatMap fun v=>[v.1,v.2]).length=2 * vs.length
 | []=>rfl
 | v :: vs=>by rw [List.flatMap_cons,List.length_append,Km vs]; simp only [List.length_cons,List.length_nil]; omega
theorem dSt {a b:Str}:decide (V.str a=V.str b)=decide (a=b):=by
 by_cases z:a=b
 ·subst z; simp
 ·rw [decide_eq_false z,decide_eq_false (fun y=>z (by injection y))]
theorem Zjf {ys:List Str} (h:∀ y∈ys,isLR y):(Txt.join (Str.ofString "") ys).cps.all (· < 128)=true∧ys.map V.str=(Txt.join (Str.ofString "") ys).cps.toList.map fun c=>V.str ⟨#[c]⟩:=by
 obtain ⟨j1,j2,j3⟩:=Zg6 h
 refine ⟨j1,?_⟩
 apply List.ext_getElem?
 intro i
 rw [List.getElem?_map,List.getElem?_map]
 rcases Nat.lt_or_ge i ys.length with hi | hi
 ·have hi':i < (Txt.join (Str.ofString "") ys).cps.size:=by omega
  have e:=Array.getElem?_eq_getElem hi'
  have e2:=j3 i _ e
  have e3:(Txt.join (Str.ofString "") ys).cps.toList[i]?=some (Txt.join (Str.ofString "") ys).cps[i]:=by rw [Array.getElem?_toList]; exact e
  rw [e3,e2]
  rfl
 ·rw [List.getElem?_eq_none hi,List.getElem?_eq_none (by rw [Array.length_toList]; omega)]
  rfl
section
variable {P:Program} {w:World} {K:PySem.W.Frag} {mg:Str→Option Value} {base:Heap} {t:Adr}
theorem Z7:FnScope ["crossed","turns","upper_left","upper_right","lower_left","lower_right","top","bottom","turn"] ["crossed","turns"] (Zg Vd):=⟨rfl,rfl,rfl,by decide +kernel,rfl,by decide +kernel,by decide +kernel⟩
theorem Ge (T:Txt w K mg t):FnOk P w K mg base (CXr P w) 1 t.f_diagonal_sum t.d_diagonal_sum ["crossed","turns"] Zj0:=by
 refine T.p_diagonal_sum.F.aR Z7 (fun cdv A outer s H vs Q E hr h=>?_)
 ·obtain ⟨c,vs,ys,rfl,⟨qs,h1,h2,h3⟩,hl,h100,hv,hy,k⟩:=h
  refine ⟨_,(Zd (Wz (Xn (Za Zf (Za Zf (Za Zf (Za Zf Zb))))) (W0 rfl (Zz (Zq (i:=2) Z7.nd rfl (Or.inl rfl)) (Zz (Zq (i:=3) Z7.nd rfl (Or.inl rfl)) (Zz (Zq (i:=4) Z7.nd rfl (Or.inl rfl)) (Zz (Zq (i:=5) Z7.nd rfl (Or.inl rfl)) Xk))))))
   (Zd (Wc PassesOwn.never rfl (Zj9 rfl T.n_zip (Za (pv 0) (Za (pv 1) Zb))) (W0 rfl (Zz (W0 rfl (Zz (Zq (i:=6) Z7.nd rfl (Or.inl rfl)) (Zz (Zq (i:=7) Z7.nd rfl (Or.inl rfl)) Xk))) (Zz (Zq (i:=8) Z7.nd rfl (Or.inl rfl)) Xk))) (Zd (Vh (i:=2) (j:=4) rfl Z7.nd rfl rfl (by decide) rfl rfl (Za (Zi X2 (pv 2) (pv 6)) (Za (Zi X2 (pv 4) (pv 6)) Zb)) (by rfl))
   (Zd (Vh (i:=3) (j:=5) rfl Z7.nd rfl rfl (by decide) rfl rfl (Za (Zi X2 (pv 3) (pv 7)) (Za (Zi X2 (pv 5) (pv 7)) Zb)) (by rfl))
   (Zh (Z1 (Zt Xq (pv 8) Z4 (Zs _)) (Zh (Vh (i:=3) (j:=5) rfl Z7.nd rfl rfl (by decide) rfl rfl (Za (Zi Z0 (pv 3) (pv 2)) (Za (Zi Z0 (pv 5) (pv 4)) Zb)) (by rfl))) (Zh (Vh (i:=2) (j:=4) rfl Z7.nd rfl rfl (by decide) rfl rfl (Za (Zi Z0 (pv 2) (pv 3)) (Za (Zi Z0 (pv 4) (pv 5)) Zb)) (by rfl))))))))
   (Zh (Zl (Zi Z0 (pv 2) (pv 5)))))),?_⟩
  obtain ⟨z1,z2⟩:=Zjf hy
  refine Zk fun nxC hnxC=>?_
  refine ⟨(by show 4≤sizeLine; rw [sizeLine_eq]; decide),fun q0 hq0=>?_⟩
  have s0:Same H (upd H q0 (.tup [V.int 1,V.int 0,V.int 0,V.int 1])):=Same.new hq0
  refine ⟨q0,_,rfl,SqT.of Zc,rfl,_,_,rfl,_,_,rfl,_,_,rfl,_,_,rfl,rfl,?_⟩
  refine hnxC _ _ ?_
  try dsimp only [Zp]
  show tSeq (tFor _ _ _) _ _ _ (upd H q0 (.tup [V.int 1,V.int 0,V.int 0,V.int 1]))
  generalize upd H q0 (.tup [V.int 1,V.int 0,V.int 0,V.int 1])=H0 at s0 ⊢
  have hzl:(vs.zip (ys.map tuB)).length=vs.length:=by rw [List.length_zip,List.length_map]; omega
  refine Yg (fun σ H'=>Same H H'∧∃ v6 v7 v8,σ=[some (.ref c),some (.str (Txt.join (Str.ofString "") ys)),some (.int (tab (vs.zip (ys.map tuB))).a),some (.int (tab (vs.zip (ys.map tuB))).b),some (.int (tab (vs.zip (ys.map tuB))).c),some (.int (tab (vs.zip (ys.map tuB))).d),v6,v7,v8]) (fun nx hnx=>?_) ?_
  ·refine ⟨_,rfl,_,rfl,.l c,.s _,_,_,rfl,SqL.of (s0 _ _ h1),⟨z1,z2⟩,?_⟩
   refine Ziy (S:=.l c) (T:=.s (Txt.join (Str.ofString "") ys)) (xs:=qs.map V.ref) (ys:=ys.map V.str) (by rw [List.length_map,List.length_map]; omega) (fun i σ H'=>Same H H'∧∃ v6 v7 v8,σ=[some (.ref c),some (.str (Txt.join (Str.ofString "") ys)),some (.int (((vs.zip (ys.map tuB)).take i).foldl stp one).a),some (.int (((vs.zip (ys.map tuB)).take i).foldl stp one).b),some (.int (((vs.zip (ys.map tuB)).take i).foldl stp one).c),some (.int (((vs.zip (ys.map tuB)).take i).foldl stp one).d),v6,v7,v8]) ⟨s0,_,_,_,rfl⟩ ?_ ?_ ?_
   ·rintro i σ H' _ ⟨s1,v6,v7,v8,rfl⟩
    exact ⟨SqL.of (s1 _ _ h1),z1,z2⟩
   ·rintro i x y σ H1 q hx hy' hq ⟨s1,v6,v7,v8,rfl⟩
    obtain ⟨qa,hqa,rfl⟩:=Ys hx
    obtain ⟨yy,hyy,rfl⟩:=Ys hy'
    have hi:i < vs.length:=by rw [← h2]; exact (List.getElem?_eq_some_iff.mp hqa).1
    have hvi:=List.getElem?_eq_getElem hi
    have hta:=s1 _ _ (h3 i qa _ hqa hvi)
    have hzi:(vs.zip (ys.map tuB))[i]?=some (vs[i],tuB yy):=by
     rw [List.getElem?_zip_eq_some]
     exact ⟨hvi,by rw [List.getElem?_map,hyy]; rfl⟩
    have s2:Same H1 (upd H1 q (.tup [V.ref qa,V.str yy])):=Same.new hq
    have hbnd:=Og (k:=100) ((vs.zip (ys.map tuB)).take i) one 1 (fun q hq=>by
     have:=List.mem_of_mem_take hq
     exact hv _ (List.of_mem_zip this).1) (by decide)
    have hst:((vs.zip (ys.map tuB)).take (i + 1)).foldl stp one=stp (((vs.zip (ys.map tuB)).take i).foldl stp one) (vs[i],tuB yy):=by
     rw [List.take_add_one,hzi,List.foldl_append]; rfl
    rw [hst]
    have hb2:1 * (2 * 100) ^ ((vs.zip (ys.map tuB)).take i).length < 2 ^ 3000:=by
     rw [Nat.one_mul]
     refine Nat.lt_of_le_of_lt (Nat.pow_le_pow_right (by decide) (show _≤100 by rw [List.length_take]; omega)) (by decide +kernel)
    generalize ((vs.zip (ys.map tuB)).take i).foldl stp one=X at hbnd ⊢
    obtain ⟨b1,b2,b3,b4⟩:=hbnd
    have v100:∀ n:Nat,n≤100→n < 2 ^ 3000:=fun n hn=>Nat.lt_of_le_of_lt hn (by decide +kernel)
    obtain ⟨c1,c2⟩:=hv _ (List.getElem_mem hi)
    generalize vs[i]=v at *
    refine ⟨q,_,rfl,SqT.of Zc,rfl,_,_,rfl,qa,_,rfl,SqT.of (s2 _ _ hta),rfl,_,_,rfl,_,_,rfl,rfl,_,_,rfl,rfl,?_⟩
    dsimp only [Zp]
    have m1:X.a < 2 ^ 3000:=Nat.lt_of_le_of_lt b1 hb2
    have m2:X.b < 2 ^ 3000:=Nat.lt_of_le_of_lt b2 hb2
    have m3:X.c < 2 ^ 3000:=Nat.lt_of_le_of_lt b3 hb2
    have m4:X.d < 2 ^ 3000:=Nat.lt_of_le_of_lt b4 hb2
    have m5:=v100 _ c1
    have m6:=v100 _ c2
    clear b1 b2 b3 b4 hb2 hst c1 c2 hta
    refine Zk fun nxC hnxC=>?_
    refine ⟨_,rfl,_,rfl,_,_,rfl,rfl,mulS m1 m5,_,rfl,_,rfl,_,_,rfl,rfl,mulS m3 m5,_,_,rfl,?_⟩
    refine hnxC _ _ ?_
    refine Zk fun nxC hnxC=>?_
    refine ⟨_,rfl,_,rfl,_,_,rfl,rfl,mulS m2 m6,_,rfl,_,rfl,_,_,rfl,rfl,mulS m4 m6,_,_,rfl,?_⟩
    refine hnxC _ _ ?_
    refine ⟨_,rfl,rfl,_,rfl,?_⟩
    rw [dSt]
    rcases hy yy (List.mem_of_getElem? hyy) with rfl | rfl
    ·refine iteF ?_
     refine ⟨_,rfl,_,rfl,_,_,rfl,rfl,_,rfl,_,rfl,_,_,rfl,rfl,_,_,rfl,?_⟩
     exact ⟨s1.trans s2,_,_,_,rfl⟩
    ·refine iteT ?_
     refine ⟨_,rfl,_,rfl,_,_,rfl,rfl,_,rfl,_,rfl,_,_,rfl,rfl,_,_,rfl,?_⟩
     exact ⟨s1.trans s2,_,_,_,rfl⟩
   ·rintro σ H' ⟨s1,v6,v7,v8,rfl⟩
    rw [List.length_map,h2,← hzl,List.take_length]
    exact hnx _ _ ⟨s1,_,_,_,rfl⟩
  ·rintro σ H' ⟨s1,v6,v7,v8,rfl⟩
   refine ⟨_,rfl,_,rfl,_,_,rfl,rfl,?_⟩
   have:=k H' s1
   unfold tr at this
   rw [Int.natCast_add] at this
   exact this
theorem Xj:FnScope ["top","factors","bottom","factor","measure"] ["top","factors"] (Zg V6):=⟨rfl,rfl,rfl,by decide +kernel,rfl,by decide +kernel,by decide +kernel⟩
theorem G7 (T:Txt w K mg t):FnOk P w K mg base (CXr P w) 2 t.f_lowest_over t.d_lowest_over ["top","factors"] Zjy:=by
 refine T.p_lowest_over.F.aR Xj (fun cdv A outer s H vs Q E hr h=>?_)
 ·obtain ⟨a,N,fs,rfl,ha,hN,hN2,hf,hfl,k⟩:=h
  refine ⟨_,(Zd (Zn (i:=2) Xj.nd rfl (Or.inl rfl) Zf)
   (Zd (Wc PassesOwn.never rfl (X1 (pv 1)) (Zq (i:=3) Xj.nd rfl (Or.inl rfl)) (Zd (Zn (i:=4) Xj.nd rfl (Or.inl rfl) (pcT (J3 T) hr T.p_common_measure (Za (pv 0) (Za (pv 3) Zb))))
   (Zd (Zb1 (i:=0) Xj.nd rfl (Or.inl rfl) (pv 4) Zcr)
   (Zh (Zb1 (i:=2) Xj.nd rfl (Or.inl rfl) (Zi Ql (pv 3) (pv 4)) Zko)))))
   (Zh (Zl (Xn (Za (pv 0) (Za (pv 2) Zb))))))),?_⟩
  have f0:∀ f∈fs,0 < f:=fun f h=>(hf f h).1
  refine Zk fun nxC hnxC=>?_
  refine hnxC _ _ ?_
  try dsimp only [Zp]
  show tSeq (tFor _ _ _) _ _ _ _
  refine Yg (fun σ H'=>H'=H∧∃ v3 v4,σ=[some (.int (lowN N (prd fs)).1),some (.ref a),some (.int (lowN N (prd fs)).2),v3,v4]) (fun nx hnx=>?_) ?_
  ·refine ⟨_,rfl,a,rfl,⟨_,SqL.of ha⟩,?_⟩
   refine Zct (xs:=fs.map nV) (fun i σ H'=>H'=H∧∃ v3 v4,σ=[some (.int ((fs.take i).foldl loS (N,1)).1),some (.ref a),some (.int ((fs.take i).foldl loS (N,1)).2),v3,v4]) ⟨rfl,_,_,rfl⟩ ?_ ?_ ?_
   ·rintro i σ H' _ ⟨rfl,v3,v4,rfl⟩
    exact SqL.of ha
   ·rintro i x σ H' hx ⟨rfl,v3,v4,rfl⟩
    obtain ⟨f,hfi,rfl⟩:=Ys hx
    have hi:i < fs.length:=(List.getElem?_eq_some_iff.mp hfi).1
    have hv:=Fb hN f0 i (Nat.le_of_lt hi)
    have hp0:=G6 f0 i (Nat.le_of_lt hi)
    have hle:=hv.le hN hp0
    have hpl:=Zgk (k:=100) (fun f h=>(hf f h).2) i (Nat.le_of_lt hi)
    have hpb:100 ^ i < 2 ^ 3000:=Nat.lt_of_le_of_lt (Nat.pow_le_pow_right (by decide) (show i≤200 by omega)) (by decide +kernel)
    rw [Zea hfi]
    generalize (fs.take i).foldl loS (N,1)=S at *
    obtain ⟨q1,q2⟩:=hf f (List.mem_of_getElem? hfi)
    have g0:0 < Nat.gcd S.1 f:=Nat.gcd_pos_of_pos_left _ hv.p1
    have g1:Nat.gcd S.1 f≤f:=Nat.le_of_dvd q1 (Nat.gcd_dvd_right _ _)
    have v100:∀ n:Nat,n≤100→n < 2 ^ 3000:=fun n hn=>Nat.lt_of_le_of_lt hn (by decide +kernel)
    have g2:=v100 _ (Nat.le_trans g1 q2)
    have dv:V5 (S.1:Int) (Nat.gcd S.1 f:Nat):=divS g0 g2
    have dv2:V5 (f:Int) (Nat.gcd S.1 f:Nat):=divS g0 g2
    dsimp only [Zp]
    refine Zk fun nxC hnxC=>?_
    refine ⟨_,rfl,_,rfl,S.1,f,rfl,?_⟩
    refine hnxC _ _ ?_
    try dsimp only [Zp]
    refine Zk fun nxC hnxC=>?_
    refine ⟨_,rfl,_,rfl,_,_,rfl,rfl,dv,?_⟩
    refine hnxC _ _ ?_
    refine ⟨_,rfl,_,rfl,_,rfl,_,_,rfl,rfl,dv2,_,_,rfl,rfl,?_,?_⟩
    ·exact mulS (m:=S.2) (n:=f / Nat.gcd S.1 f) (Nat.lt_of_le_of_lt hle.2 (Nat.lt_of_le_of_lt hpl hpb)) (v100 _ (Nat.le_trans (Nat.div_le_self _ _) q2))
    ·exact ⟨rfl,_,_,rfl⟩
   ·rintro σ H' ⟨rfl,v3,v4,rfl⟩
    rw [List.length_map,List.take_length,Zmo hN f0]
    exact hnx _ _ ⟨rfl,_,_,rfl⟩
  ·rintro σ H' ⟨rfl,v3,v4,rfl⟩
   refine ⟨_,rfl,_,rfl,(by show 2≤sizeLine; rw [sizeLine_eq]; decide),fun p hp=>?_⟩
   exact k p hp
theorem Qd:FnScope ["tent","worths","word","turns","lowest","crossed","factors"] ["tent","worths","word"] (Zg Zdv):=⟨rfl,rfl,rfl,by decide +kernel,rfl,by decide +kernel,by decide +kernel⟩
theorem Zif (T:Txt w K mg t):FnOk P w K mg base (CXr P w) 8 t.f_worth t.d_worth ["tent","worths","word"] (Zht t.C_Tent):=by
  refine T.p_worth.F.aR Qd (fun cdv A outer s H vs Q E hr h=>?_)
  · obtain ⟨p,d,a,M,ns,ks,g,ws,rfl,ta,td,h64,wa,sw,bd,ha,hwl,hP,k⟩:=h
    have hu:=Xy hr
    refine ⟨_,(Zd (Zn (i:=3) Qd.nd rfl (Or.inl rfl) (pcT (Ze8 T) hr T.p_letters (Za (pv 0) (Za (pv 2) Zb))))
      (Zd (Zn (i:=4) Qd.nd rfl (Or.inr rfl) (pcT (Kj T) hr T.p_lowest_worths (Za (pv 0) (Za (pv 1) Zb))))
      (Zd (Wd (ts:=["place"]) (fv:=[("lowest",4),("tent",0)]) (i:=5) ⟨rfl,by decide +kernel,by decide +kernel,Yi (by rfl),⟨⟨rfl,rfl,Or.inl rfl⟩,⟨rfl,rfl,Or.inl rfl⟩,trivial⟩⟩ rfl Qd.nd rfl rfl (by rfl) (X1 (pv 2)) (fun _ _ _ _=>(Zq (i:=0) (show List.Nodup (["place","lowest","tent"]:List Str) from by decide +kernel) rfl (Or.inl rfl) (Or.inr rfl))) (fun _ _ _ _=>Yl) (fun _ _ _=>rfl) (fun _ _ _ _ _ _=>Yu (Vk hu (pv 1) (Z3 (pv 2) T.cl_Tent T.p_Tent_seam_at.m (Gf T) (hr.mono (by decide)) T.p_Tent_seam_at.b .nil Z2 (Za (pv 0) Zb)) (fun _ _=>rfl))))
      (Zd (Wd (ts:=["parts","part"]) (fv:=[]) (i:=6) ⟨rfl,by decide +kernel,by decide +kernel,Yi (by rfl),trivial⟩ rfl Qd.nd rfl rfl (by rfl) (X1 (pv 5)) (fun _ _ _ _=>(Zq (i:=0) (show List.Nodup (["parts","part"]:List Str) from by decide +kernel) rfl (Or.inl rfl) (Or.inr rfl))) (fun _ _ _ _=>Yl) (fun _ _ _=>rfl) (fun _ _ _ _ _ _=>Zgs rfl rfl (Zd6 K (pv 0)) (Zq (i:=1) (show List.Nodup (["parts","part"]:List Str) from by decide +kernel) rfl (Or.inl rfl) (Or.inr rfl)) Yl (pv 1)))
      (Zh (Zl (pcT (G7 T) hr T.p_lowest_over (Za (Zi Zkf (pcT (Ge T) hr T.p_diagonal_sum (Za (pv 5) (Za (pv 3) Zb))) Zf) (Za (pv 6) Zb))))))))),?_⟩
    have hMl:=td.len
    have h0:0 < ws.length:=List.length_pos_iff.mpr hP.ne
    have inK:∀ q∈ws,ns.getD q 0∈ks∧∃ y,ns[q]?=some y∧ns.getD q 0=y:=fun q hq=>by
      obtain ⟨m,hm⟩:=hP.has q hq
      have hlt:q < ns.length:=by rw [hMl]; exact (List.getElem?_eq_some_iff.mp hm).1
      have e:=List.getElem?_eq_getElem hlt
      have e2:ns.getD q 0=ns[q]:=by rw [List.getD_eq_getElem?_getD,e]; rfl
      exact ⟨by rw [e2]; exact (sw.mem _).mpr ⟨q,m,hm,e⟩,_,e,e2⟩
    refine Zk fun nxC hnxC=>?_
    refine ⟨_,rfl,_,rfl,p,a,M,ns,ws,rfl,ta,hMl.symm,ha,by omega,hP,fun H1 s1=>?_⟩
    refine hnxC _ _ ?_
    try dsimp only [Zp]
    refine Zk fun nxC hnxC=>?_
    refine ⟨_,rfl,_,rfl,p,d,M,ns,ks,g,rfl,ta.same s1,td,h64,wa.same s1,sw,fun x hx=>⟨(bd x hx).1,(bd x hx).2.1,Nat.lt_of_le_of_lt (bd x hx).2.2.1 (by decide +kernel)⟩,fun lo H2 s2 hlo w2=>?_⟩
    refine hnxC _ _ ?_
    try dsimp only [Zp]
    have s02:=s1.trans s2
    obtain ⟨ad,e1,e2⟩:=id w2
    refine Zk fun nxC hnxC=>?_
    refine ⟨_,rfl,a,rfl,⟨_,SqL.of (s02 _ _ ha)⟩,fun D hD=>?_⟩
    refine Xr (xs:=ws.map nV) (fun i σ H3=>∃ v,σ=[v,some (.ref lo),some (.ref p)]∧Same H2 H3∧H3 D=some (.lst (((ws.map fun q=>ad (ns.getD q 0)).take i).map V.ref))) ⟨none,rfl,Same.new hD,Zc⟩ ?_ ?_ ?_
    · rintro i σ H3 _ ⟨v,rfl,sm,h3⟩
      exact SqL.of (sm _ _ (s02 _ _ ha))
    · rintro i y σ H3 hy ⟨v,rfl,sm,h3⟩
      obtain ⟨q,hq,rfl⟩:=Ys hy
      dsimp only [Zp,tYes]
      rw [if_pos rfl]
      obtain ⟨kq,yq,hyq,eyq⟩:=inK q (List.mem_of_getElem? hq)
      have hlt:=(List.getElem?_eq_some_iff.mp hyq).1
      have ta3:=(ta.same s02).same sm
      obtain ⟨dx,cl,na,sp,mt',o,f,b⟩:=id ta3
      have g3:=Zfw (.inl (sm _ _ e1)) kq
      rw [eyq] at g3
      refine ⟨_,rfl,_,rfl,p,dx,_,rfl,b.ins,Xm _ _ _ _,_,rfl,p,M,ns,(q:Int),rfl,ta3,fun i' y' ei ey=>?_,fun z=>absurd (show (0:Int)≤q∧(q:Int) < ns.length by omega) z⟩
      have:i'=q:=by omega
      subst this
      rw [hyq] at ey
      cases ey
      refine ⟨lo,_,rfl,g3,_,h3,?_,_,rfl,Same.add sm hD,?_⟩
      · rw [List.length_map,List.length_take,List.length_map]; exact Zx (by omega)
      · rw [Zc,List.take_add_one,List.getElem?_map,hq,List.map_append]
        show _=some (HO.lst (_ ++ [V.ref (ad (ns.getD i' 0))]))
        rw [eyq]
    rintro σ H3 ⟨v,rfl,s3,h3⟩
    refine hnxC _ _ ?_
    try dsimp only [Zp]
    rw [List.length_map,List.take_of_length_le (by rw [List.length_map]; exact Nat.le_refl _)] at h3
    have hF3:FrAt H3 D (crL (lowG g) ns ws):=by
      refine ⟨_,h3,by rw [List.length_map,Fe],fun i q v hq hv=>?_⟩
      unfold crL at hv
      rw [List.getElem?_map] at hq hv
      cases e:ws[i]? with
      | none=>rw [e] at hv; cases hv
      | some z =>
        rw [e] at hq hv
        cases hq; cases hv
        exact s3 _ _ (e2 _ (inK z (List.mem_of_getElem? e)).1)
    have s03:=s02.trans s3
    have hcl:=Fe (h:=lowG g) (ns:=ns) (ws:=ws)
    have hcb:∀ v∈crL (lowG g) ns ws,1≤v.1∧1≤v.2∧v.1≤100∧v.2≤100:=fun v hv=>by
      obtain ⟨q,hq,rfl⟩:=List.mem_map.mp hv
      obtain ⟨b1,b2,b3,b4⟩:=bd _ (inK q hq).1
      have l1:=Qc b1 b2
      have l2:=Oc (g (ns.getD q 0)).1 (g (ns.getD q 0)).2
      exact ⟨l1.p1,l1.p2,Nat.le_trans l2.1 b3,Nat.le_trans l2.2 b4⟩
    have hwz:wz (lowG g) M ns ws=(crL (lowG g) ns ws).zip ((letL M ws).map tuB):=rfl
    unfold wor at k
    rw [hwz] at k
    have hll:=Zcp M ws h0
    have hlr:=Zkl M ws
    generalize crL (lowG g) ns ws=vs at *
    generalize letL M ws=ys at *
    obtain ⟨qs,f1,f2,f3⟩:=id hF3
    refine Zk fun nxC hnxC=>?_
    refine ⟨_,rfl,D,rfl,⟨_,SqL.of f1⟩,fun D2 hD2=>?_⟩
    refine Xr (xs:=qs.map V.ref) (fun i σ H4=>∃ v v',σ=[v,v']∧Same H3 H4∧H4 D2=some (.lst (((vs.take i).flatMap fun v=>[v.1,v.2]).map nV))) ⟨none,none,rfl,Same.new hD2,Zc⟩ ?_ ?_ ?_
    · rintro i σ H4 _ ⟨v,v',rfl,sm,h4⟩
      exact SqL.of (sm _ _ f1)
    · rintro i x σ H4 hx ⟨v,v',rfl,sm,h4⟩
      obtain ⟨q,hq,rfl⟩:=Ys hx
      have hi:i < vs.length:=by rw [← f2]; exact (List.getElem?_eq_some_iff.mp hq).1
      have hvi:=List.getElem?_eq_getElem hi
      have hq3:=f3 i q _ hq hvi
      have ht:(vs.take (i + 1)).flatMap (fun v=>[v.1,v.2])=(vs.take i).flatMap (fun v=>[v.1,v.2]) ++ [vs[i].1,vs[i].2]:=by
        rw [List.take_add_one,hvi,List.flatMap_append]; simp
      have hfl:((vs.take i).flatMap fun v=>[v.1,v.2]).length=2 * i:=by
        rw [Km,List.length_take]
        omega
      dsimp only [Zp,tYes]
      rw [if_pos rfl]
      refine ⟨_,rfl,q,rfl,⟨_,SqT.of (sm _ _ hq3)⟩,?_⟩
      refine Zcm (xs:=[V.int vs[i].1,V.int vs[i].2]) (fun j σ H5=>∃ v',σ=[some (.ref q),v']∧Same H3 H5∧H5 D2=some (.lst (((vs.take i).flatMap fun v=>[v.1,v.2]).map nV ++ ([V.int vs[i].1,V.int vs[i].2]).take j))) ⟨v',rfl,sm,by rw [h4,List.take_zero,List.append_nil]⟩ ?_ ?_ ?_
      · rintro j σ H5 _ ⟨v',rfl,sm,h5⟩
        exact SqT.of (sm _ _ hq3)
      · rintro j x σ H5 hx ⟨v',rfl,sm,h5⟩
        dsimp only [Zp,tYes]
        rw [if_pos rfl]
        refine ⟨_,rfl,_,h5,?_,_,rfl,Same.add sm hD2,?_⟩
        · rw [List.length_append,List.length_map,hfl,List.length_take]
          exact Zx (by have:([V.int vs[i].1,V.int vs[i].2]).length=2:=rfl; omega)
        · rw [Zc,List.take_add_one,hx,← List.append_assoc]
          rfl
      · rintro σ H5 ⟨v',rfl,sm,h5⟩
        refine ⟨_,_,rfl,sm,?_⟩
        rw [h5,List.take_length,ht,List.map_append]
        rfl
    rintro σ H4 ⟨v,v',rfl,s4,h4⟩
    refine hnxC _ _ ?_
    try dsimp only [Zp]
    rw [List.length_map,f2,List.take_length] at h4
    have hvl:vs.length=ys.length:=by omega
    have htr:=Za4 (l:=vs.zip (ys.map tuB)) (fun q hq=>by
      have:=hcb _ (List.of_mem_zip hq).1
      exact ⟨this.1,this.2.1⟩)
    have hbt:tr (tab (vs.zip (ys.map tuB))) < 2 ^ 1000:=by
      have hbnd:=Og (k:=100) (vs.zip (ys.map tuB)) one 1 (fun q hq=>(hcb _ (List.of_mem_zip hq).1).2.2) (by decide)
      have hb2:1 * (2 * 100) ^ (vs.zip (ys.map tuB)).length≤200 ^ 100:=by
        rw [Nat.one_mul]
        exact Nat.pow_le_pow_right (by decide) (by rw [List.length_zip]; omega)
      have:(200 ^ 100 + 200 ^ 100:Nat) < 2 ^ 1000:=by decide +kernel
      unfold tr
      exact Nat.lt_of_le_of_lt (Nat.add_le_add (Nat.le_trans hbnd.1 hb2) (Nat.le_trans hbnd.2.2.2 hb2)) this
    refine ⟨_,rfl,_,rfl,D,vs,ys,rfl,hF3.same s4,hvl,by omega,fun v hv=>(hcb v hv).2.2,hlr,fun H5 s5=>?_⟩
    have hdt:=Zhc vs (ys.map tuB) (by rw [List.length_map]; exact hvl)
    rw [hdt] at k
    generalize tr (tab (vs.zip (ys.map tuB)))=tN at *
    refine ⟨_,_,rfl,rfl,⟨by decide,?_⟩,?_⟩
    · have:=Fh (j:=(tN:Int)) (k:=1000) (by rw [Int.natAbs_natCast]; exact hbt) (by decide)
      show (_:Int) * 2≤2 ^ 27
      omega
    refine ⟨_,rfl,D2,tN * tN,_,?_,s5 _ _ h4,Nat.mul_pos htr htr,?_,?_,?_,fun r hr5=>?_⟩
    · show [V.int ((tN:Int) ^ 2),V.ref D2]=[V.int ((tN * tN:Nat):Int),V.ref D2]
      rw [Int.natCast_mul,Int.pow_succ,Int.pow_succ,Int.pow_zero,Int.one_mul]
    · calc tN * tN < 2 ^ 1000 * 2 ^ 1000:=Nat.mul_lt_mul'' hbt hbt
        _=2 ^ 2000:=by rw [← Nat.pow_add]
        _≤2 ^ 3000:=Nat.pow_le_pow_right (by decide) (by decide)
    · intro f hf
      obtain ⟨v,hv,hf⟩:=List.mem_flatMap.mp hf
      obtain ⟨c1,c2,c3,c4⟩:=hcb v hv
      simp only [List.mem_cons,List.not_mem_nil,or_false] at hf
      rcases hf with rfl | rfl
      · exact ⟨c1,c3⟩
      · exact ⟨c2,c4⟩
    · rw [Km]; omega
    · exact k r _ ((s03.trans s4).trans (s5.trans (Same.new hr5))) Zc
end
end KT
set_option maxHeartbeats 4000000
namespace KT
open PySem L2 Mx
noncomputable def Zeu:Sp:=fun us H Q _=>∃ (m r d a:Addr) (M:List (Option Nat)) (ns ks:List Int) (g:Int→Nat × Nat) (ws:List Nat),us=[.ref m,.ref r,.ref d,.ref a]∧H m=some (.lst (M.map mV))∧Yp H r ns∧TD M ns∧WAt H d ks g∧SwK M ns ks∧(∀ x∈ks,1≤(g x).1∧1≤(g x).2∧(g x).1≤100∧(g x).2≤100)∧H a=some (.lst (ws.map nV))∧ws.length≤100∧Pl M ws ∧
 ∀ p,H p=none→Q (.ref p) (upd H p (tp (wor g M ns ws)))
section
variable {P:Program} {w:World} {K:PySem.W.Frag} {mg:Str→Option Value} {base:Heap} {t:Adr}
theorem Ya:FnScope ["_law_mates","_law_rows_here","_law_worths_here","_law_word","_law_a","_law_b","_law_c","_law_d","_law_k","_law_top","_law_bottom","_law_side"] ["_law_mates","_law_rows_here","_law_worths_here","_law_word"] (Zg Fp):=⟨rfl,rfl,rfl,by decide +kernel,rfl,by decide +kernel,by decide +kernel⟩
theorem Gc (T:Txt w K mg t):FnOk P w K mg base (CXr P w) 2 t.f_l_worth t.d_l_worth ["_law_mates","_law_rows_here","_law_worths_here","_law_word"] Zeu:=by
 refine T.p_l_worth.F.aR Ya (fun cdv A outer s H vs Q E hr h=>?_)
 ·obtain ⟨m,r,d,a,M,ns,ks,g,ws,rfl,hm,hr1,td,wa,sw,bd,ha,hwl,hP,k⟩:=h
  have hu:=Xy hr
  refine ⟨_,(Zd (Zn (i:=4) Ya.nd rfl (Or.inl rfl) Zf)
   (Zd (Zn (i:=5) Ya.nd rfl (Or.inl rfl) Zf)
   (Zd (Zn (i:=6) Ya.nd rfl (Or.inl rfl) Zf)
   (Zd (Zn (i:=7) Ya.nd rfl (Or.inl rfl) Zf)
   (Zd (Wc PassesOwn.never rfl (Xh rfl T.n_range (Za (Zo Zm (by rfl) T.n_len PySem.boot_len (Za (pv 3) Zb)) Zb)) (Zq (i:=8) Ya.nd rfl (Or.inl rfl)) (Zd (Wz (Vk hu (pv 2) (Zv Wj (Zv Zw (pv 1) (Zi Yv (Zv Zw (pv 3) (pv 8) (fun _ _=>rfl)) Zf) (fun _ _=>rfl)) (Zi Zy (Zv Zw (pv 3) (pv 8) (fun _ _=>rfl)) Zf) (fun _ _=>rfl)) (fun _ _=>rfl)) (W0 rfl (Zz (Zq (i:=9) Ya.nd rfl (Or.inl rfl)) (Zz (Zq (i:=10) Ya.nd rfl (Or.inl rfl)) Xk))))
   (Zd (Zn (i:=4) Ya.nd rfl (Or.inl rfl) (Zi X2 (pv 4) (pv 9)))
   (Zd (Zn (i:=6) Ya.nd rfl (Or.inl rfl) (Zi X2 (pv 6) (pv 9)))
   (Zd (Zn (i:=5) Ya.nd rfl (Or.inl rfl) (Zi X2 (pv 5) (pv 10)))
   (Zd (Zn (i:=7) Ya.nd rfl (Or.inl rfl) (Zi X2 (pv 7) (pv 10)))
   (Zd (Zn (i:=11) Ya.nd rfl (Or.inl rfl) (Zv Zw (pv 0) (Zv Zw (pv 3) (pv 8) (fun _ _=>rfl)) (fun _ _=>rfl)))
   (Zh (Z1 (Zt Xq (Zv Zw (pv 3) (Zi Zy (Zi Z0 (pv 8) Zf) (Zo Zm (by rfl) T.n_len PySem.boot_len (Za (pv 3) Zb))) (fun _ _=>rfl)) (Zi Z0 (Zi Uz (pv 11) (Zi Zy (pv 11) Zf)) (Zi Zy (Zi Z0 (pv 11) Zf) Zf)) (Zs _)) (Zd (Zn (i:=4) Ya.nd rfl (Or.inl rfl) (Zi Z0 (pv 4) (pv 5)))
   (Zh (Zn (i:=6) Ya.nd rfl (Or.inl rfl) (Zi Z0 (pv 6) (pv 7))))) (Zd (Zn (i:=5) Ya.nd rfl (Or.inl rfl) (Zi Z0 (pv 4) (pv 5)))
   (Zh (Zn (i:=7) Ya.nd rfl (Or.inl rfl) (Zi Z0 (pv 6) (pv 7))))))))))))))
   (Zh (Zl (pcT (Zcd T) hr T.p_l_low (Za (Zi X2 (Zi Z0 (pv 4) (pv 7)) (Zi Z0 (pv 4) (pv 7))) (Za (Zi Uz (Zi X2 (pv 4) (pv 7)) (Zi X2 (pv 5) (pv 6))) Zb)))))))))),?_⟩
  have hMl:=td.len
  have h0:0 < ws.length:=List.length_pos_iff.mpr hP.ne
  have inK:∀ q∈ws,ns.getD q 0∈ks∧∃ y,ns[q]?=some y∧ns.getD q 0=y:=fun q hq=>by
   obtain ⟨m,hm⟩:=hP.has q hq
   have hlt:q < ns.length:=by rw [hMl]; exact (List.getElem?_eq_some_iff.mp hm).1
   have e:=List.getElem?_eq_getElem hlt
   have e2:ns.getD q 0=ns[q]:=by rw [List.getD_eq_getElem?_getD,e]; rfl
   exact ⟨by rw [e2]; exact (sw.mem _).mpr ⟨q,m,hm,e⟩,_,e,e2⟩
  have hb:∀ q∈wz g M ns ws,q.1.1≤100∧q.1.2≤100:=Zl4 fun p hp=>(bd _ (inK p hp).1).2.2
  have hp1:∀ q∈wz g M ns ws,1≤q.1.1∧1≤q.1.2:=Za0 fun p hp=>⟨(bd _ (inK p hp).1).1,(bd _ (inK p hp).1).2.1⟩
  have hzl:=Zkz (h:=g) (M:=M) (ns:=ns) h0
  have cap:∀ i,((wz g M ns ws).take i).length≤100:=fun i=>by rw [List.length_take]; omega
  have bnd:∀ i,(((wz g M ns ws).take i).foldl stp one).a < 2 ^ 1000∧(((wz g M ns ws).take i).foldl stp one).b < 2 ^ 1000∧(((wz g M ns ws).take i).foldl stp one).c < 2 ^ 1000∧(((wz g M ns ws).take i).foldl stp one).d < 2 ^ 1000:=fun i=>by
   have hbnd:=Og (k:=100) ((wz g M ns ws).take i) one 1 (fun q hq=>hb q (List.mem_of_mem_take hq)) (by decide)
   have hb2:1 * (2 * 100) ^ ((wz g M ns ws).take i).length < 2 ^ 1000:=by
    rw [Nat.one_mul]
    exact Nat.lt_of_le_of_lt (Nat.pow_le_pow_right (by decide) (cap i)) (by decide +kernel)
   exact ⟨Nat.lt_of_le_of_lt hbnd.1 hb2,Nat.lt_of_le_of_lt hbnd.2.1 hb2,Nat.lt_of_le_of_lt hbnd.2.2.1 hb2,Nat.lt_of_le_of_lt hbnd.2.2.2 hb2⟩
  refine Zk fun nxC hnxC=>?_
  refine hnxC _ _ ?_
  refine Zk fun nxC hnxC=>?_
  refine hnxC _ _ ?_
  refine Zk fun nxC hnxC=>?_
  refine hnxC _ _ ?_
  refine Zk fun nxC hnxC=>?_
  refine hnxC _ _ ?_
  try dsimp only [Zp]
  show tSeq (tFor _ _ _) _ _ _ _
  refine Yg (fun σ H'=>H'=H∧∃ v8 v9 v10 v11,σ=[some (.ref m),some (.ref r),some (.ref d),some (.ref a),some (.int (tab (wz g M ns ws)).a),some (.int (tab (wz g M ns ws)).b),some (.int (tab (wz g M ns ws)).c),some (.int (tab (wz g M ns ws)).d),v8,v9,v10,v11]) (fun nx hnx=>?_) ?_
  ·refine ⟨_,rfl,a,_,rfl,.inl (SqL.of ha),_,rfl,by omega,by rw [List.length_map]; omega,?_⟩
   have eL:(((ws.map nV).length:Nat):Int).toNat=ws.length:=by simp
   rw [eL]
   refine Wy (n:=ws.length) (fun i σ H'=>H'=H∧∃ v8 v9 v10 v11,σ=[some (.ref m),some (.ref r),some (.ref d),some (.ref a),some (.int (((wz g M ns ws).take i).foldl stp one).a),some (.int (((wz g M ns ws).take i).foldl stp one).b),some (.int (((wz g M ns ws).take i).foldl stp one).c),some (.int (((wz g M ns ws).take i).foldl stp one).d),v8,v9,v10,v11]) ⟨rfl,_,_,_,_,rfl⟩ ?_ ?_
   ·rintro i σ H1 hi ⟨rfl,v8,v9,v10,v11,rfl⟩
    dsimp only [Zp]
    rw [Int.zero_add]
    have hq:=List.getElem?_eq_getElem hi
    have hi2:(i + 1) % ws.length < ws.length:=Nat.mod_lt _ h0
    have hn:=List.getElem?_eq_getElem hi2
    generalize ws[i]=q at hq
    generalize ws[(i + 1) % ws.length]=nq at hn
    obtain ⟨kq,y,hy,ey⟩:=inK q (List.mem_of_getElem? hq)
    obtain ⟨mt,hmt⟩:=hP.has q (List.mem_of_getElem? hq)
    obtain ⟨us,qr,w1,w2,w3',w4⟩:=Zby hr1 hy
    obtain ⟨ad,e1,e2⟩:=id wa
    have g3:=Zfw (.inl e1) kq
    have tq:=e2 _ kq
    have bq:=bd _ kq
    rw [ey] at g3 tq bq
    have hat:atI (ws.map nV) (((i:Int) + 1) % (((ws.map nV).length:Nat):Int))=some (nV nq):=by
     rw [List.length_map,show ((i:Int) + 1) % (ws.length:Int)=(((i + 1) % ws.length:Nat):Int) by rw [Int.natCast_emod]; rfl]
     exact Yk hn
    have hzi:(wz g M ns ws)[i]?=some (g y,tuB (letS M q nq)):=by
     unfold wz
     rw [List.getElem?_zip_eq_some]
     refine ⟨?_,Zji hq hn⟩
     unfold crL
     rw [List.getElem?_map,hq]
     show some (g (ns.getD q 0))=some (g y)
     rw [ey]
    have hst:((wz g M ns ws).take (i + 1)).foldl stp one=stp (((wz g M ns ws).take i).foldl stp one) (g y,tuB (letS M q nq)):=by
     rw [List.take_add_one,hzi,List.foldl_append]; rfl
    rw [hst]
    have bi:=bnd i
    generalize ((wz g M ns ws).take i).foldl stp one=X at bi ⊢
    obtain ⟨b1,b2,b3,b4⟩:=bi
    have up:∀ n:Nat,n < 2 ^ 1000→n < 2 ^ 3000:=fun n hn=>Nat.lt_of_lt_of_le hn (Nat.pow_le_pow_right (by decide) (by decide))
    have m5:(g y).1 < 2 ^ 3000:=Nat.lt_of_le_of_lt bq.2.2.1 (by decide +kernel)
    have m6:(g y).2 < 2 ^ 3000:=Nat.lt_of_le_of_lt bq.2.2.2 (by decide +kernel)
    have m1:=up _ b1
    have m2:=up _ b2
    have m3:=up _ b3
    have m4:=up _ b4
    clear bnd cap hb hp1 hst hzi
    refine Zk fun nxC hnxC=>?_
    refine ⟨_,rfl,_,rfl,_,rfl,_,rfl,a,_,_,_,rfl,rfl,SqL.of ha,Yk hq,_,_,rfl,rfl,⟨by decide,by decide⟩,r,_,_,_,rfl,rfl,SqL.of w1,(by rw [div3]; exact Yk w2),_,rfl,_,rfl,a,_,_,_,rfl,rfl,SqL.of ha,Yk hq,_,_,rfl,rfl,(by show (0:Int) < 3; decide),qr,_,_,_,rfl,rfl,SqT.of w3',(by rw [mod3]; exact X4 w4),d,_,rfl,g3,ad y,_,rfl,SqT.of tq,rfl,_,_,rfl,_,_,rfl,rfl,?_⟩
    refine hnxC _ _ ?_
    try dsimp only [Zp]
    refine Zk fun nxC hnxC=>?_
    refine ⟨_,rfl,_,rfl,_,_,rfl,rfl,mulS m1 m5,?_⟩
    refine hnxC _ _ ?_
    refine Zk fun nxC hnxC=>?_
    refine ⟨_,rfl,_,rfl,_,_,rfl,rfl,mulS m3 m5,?_⟩
    refine hnxC _ _ ?_
    refine Zk fun nxC hnxC=>?_
    refine ⟨_,rfl,_,rfl,_,_,rfl,rfl,mulS m2 m6,?_⟩
    refine hnxC _ _ ?_
    refine Zk fun nxC hnxC=>?_
    refine ⟨_,rfl,_,rfl,_,_,rfl,rfl,mulS m4 m6,?_⟩
    refine hnxC _ _ ?_
    refine Zk fun nxC hnxC=>?_
    refine ⟨_,rfl,_,rfl,_,rfl,a,_,_,_,rfl,rfl,SqL.of ha,Yk hq,m,_,_,_,rfl,rfl,SqL.of hm,Yk hmt,?_⟩
    refine hnxC _ _ ?_
    try dsimp only [Zp]
    refine ⟨_,rfl,_,rfl,_,_,rfl,rfl,_,rfl,a,_,rfl,.inl (SqL.of ha),_,_,rfl,rfl,(by rw [List.length_map]; omega),a,_,_,_,rfl,rfl,SqL.of ha,hat,_,rfl,_,rfl,_,_,rfl,rfl,(by show (0:Int) < 3; decide),_,_,rfl,rfl,_,rfl,_,_,rfl,rfl,_,_,rfl,rfl,(by show (0:Int) < 3; decide),_,_,rfl,rfl,rfl,_,rfl,?_⟩
    have e:letS M q nq=if nq=aftN mt then Str.ofString "R" else Str.ofString "L":=by unfold letS; rw [List.getD_eq_getElem?_getD,hmt]; rfl
    show if decide (V.int (nq:Int)=V.int ((mt:Int) - (mt:Int) % 3 + ((mt:Int) + 1) % 3))=true then _ else _
    rw [Zdo,dN,e]
    by_cases z:nq=aftN mt
    ·rw [decide_eq_true z,if_pos z]
     refine iteT ?_
     refine Zk fun nxC hnxC=>?_
     refine ⟨_,rfl,_,rfl,_,_,rfl,rfl,?_⟩
     refine hnxC _ _ ?_
     refine ⟨_,rfl,_,rfl,_,_,rfl,rfl,?_⟩
     exact ⟨rfl,_,_,_,_,rfl⟩
    ·rw [decide_eq_false z,if_neg z]
     refine iteF ?_
     refine Zk fun nxC hnxC=>?_
     refine ⟨_,rfl,_,rfl,_,_,rfl,rfl,?_⟩
     refine hnxC _ _ ?_
     refine ⟨_,rfl,_,rfl,_,_,rfl,rfl,?_⟩
     refine ⟨rfl,some (.int i),some (.int (g y).1),some (.int (g y).2),some (.int mt),?_⟩
     have f1:(((X.b * (g y).2 + X.a * (g y).1:Nat)):Int)=(X.a:Int) * (g y).1 + X.b * (g y).2:=by rw [Int.natCast_add,Int.natCast_mul,Int.natCast_mul,Int.add_comm]
     have f2:(((X.d * (g y).2 + X.c * (g y).1:Nat)):Int)=(X.c:Int) * (g y).1 + X.d * (g y).2:=by rw [Int.natCast_add,Int.natCast_mul,Int.natCast_mul,Int.add_comm]
     have hT:tuB (Str.ofString "L")=true:=by decide
     rw [hT]
     show _=[_,_,_,_,_,some (V.int ((X.b * (g y).2 + X.a * (g y).1:Nat):Int)),_,some (V.int ((X.d * (g y).2 + X.c * (g y).1:Nat):Int)),_,_,_,_]
     rw [f1,f2]
     rfl
   ·rintro σ H1 ⟨rfl,v8,v9,v10,v11,rfl⟩
    rw [← hzl,List.take_length]
    exact hnx _ _ ⟨rfl,_,_,_,_,rfl⟩
  ·rintro σ H1 ⟨rfl,v8,v9,v10,v11,rfl⟩
   have bi:=bnd ws.length
   rw [← hzl,List.take_length] at bi
   have dt0:=Zds (wz g M ns ws)
   have tp0:=Za4 hp1
   have dp0:=Gp hp1
   unfold wor at k
   unfold tr at k tp0
   have bi:(tab (wz g M ns ws)).a < 2 ^ 1000∧(tab (wz g M ns ws)).b < 2 ^ 1000∧(tab (wz g M ns ws)).c < 2 ^ 1000∧(tab (wz g M ns ws)).d < 2 ^ 1000:=bi
   clear bnd cap hb hp1 hzl
   generalize tab (wz g M ns ws)=X at *
   generalize dt (wz g M ns ws)=D at *
   obtain ⟨b1,b2,b3,b4⟩:=bi
   have up:∀ n:Nat,n < 2 ^ 1000→n < 2 ^ 3000:=fun n hn=>Nat.lt_of_lt_of_le hn (Nat.pow_le_pow_right (by decide) (by decide))
   have s1:X.a + X.d < 2 ^ 1001:=by rw [Nat.pow_succ]; omega
   have ok1:IntMulOk ((X.a:Int) + X.d) ((X.a:Int) + X.d):=by
    have:=mulS (m:=X.a + X.d) (n:=X.a + X.d) (Nat.lt_of_lt_of_le s1 (Nat.pow_le_pow_right (by decide) (by decide))) (Nat.lt_of_lt_of_le s1 (Nat.pow_le_pow_right (by decide) (by decide)))
    rw [Int.natCast_add] at this
    exact this
   refine ⟨_,rfl,_,rfl,_,_,rfl,rfl,_,rfl,_,rfl,_,_,rfl,rfl,_,_,rfl,rfl,ok1,_,rfl,_,rfl,_,_,rfl,rfl,mulS (up _ b1) (up _ b4),_,rfl,_,rfl,_,_,rfl,rfl,mulS (up _ b2) (up _ b3),_,_,rfl,rfl,?_⟩
   refine ⟨(X.a + X.d) * (X.a + X.d),D,?_,Nat.mul_pos tp0 tp0,dp0,Gg (Nat.mul_pos tp0 tp0) ?_,k⟩
   ·show [V.int (((X.a:Int) + X.d) * ((X.a:Int) + X.d)),V.int ((X.a:Int) * X.d - X.b * X.c)]=_
    rw [Int.natCast_mul,Int.natCast_add,show (X.a:Int) * X.d - X.b * X.c=D by
     rw [← Int.natCast_mul,← Int.natCast_mul,dt0,Int.natCast_add]
     omega]
   ·calc (X.a + X.d) * (X.a + X.d) < 2 ^ 1001 * 2 ^ 1001:=Nat.mul_lt_mul'' s1 s1
     _=2 ^ 2002:=by rw [← Nat.pow_add]
     _≤2 ^ 8900:=Nat.pow_le_pow_right (by decide) (by decide)
end
end KT
set_option maxHeartbeats 4000000
namespace KT
open PySem L2
theorem Xg {H:Hp} {p:Addr} {a b:HO}:upd (upd H p a) p b=upd H p b:=by
 funext c
 by_cases z:c=p
 ·subst z; rw [Zc,Zc]
 ·rw [Ze z,Ze z,Ze z]
noncomputable def Y6 (te th po wo:V):List (Str × V):=putF "worths" wo (putF "pools" po (putF "threads" th (putF "tent" te [])))
noncomputable def Yq (be sc st un:Addr):List (Str × V):=putF "undone" (.ref un) (putF "standing" (.ref st) (putF "scene" (.ref sc) (putF "began" (.ref be) [])))
structure HallNew (CT CS CH:Addr) (H:Hp) (p:Addr) (M:List (Option Nat)) (ns:List Int) (dx be sc st un dxs th po wo:Addr) (ks:List Int):Prop where
 ins:H p=some (.ins CH dx (Yq be sc st un))
 tent:Yb CT H be M ns
 scn:H sc=some (.ins CS dxs (Y6 (.ref be) (.ref th) (.ref po) (.ref wo)))
 thr:H th=some (.dK [])
 poo:H po=some (.dK [])
 wor:WAt H wo ks fun _=>(1,1)
 sw:SwK M ns ks
 sta:H st=some (.lst [])
 und:H un=some (.lst [])
noncomputable def OthP (p:Addr) (H H':Hp):Prop:=∀ b u,b≠p→H b=some u→H' b=some u
theorem OthP.trans {p:Addr} {H H1 H':Hp} (s:OthP p H H1) (s1:OthP p H1 H'):OthP p H H':=fun b u hb e=>s1 b u hb (s b u hb e)
theorem OthP.of {p:Addr} {H H':Hp} (s:Same H H'):OthP p H H':=fun b u _ e=>s b u e
theorem OthP.upd {p:Addr} {H:Hp} {o:HO}:OthP p H (upd H p o):=fun b u hb e=>by rw [Ze hb]; exact e
theorem Y9 {H H':Hp} {p C dx:Addr} {fs:List (Str × V)} (hp:H p=some (.ins C dx fs)) (s:OthP p H H') {b:Addr} {u:HO} (e:H b=some u) (hu:∀ C dx fs,u≠.ins C dx fs):H' b=some u :=
 s b u (fun z=>by rw [z,hp] at e; exact hu _ _ _ (Option.some.inj e).symm) e
theorem Yp.oth {H H':Hp} {p C dx r:Addr} {fs:List (Str × V)} {ns:List Int} (h:Yp H r ns) (hp:H p=some (.ins C dx fs)) (s:OthP p H H'):Yp H' r ns:=by
 obtain ⟨ts,h1,h2,h3⟩:=h
 exact ⟨ts,Y9 hp s h1 (fun _ _ _ z=>nomatch z),h2,fun k q e=>Y9 hp s (h3 k q e) (fun _ _ _ z=>nomatch z)⟩
theorem Yb.oth {C0:Addr} {H H':Hp} {p C dx x:Addr} {fs:List (Str × V)} {M:List (Option Nat)} {ns:List Int} (h:Yb C0 H x M ns) (hp:H p=some (.ins C dx fs)) (hx:x≠p) (s:OthP p H H'):Yb C0 H' x M ns:=by
 obtain ⟨dt,cl,na,sp,mt,o,f,b⟩:=h
 exact ⟨dt,cl,na,sp,mt,o,f,s _ _ hx b.ins,b.rows.oth hp s,Y9 hp s b.names (fun _ _ _ z=>nomatch z),Y9 hp s b.spots (fun _ _ _ z=>nomatch z),Y9 hp s b.mates (fun _ _ _ z=>nomatch z),fun y hy=>Y9 hp s (b.at' y hy) (fun _ _ _ z=>nomatch z)⟩
theorem WAt.oth {H H':Hp} {p C dx d:Addr} {fs:List (Str × V)} {ks:List Int} {g:Int→Nat × Nat} (h:WAt H d ks g) (hp:H p=some (.ins C dx fs)) (s:OthP p H H'):WAt H' d ks g:=by
 obtain ⟨ad,h1,h2⟩:=h
 exact ⟨ad,Y9 hp s h1 (fun _ _ _ z=>nomatch z),fun x hx=>Y9 hp s (h2 x hx) (fun _ _ _ z=>nomatch z)⟩
noncomputable def Zag (C:Addr):Sp:=fun vs H Q _=>∃ (p dx:Addr) (te th po wo:V),vs=[.ref p,te,th,po,wo]∧H p=some (.ins C dx [])∧Q .non (upd H p (.ins C dx (Y6 te th po wo)))
noncomputable def Zbc (CT CS CH:Addr):Sp:=fun vs H Q _=>∃ (p r dx:Addr) (M:List (Option Nat)) (ns:List Int),vs=[.ref p,.ref r]∧H p=some (.ins CH dx [])∧Yp H r ns∧TD M ns∧ns.length < 64 ∧
 ∀ (H':Hp),OthP p H H'→(∃ be sc st un dxs th po wo ks,HallNew CT CS CH H' p M ns dx be sc st un dxs th po wo ks∧H st=none∧H un=none∧st≠un)→Q .non H'
section
variable {P:Program} {w:World} {K:PySem.W.Frag} {mg:Str→Option Value} {base:Heap} {t:Adr}
theorem Zap:FnScope ["self","tent","threads","pools","worths"] ["self","tent","threads","pools","worths"] (Zg Up):=⟨rfl,rfl,rfl,by decide +kernel,rfl,by decide +kernel,by decide +kernel⟩
theorem Wv (T:Txt w K mg t):FnOk P w K mg base (CXr P w) 1 t.f_Scene_init t.d_Scene_init ["self","tent","threads","pools","worths"] (Zag t.C_Scene):=by
 refine T.p_Scene_init.F.aR Zap (fun cdv A outer s H vs Q E hr h=>?_)
 ·obtain ⟨p,dx,te,th,po,wo,rfl,hp,k⟩:=h
  refine ⟨_,(Zd (Xe (pv 0) (pv 1) rfl)
   (Zd (Xe (pv 0) (pv 2) rfl)
   (Zd (Xe (pv 0) (pv 3) rfl)
   (Zh (Xe (pv 0) (pv 4) rfl))))),?_⟩
  have l1:=Y3 "tent" te []
  have l2:=Y3 "threads" th (putF "tent" te [])
  have l3:=Y3 "pools" po (putF "threads" th (putF "tent" te []))
  rw [List.length_nil] at l1
  refine ⟨_,rfl,_,rfl,p,_,dx,_,rfl,hp,T.cl_Scene,T.a_Scene_tent,by decide,?_⟩
  refine ⟨_,rfl,_,rfl,p,_,dx,_,rfl,Zc,T.cl_Scene,T.a_Scene_threads,by omega,?_⟩
  refine ⟨_,rfl,_,rfl,p,_,dx,_,rfl,Zc,T.cl_Scene,T.a_Scene_pools,by omega,?_⟩
  refine ⟨_,rfl,_,rfl,p,_,dx,_,rfl,Zc,T.cl_Scene,T.a_Scene_worths,by omega,?_⟩
  rw [Xg,Xg,Xg]
  exact k
theorem Zbm:FnScope ["self","rows"] ["self","rows"] (Zg Oz):=⟨rfl,rfl,rfl,by decide +kernel,rfl,by decide +kernel,by decide +kernel⟩
theorem Zch (T:Txt w K mg t):FnOk P w K mg base (CXr P w) 5 t.f_Hall_init t.d_Hall_init ["self","rows"] (Zbc t.C_Tent t.C_Scene t.C_Hall):=by
 refine T.p_Hall_init.F.aR Zbm (fun cdv A outer s H vs Q E hr h=>?_)
 ·obtain ⟨p,r,dx,M,ns,rfl,hp,hr1,td,h64,k⟩:=h
  refine ⟨_,(Zd (Xe (pv 0) (Qa T.mk_Tent (Zcf T) (hr.mono (by decide)) rfl T.gC_Tent T.p_Tent_init.b .nil Z2 (Za (pv 1) Zb)) rfl)
   (Zd (Xe (pv 0) (Qa T.mk_Scene (Wv T) (hr.mono (by decide)) rfl T.gC_Scene T.p_Scene_init.b .nil Z2 (Za (Zr (pv 0) rfl) (Za Vx (Za Vx (Za (pcT (G9 T) hr T.p_even_worths (Za (Zr (pv 0) rfl) Zb)) Zb))))) rfl)
   (Zd (Xe (pv 0) (Y8 Zb) rfl)
   (Zh (Xe (pv 0) (Y8 Zb) rfl))))),?_⟩
  refine ⟨_,rfl,?_⟩
  intro x dt hx hdt hne
  have s0:Same H (upd (upd H dt (.own x)) x (.ins t.C_Tent dt [])):=Same.add (Same.new hdt) hx
  refine ⟨x,r,dt,M,ns,rfl,Zc,hr1.same s0,td,by omega,fun H1 old ta=>⟨rfl,?_⟩⟩
  have s1:Same H H1:=fun b u e=>old b u (Zj e hx) (s0 b u e)
  refine ⟨_,rfl,p,_,dx,_,rfl,s1 _ _ hp,T.cl_Hall,T.a_Hall_began,by decide,?_⟩
  have l1:=Y3 "began" (.ref x) []
  rw [List.length_nil] at l1
  have hp1:=s1 _ _ hp
  have nx:x≠p:=fun z=>by rw [z,hp] at hx; cases hx
  have o2:OthP p H1 (upd H1 p (.ins t.C_Hall dx (putF "began" (.ref x) []))):=.upd
  have hp2:(upd H1 p (.ins t.C_Hall dx (putF "began" (.ref x) []))) p=some (.ins t.C_Hall dx (putF "began" (.ref x) [])):=Zc
  have ta2:=ta.oth hp1 nx o2
  have o02:OthP p H _:=(OthP.of s1).trans o2
  generalize upd H1 p (.ins t.C_Hall dx (putF "began" (.ref x) []))=H2 at o2 hp2 ta2 o02 ⊢
  clear o2 ta old s1 s0 hp1 hdt hne hr1
  have lk1:(putF "began" (.ref x) []).lookup ("began":Str)=some (.ref x):=by rw [Z5,if_pos rfl]
  refine ⟨_,rfl,p,_,dx,_,_,rfl,hp2,T.cl_Hall,T.a_Hall_began,lk1,?_⟩
  intro th hth po hpo
  obtain ⟨hpt,hpo'⟩:=Xc hpo
  have s3:Same H2 (upd (upd H2 th (.dK [])) po (.dK [])):=Same.add (Same.new hth) hpo'
  have ht3:(upd (upd H2 th (.dK [])) po (.dK [])) th=some (.dK []):=by rw [Ze (Ne.symm hpt),Zc]
  have hq3:(upd (upd H2 th (.dK [])) po (.dK [])) po=some (.dK []):=Zc
  generalize upd (upd H2 th (.dK [])) po (.dK [])=H3 at s3 ht3 hq3 ⊢
  refine ⟨_,rfl,p,_,dx,_,_,rfl,s3 _ _ hp2,T.cl_Hall,T.a_Hall_began,lk1,x,M,ns,rfl,ta2.same s3,td,h64,fun wo H4 ks s4 hwo w4 sw=>?_⟩
  intro sc dxs hsc hdxs hne2
  have s5:Same H4 (upd (upd H4 dxs (.own sc)) sc (.ins t.C_Scene dxs [])):=Same.add (Same.new hdxs) hsc
  refine ⟨sc,dxs,_,_,_,_,rfl,Zc,rfl,?_⟩
  rw [Xg]
  have s6:Same H4 (upd (upd H4 dxs (.own sc)) sc (.ins t.C_Scene dxs (Y6 (.ref x) (.ref th) (.ref po) (.ref wo)))):=Same.add (Same.new hdxs) hsc
  have hc6:(upd (upd H4 dxs (.own sc)) sc (.ins t.C_Scene dxs (Y6 (.ref x) (.ref th) (.ref po) (.ref wo)))) sc=some (.ins t.C_Scene dxs (Y6 (.ref x) (.ref th) (.ref po) (.ref wo))):=Zc
  generalize upd (upd H4 dxs (.own sc)) sc (.ins t.C_Scene dxs (Y6 (.ref x) (.ref th) (.ref po) (.ref wo)))=H6 at s6 hc6 ⊢
  clear s5
  have s46:=s4.trans s6
  have s26:=s3.trans s46
  have hp6:=s26 _ _ hp2
  have nsc:sc≠p:=fun z=>by rw [z,(s3.trans s4) _ _ hp2] at hsc; cases hsc
  refine ⟨_,rfl,p,_,dx,_,rfl,hp6,T.cl_Hall,T.a_Hall_scene,by omega,?_⟩
  have l2:=Y3 "scene" (.ref sc) (putF "began" (.ref x) [])
  have o7:OthP p H6 (upd H6 p (.ins t.C_Hall dx (putF "scene" (.ref sc) (putF "began" (.ref x) [])))):=.upd
  have hp7:(upd H6 p (.ins t.C_Hall dx (putF "scene" (.ref sc) (putF "began" (.ref x) [])))) p=some (.ins t.C_Hall dx (putF "scene" (.ref sc) (putF "began" (.ref x) []))):=Zc
  have ta7:=(ta2.same s26).oth hp6 nx o7
  have ht7:=Y9 hp6 o7 (s46 _ _ ht3) (fun _ _ _ z=>nomatch z)
  have hq7:=Y9 hp6 o7 (s46 _ _ hq3) (fun _ _ _ z=>nomatch z)
  have w7:=(w4.same s6).oth hp6 o7
  have hc7:=o7 _ _ nsc hc6
  have o07:OthP p H _:=(o02.trans (.of s26)).trans o7
  generalize upd H6 p (.ins t.C_Hall dx (putF "scene" (.ref sc) (putF "began" (.ref x) [])))=H7 at o7 hp7 ta7 ht7 hq7 w7 hc7 o07 ⊢
  clear o7 hp6 s26 s46 s6 hc6 s4 w4 s3 ht3 hq3 ta2 hp2 o02 hth hpo hpo' hwo hsc hdxs
  refine ⟨Nat.zero_le _,fun st hst=>?_⟩
  have hst0:H st=none:=by
   cases e:H st with
   | none=>rfl
   | some u =>
    rw [o07 _ _ (fun z=>by rw [z,hp7] at hst; cases hst) e] at hst
    cases hst
  have s8:Same H7 (upd H7 st (.lst [])):=Same.new hst
  have hs8:(upd H7 st (.lst [])) st=some (.lst []):=Zc
  generalize upd H7 st (.lst [])=H8 at s8 hs8 ⊢
  have hp8:=s8 _ _ hp7
  refine ⟨_,rfl,p,_,dx,_,rfl,hp8,T.cl_Hall,T.a_Hall_standing,by omega,?_⟩
  have l3:=Y3 "standing" (.ref st) (putF "scene" (.ref sc) (putF "began" (.ref x) []))
  have o9:OthP p H8 (upd H8 p (.ins t.C_Hall dx (putF "standing" (.ref st) (putF "scene" (.ref sc) (putF "began" (.ref x) []))))):=.upd
  have hp9:(upd H8 p (.ins t.C_Hall dx (putF "standing" (.ref st) (putF "scene" (.ref sc) (putF "began" (.ref x) []))))) p=some (.ins t.C_Hall dx (putF "standing" (.ref st) (putF "scene" (.ref sc) (putF "began" (.ref x) [])))):=Zc
  have ta9:=(ta7.same s8).oth hp8 nx o9
  have ht9:=Y9 hp8 o9 (s8 _ _ ht7) (fun _ _ _ z=>nomatch z)
  have hq9:=Y9 hp8 o9 (s8 _ _ hq7) (fun _ _ _ z=>nomatch z)
  have hs9:=Y9 hp8 o9 hs8 (fun _ _ _ z=>nomatch z)
  have w9:=(w7.same s8).oth hp8 o9
  have hc9:=o9 _ _ nsc (s8 _ _ hc7)
  have o09:OthP p H _:=(o07.trans (.of s8)).trans o9
  generalize upd H8 p (.ins t.C_Hall dx (putF "standing" (.ref st) (putF "scene" (.ref sc) (putF "began" (.ref x) []))))=H9 at o9 hp9 ta9 ht9 hq9 hs9 w9 hc9 o09 ⊢
  clear o9 hp8 s8 hs8 hp7 ta7 ht7 hq7 w7 hc7 o07 hst
  refine ⟨Nat.zero_le _,fun un hun=>?_⟩
  have hun0:H un=none:=by
   cases e:H un with
   | none=>rfl
   | some u =>
    rw [o09 _ _ (fun z=>by rw [z,hp9] at hun; cases hun) e] at hun
    cases hun
  have hsu:st≠un:=fun z=>by rw [← z,hs9] at hun; cases hun
  have sA:Same H9 (upd H9 un (.lst [])):=Same.new hun
  have hsA:(upd H9 un (.lst [])) un=some (.lst []):=Zc
  generalize upd H9 un (.lst [])=HA at sA hsA ⊢
  have hpA:=sA _ _ hp9
  refine ⟨_,rfl,p,_,dx,_,rfl,hpA,T.cl_Hall,T.a_Hall_undone,by omega,?_⟩
  have oB:OthP p HA (upd HA p (.ins t.C_Hall dx (Yq x sc st un))):=.upd
  refine k _ ((o09.trans (.of sA)).trans oB) ⟨x,sc,st,un,dxs,th,po,wo,ks,⟨Zc,(ta9.same sA).oth hpA nx oB,oB _ _ nsc (sA _ _ hc9),Y9 hpA oB (sA _ _ ht9) (fun _ _ _ z=>nomatch z),Y9 hpA oB (sA _ _ hq9) (fun _ _ _ z=>nomatch z),(w9.same sA).oth hpA oB,sw,Y9 hpA oB (sA _ _ hs9) (fun _ _ _ z=>nomatch z),Y9 hpA oB hsA (fun _ _ _ z=>nomatch z)⟩,hst0,hun0,hsu⟩
end
end KT
set_option maxHeartbeats 4000000
namespace KT
open PySem L2
noncomputable def figS (i:Int):Str:=Txt.join (Str.ofString "") [(Str.ofString (toString i))]
noncomputable def Zey:Sp:=fun vs H Q _=>∃ i:Int,vs=[.int i]∧0≤i∧i < 1000000000000000000000000000000000000000000000000000000000000∧∀ H',Same H H'→Q (.str (figS i)) H'
noncomputable def mdL (x y:Str):List Bool:=x.cps.toList.map fun c=>Txt.contains y ⟨#[c]⟩
noncomputable def Zes:Sp:=fun vs H Q _=>∃ x y:Str,vs=[.str x,.str y]∧x.cps.all (· < 128)=true∧x.cps.size≤900∧∀ H',Same H H'→Q (.bl ((mdL x y).all id)) H'
theorem Zm2:(10:Int) ^ 60=1000000000000000000000000000000000000000000000000000000000000:=by decide
theorem Zl2:(2:Nat) ^ 200=1606938044258990275541962092341162602522202993782792835301376:=by decide
theorem Fd {i:Int} (h0:0≤i) (h1:i < 1000000000000000000000000000000000000000000000000000000000000):(Str.ofString (toString i)).length≤60:=PyProof.Rows.toString_length_le h0 (by decide) (by rw [Zm2]; exact h1)
theorem Zin {x:Str} {g:TG} {tt:TT} {tb:TB} {R:St→Hp→Prop} {σ:St} {H:Hp} (Pv:Nat→St→Hp→Prop) (h0:Pv 0 σ H)
  (hs:∀ (i:Nat) c σ H,x.cps[i]?=some c→Pv i σ H→g (.str ⟨#[c]⟩) σ H fun σ2 H2=>tt σ2 H2 fun b H3=>if b=true then tb σ2 H3 (Pv (i + 1)) else Pv (i + 1) σ2 H3) (hd:∀ σ H,Pv x.cps.size σ H→R σ H):Wg (Its x) g tt tb R σ H:=by
 refine ⟨fun i m σ H=>m=x.cps.size - i∧i≤x.cps.size∧Pv i σ H,⟨x.cps.size,by simp,Nat.zero_le _,h0⟩,?_⟩
 rintro i m σ H ⟨rfl,hi,p⟩
 by_cases hlt:i < x.cps.size
 ·refine .inr ⟨hlt,Pv (i + 1),fun σ' H' p'=>⟨x.cps.size - (i + 1),by omega,rfl,hlt,p'⟩,fun y H' z=>?_⟩
  obtain ⟨e,c,hc,ec⟩:=z
  subst e ec
  exact hs i c σ _ hc p
 ·have e:i=x.cps.size:=by omega
  subst e
  exact .inl ⟨Nat.le_refl _,hd σ H p⟩
section
variable {P:Program} {w:World} {K:PySem.W.Frag} {mg:Str→Option Value} {base:Heap} {t:Adr}
theorem Vt:FnScope ["number","parts"] ["number"] (Zg Fv):=⟨rfl,rfl,rfl,by decide +kernel,rfl,by decide +kernel,by decide +kernel⟩
theorem Zfb (T:Txt w K mg t):FnOk P w K mg base (CXr P w) 1 t.f_figures t.d_figures ["number"] Zey:=by
 refine T.p_figures.F.aR Vt (fun cdv A outer s H vs Q E hr h=>?_)
 ·obtain ⟨i,rfl,h0,h1,k⟩:=h
  have hu:=Xy hr
  refine ⟨_,(Zd (Zn (i:=1) Vt.nd rfl (Or.inl rfl) (Y8 Zb))
   (Zd (Jg PassesOwn.never (Zt Zja (pv 0) (Ji (v:=.int 1000000000000000000000000000000000000000000000000000000000000) rfl T.c_PART ⟨_,rfl⟩) (Zs _)) (Zd Zh7
   (Zh (Zb1 (i:=0) Vt.nd rfl (Or.inl rfl) (Ji (v:=.int 1000000000000000000000000000000000000000000000000000000000000) rfl T.c_PART ⟨_,rfl⟩) Zcr))))
   (Zd (Z8 (Wf PySem.F.plainAttrs_list PySem.F.slot_list_append PySem.F.type_list_append Xa (pv 1) (Za (Yx Zc1 (by rfl) T.n_str PySem.Pv.boot_str (Za (pv 0) Zb)) Zb)))
   (Zh (Zl (Ze5 rfl T.n_reversed (by rfl) Z4 (Za (pv 1) Zb))))))),?_⟩
  refine Zk fun nxC hnxC=>?_
  refine ⟨Nat.zero_le _,fun p hp=>?_⟩
  refine hnxC _ _ ?_
  have s1:Same H (upd H p (.lst [])):=Same.new hp
  have h2:(upd H p (.lst [])) p=some (.lst []):=Zc
  generalize upd H p (.lst [])=H1 at s1 h2 ⊢
  try dsimp only [Zp]
  refine Yg (fun σ H'=>σ=[some (.int i),some (.ref p)]∧H'=H1) (fun nx hnx=>?_) ?_
  ·refine ⟨fun m σ H'=>σ=[some (.int i),some (.ref p)]∧H'=H1,⟨0,rfl,rfl⟩,?_⟩
   rintro m σ H' ⟨rfl,rfl⟩
   refine ⟨_,rfl,_,_,rfl,rfl,_,rfl,?_⟩
   rw [decide_eq_false (by omega)]
   exact iteF (hnx _ _ ⟨rfl,rfl⟩)
  rintro σ H' ⟨rfl,rfl⟩
  have hlog:i.natAbs.log2 < 1920:=by
   rcases Nat.eq_zero_or_pos i.natAbs with z | z
   ·rw [z]; decide
   ·exact (Nat.log2_lt (by omega)).mpr (Nat.lt_of_lt_of_le (by rw [Zl2]; omega:i.natAbs < 2 ^ 200) (Nat.pow_le_pow_right (by decide) (by decide)))
  have hlen:(Str.ofString (toString i)).length≤60:=Fd h0 h1
  refine Zk fun nxC hnxC=>?_
  refine ⟨_,rfl,.inl ⟨rfl,_,SqL.of h2⟩,_,rfl,i,rfl,hlog,p,_,_,rfl,rfl,h2,Zx (by decide),?_⟩
  refine hnxC _ _ ?_
  refine ⟨_,rfl,_,rfl,p,[(Str.ofString (toString i))],rfl,SqL.of Zc,by decide,(by show ((Str.ofString (toString i)).length + 0) + 1≤1048576; omega),?_⟩
  exact k _ (Same.add s1 hp)
theorem Ze0:FnScope ["text","signs"] ["text","signs"] (Zg Fn):=⟨rfl,rfl,rfl,by decide +kernel,rfl,by decide +kernel,by decide +kernel⟩
theorem Ze7 (T:Txt w K mg t):FnOk P w K mg base (CXr P w) 1 t.f_made_of t.d_made_of ["text","signs"] Zes:=by
 refine T.p_made_of.F.aR Ze0 (fun cdv A outer s H vs Q E hr h=>?_)
 ·obtain ⟨x,y,rfl,hx,hz,k⟩:=h
  refine ⟨_,(Zh (Zl (Zo (Kq rfl) (by rfl) T.n_all PyProof.Rows.boot_all (Za (Xd (ts:=["sign"]) (fv:=[("signs",1)]) ⟨rfl,by decide +kernel,by decide +kernel,Yi (by rfl),⟨⟨rfl,rfl,Or.inl rfl⟩,trivial⟩⟩ rfl (Zlj (pv 0)) (fun _ _ _ _=>(Zq (i:=0) (show List.Nodup (["sign","signs"]:List Str) from by decide +kernel) rfl (Or.inl rfl) (Or.inr rfl))) (fun _ _ _ _=>Yl) (fun _ _ _=>rfl) (fun _ _ _ _ _ _=>Yu (Wn Zlo (pv 0) (pv 1) (by with_unfolding_all rfl)))) Zb)))),?_⟩
  refine ⟨_,rfl,x,rfl,hx,fun D hD=>?_⟩
  refine Zin (fun i σ H6=>∃ v,σ=[v,some (.str y)]∧Same H H6∧H6 D=some (.lst (((mdL x y).take i).map V.bl))) ⟨none,rfl,Same.new hD,Zc⟩ ?_ ?_
  ·rintro i c σ H6 hc ⟨v,rfl,s6,h6⟩
   have hil:i < x.cps.size:=(Array.getElem?_eq_some_iff.mp hc).1
   have hm:(mdL x y)[i]?=some (Txt.contains y ⟨#[c]⟩):=by
    unfold mdL
    rw [List.getElem?_map,Array.getElem?_toList,hc]
    rfl
   dsimp only [Zp,tYes]
   rw [if_pos rfl]
   refine ⟨_,rfl,_,rfl,_,_,rfl,rfl,_,h6,by rw [List.length_map,List.length_take]; exact Zx (by omega),_,rfl,Same.add s6 hD,?_⟩
   rw [Zc,List.take_add_one,hm,List.map_append]
   rfl
  ·rintro σ H6 ⟨v,rfl,s6,h6⟩
   have hl:(mdL x y).length=x.cps.size:=by unfold mdL; rw [List.length_map,Array.length_toList]
   rw [← hl,List.take_length] at h6
   exact ⟨D,_,rfl,SqL.of h6,k _ s6⟩
end
end KT
set_option maxHeartbeats 4000000
namespace KT
open PySem L2
noncomputable def isN (x:Str):Bool:=decide (1≤(x.length:Int)) && decide ((x.length:Int)≤8) && (mdL x (Str.ofString "abcdefghijklmnopqrstuvwxyz")).all id
noncomputable def Zew:Sp:=fun vs H Q _=>∃ x:Str,vs=[.str x]∧x.cps.all (· < 128)=true∧x.cps.size≤900∧∀ H',Same H H'→Q (.bl (isN x)) H'
noncomputable def wV:Str ⊕ Int→V
 | .inl x=>.str x
 | .inr i=>.int i
noncomputable def wS:Str ⊕ Int→Str
 | .inl x=>x
 | .inr i=>figS i
noncomputable def wOk:Str ⊕ Int→Prop
 | .inl _=>True
 | .inr i=>0≤i∧i < 1000000000000000000000000000000000000000000000000000000000000
theorem Zf4 {B:Nat}:∀ {l:List (Str ⊕ Int)},(∀ x∈l,(wS x).length≤B)→((l.map wS).map (·.length)).sum≤B * l.length
 | [],_=>Nat.le_refl _
 | x :: l,h=>by
  have h1:=h x List.mem_cons_self
  have h2:=Zf4 (l:=l) fun y hy=>h y (List.mem_cons_of_mem _ hy)
  rw [List.map_cons,List.map_cons,List.sum_cons,List.length_cons,Nat.mul_add]
  omega
theorem Zl0 {i:Int} (h0:0≤i) (h1:i < 1000000000000000000000000000000000000000000000000000000000000):(figS i).length≤60:=by
 have e:figS i=Str.ofString (toString i):=rfl
 rw [e]
 exact Fd h0 h1
noncomputable def Zc7:Sp:=fun vs H Q _=>∃ (a:Addr) (ws:List (Str ⊕ Int)),vs=[.ref a]∧H a=some (.lst (ws.map wV))∧ws.length≤900∧(∀ x∈ws,wOk x)∧((ws.map wS).map (·.length)).sum + ws.length≤1048576∧∀ H',Same H H'→Q (.str (Txt.join (Str.ofString " ") (ws.map wS))) H'
section
variable {P:Program} {w:World} {K:PySem.W.Frag} {mg:Str→Option Value} {base:Heap} {t:Adr}
theorem Ze4:FnScope ["text"] ["text"] (Zg Ft):=⟨rfl,rfl,rfl,by decide +kernel,rfl,by decide +kernel,by decide +kernel⟩
theorem Ze9 (T:Txt w K mg t):FnOk P w K mg base (CXr P w) 2 t.f_is_name t.d_is_name ["text"] Zew:=by
 refine T.p_is_name.F.aR Ze4 (fun cdv A outer s H vs Q E hr h=>?_)
 ·obtain ⟨x,rfl,hx,hz,k⟩:=h
  refine ⟨_,(Zh (Zl (Qk (Zb9 Ze6 Ze6 Zf (Zo Zc2 (by rfl) T.n_len PySem.boot_len (Za (pv 0) Zb)) (Ji (v:=.int 8) rfl T.c_LONGEST_NAME ⟨_,rfl⟩)) (Vj (pcT (Ze7 T) hr T.p_made_of (Za (pv 0) (Za (Ji (v:=.str (Str.ofString "abcdefghijklmnopqrstuvwxyz")) rfl T.c_SMALL_LETTERS ⟨_,rfl⟩) Zb))))))),?_⟩
  have hs:x.length=x.cps.size:=rfl
  refine ⟨_,rfl,x,rfl,by rw [sizeLine_eq]; omega,_,_,rfl,rfl,_,rfl,?_⟩
  unfold isN at k
  refine ite2 (fun z=>?_) (fun z=>?_)
  ·refine ⟨_,_,rfl,rfl,_,rfl,?_⟩
   refine ite2 (fun z2=>?_) (fun z2=>?_)
   ·refine ⟨_,rfl,x,_,rfl,hx,hz,fun H' s'=>?_⟩
    have:=k H' s'
    rw [z,z2,Bool.true_and,Bool.true_and] at this
    exact this
   ·have:=k H (Same.refl _)
    rw [Bool.eq_false_iff.mpr z2,Bool.and_false,Bool.false_and] at this
    exact this
  ·refine ⟨_,rfl,iteF ?_⟩
   have:=k H (Same.refl _)
   rw [Bool.eq_false_iff.mpr z,Bool.false_and,Bool.false_and] at this
   exact this
theorem Zdd:FnScope ["words"] ["words"] (Zg K0):=⟨rfl,rfl,rfl,by decide +kernel,rfl,by decide +kernel,by decide +kernel⟩
theorem O1 (T:Txt w K mg t):FnOk P w K mg base (CXr P w) 2 t.f_row_text t.d_row_text ["words"] Zc7:=by
 refine T.p_row_text.F.aR Zdd (fun cdv A outer s H vs Q E hr h=>?_)
 ·obtain ⟨a,ws,rfl,ha,hl,hw,hsum,k⟩:=h
  refine ⟨_,(Zh (Zl (Wf PySem.F.plainAttrs_str PySem.F.slot_str_join PySem.F.type_str_join Zd9 Z4 (Za (Xd (ts:=["word"]) (fv:=[]) ⟨rfl,by decide +kernel,by decide +kernel,Yi (by rfl),trivial⟩ rfl (X1 (pv 0)) (fun _ _ _ _=>(Zq (i:=0) (show List.Nodup (["word"]:List Str) from by decide +kernel) rfl (Or.inl rfl) (Or.inr rfl))) (fun _ _ _ _=>Yl) (fun _ _ _=>rfl) (fun _ _ _ _ _ _=>Yu (Kh (Yn (Zo (Zc3 K) (by rfl) T.n_isinstance PyProof.Rows.boot_isinstance (Za (pv 0) (Za (Qb (v:=.ty "str") (by rfl) T.n_str PySem.Pv.boot_str rfl) Zb)))) (pv 0) (pcT (Zfb T) hr T.p_figures (Za (pv 0) Zb))))) Zb)))),?_⟩
  refine ⟨rfl,_,rfl,a,rfl,⟨_,SqL.of ha⟩,fun D hD=>?_⟩
  refine Xr (xs:=ws.map wV) (fun i σ H6=>∃ v,σ=[v]∧Same H H6∧H6 D=some (.lst (((ws.take i).map wS).map V.str))) ⟨none,rfl,Same.new hD,Zc⟩ ?_ ?_ ?_
  ·rintro i σ H6 _ ⟨v,rfl,s6,_⟩
   exact SqL.of (s6 _ _ ha)
  ·rintro i y σ H6 hy ⟨v,rfl,s6,h6⟩
   rw [List.getElem?_map] at hy
   obtain ⟨x,hx,rfl⟩:=Option.map_eq_some_iff.mp hy
   have hil:i < ws.length:=(List.getElem?_eq_some_iff.mp hx).1
   have ok:=hw x (List.mem_of_getElem? hx)
   have lt:(((ws.take i).map wS).map V.str).length < sizeLine:=by rw [List.length_map,List.length_map,List.length_take]; exact Zx (by omega)
   dsimp only [Zp,tYes]
   rw [if_pos rfl]
   cases x with
   | inl y =>
    refine ⟨_,rfl,_,"str",_,true,rfl,TyOf.str y,Qp,_,rfl,iteT ?_⟩
    refine ⟨_,rfl,_,h6,lt,_,rfl,Same.add s6 hD,?_⟩
    rw [Zc,List.take_add_one,hx,List.map_append,List.map_append]
    rfl
   | inr j =>
    refine ⟨_,rfl,_,"str",_,false,rfl,TyOf.int j,(by rfl),_,rfl,iteF ?_⟩
    refine ⟨_,rfl,j,rfl,ok.1,ok.2,fun H7 s7=>?_⟩
    refine ⟨_,s7 _ _ h6,lt,_,rfl,Same.add (s6.trans s7) hD,?_⟩
    rw [Zc,List.take_add_one,hx,List.map_append,List.map_append]
    rfl
  ·rintro σ H6 ⟨v,rfl,s6,h6⟩
   rw [List.length_map,List.take_length] at h6
   refine ⟨_,D,ws.map wS,rfl,rfl,SqL.of h6,by decide,?_,k _ s6⟩
   rw [List.length_map]
   exact hsum
end
end KT
set_option maxHeartbeats 4000000
namespace KT
open PySem L2
theorem Zmw (be sc st un un':Addr):putF "undone" (.ref un') (Yq be sc st un)=Yq be sc st un':=by first | rfl | decide
theorem Zfh (be sc st un sc':Addr):putF "scene" (.ref sc') (Yq be sc st un)=Yq be sc' st un:=by first | rfl | decide
theorem Gm (be sc st un:Addr):(Yq be sc st un).length < 1000:=by
 have:(Yq be sc st un).length=4:=rfl
 omega
noncomputable def Zaj (CH:Addr):Sp:=fun vs H Q _=>∃ (p dx be sc st un sc':Addr) (x:Str) (l:List V),vs=[.ref p,.str x,.ref sc']∧H p=some (.ins CH dx (Yq be sc st un))∧H st=some (.lst l)∧l.length≤900 ∧
 ∀ (q un':Addr) (H':Hp),H q=none→H un'=none→(∀ b u,b≠p→b≠st→H b=some u→H' b=some u)→H' p=some (.ins CH dx (Yq be sc' st un'))→H' st=some (.lst (l ++ [.ref q]))→H' q=some (.tup [.str x,.ref sc])→H' un'=some (.lst [])→Q .non H'
section
variable {P:Program} {w:World} {K:PySem.W.Frag} {mg:Str→Option Value} {base:Heap} {t:Adr}
theorem Zar:FnScope ["self","text","scene"] ["self","text","scene"] (Zg Us):=⟨rfl,rfl,rfl,by decide +kernel,rfl,by decide +kernel,by decide +kernel⟩
theorem J0 (T:Txt w K mg t):FnOk P w K mg base (CXr P w) 1 t.f_Hall_enter t.d_Hall_enter ["self","text","scene"] (Zaj t.C_Hall):=by
 refine T.p_Hall_enter.F.aR Zar (fun cdv A outer s H vs Q E hr h=>?_)
 ·obtain ⟨p,dx,be,sc,st,un,sc',x,l,rfl,hp,hst,hl,k⟩:=h
  refine ⟨_,(Zd (Z8 (Wf PySem.F.plainAttrs_list PySem.F.slot_list_append PySem.F.type_list_append Xa (Zr (pv 0) rfl) (Za (Xn (Za (pv 1) (Za (Zr (pv 0) rfl) Zb))) Zb)))
   (Zd (Xe (pv 0) (Y8 Zb) rfl)
   (Zh (Xe (pv 0) (pv 2) rfl)))),?_⟩
  have hps:p≠st:=fun z=>by rw [z,hst] at hp; cases hp
  refine Zk fun nxC hnxC=>?_
  refine ⟨_,rfl,p,_,dx,_,.ref st,rfl,hp,T.cl_Hall,T.a_Hall_standing,rfl,.inl ⟨rfl,_,SqL.of hst⟩,_,rfl,_,rfl,p,_,dx,_,.ref sc,rfl,hp,T.cl_Hall,T.a_Hall_scene,rfl,(by show 2≤sizeLine; decide),fun q hq=>?_⟩
  have s1:Same H (upd H q (.tup [V.str x,V.ref sc])):=Same.new hq
  have h1:(upd H q (.tup [V.str x,V.ref sc])) q=some (.tup [V.str x,V.ref sc]):=Zc
  refine ⟨st,_,_,rfl,rfl,s1 _ _ hst,Zx (by omega),?_⟩
  refine hnxC _ _ ?_
  generalize upd H q (.tup [V.str x,V.ref sc])=H1 at s1 h1 ⊢
  have hqs:q≠st:=fun z=>by rw [z,hst] at hq; cases hq
  have hqp:q≠p:=fun z=>by rw [z,hp] at hq; cases hq
  have p2:(upd H1 st (.lst (l ++ [V.ref q]))) p=some (.ins t.C_Hall dx (Yq be sc st un)):=by rw [Ze hps]; exact s1 _ _ hp
  have q2:(upd H1 st (.lst (l ++ [V.ref q]))) q=some (.tup [V.str x,V.ref sc]):=by rw [Ze hqs]; exact h1
  have t2:(upd H1 st (.lst (l ++ [V.ref q]))) st=some (.lst (l ++ [V.ref q])):=Zc
  have o2:∀ b u,b≠p→b≠st→H b=some u→(upd H1 st (.lst (l ++ [V.ref q]))) b=some u:=fun b u _ h2 e=>by rw [Ze h2]; exact s1 _ _ e
  generalize upd H1 st (.lst (l ++ [V.ref q]))=H2 at p2 q2 t2 o2 ⊢
  refine Zk fun nxC hnxC=>?_
  refine ⟨Nat.zero_le _,fun un' hun=>?_⟩
  have s3:Same H2 (upd H2 un' (.lst [])):=Same.new hun
  have u3:(upd H2 un' (.lst [])) un'=some (.lst []):=Zc
  have hun0:H un'=none:=by
   cases e:H un' with
   | none=>rfl
   | some u =>
    have hne1:un'≠p:=fun z=>by rw [z,p2] at hun; cases hun
    have hne2:un'≠st:=fun z=>by rw [z,t2] at hun; cases hun
    rw [o2 _ _ hne1 hne2 e] at hun
    cases hun
  refine ⟨_,rfl,p,_,dx,_,rfl,s3 _ _ p2,T.cl_Hall,T.a_Hall_undone,Gm _ _ _ _,?_⟩
  rw [Zmw]
  refine hnxC _ _ ?_
  have hup:un'≠p:=fun z=>by rw [z,p2] at hun; cases hun
  refine ⟨_,rfl,_,rfl,p,_,dx,_,rfl,Zc,T.cl_Hall,T.a_Hall_scene,Gm _ _ _ _,?_⟩
  rw [Zfh,Xg]
  refine k q un' _ hq hun0 (fun b u b1 b2 e=>?_) Zc ?_ ?_ ?_
  ·rw [Ze b1]; exact s3 _ _ (o2 b u b1 b2 e)
  ·rw [Ze (Ne.symm hps)]; exact s3 _ _ t2
  ·rw [Ze hqp]; exact s3 _ _ q2
  ·rw [Ze hup]; exact u3
end
end KT
set_option maxHeartbeats 4000000
namespace KT
open PySem L2
noncomputable def dS (l:List (Str × V)):List (Key × V):=l.map fun kv=>((Sum.inr kv.1:Key),kv.2)
theorem Zcz (l:List (Str × V)):(dS l).length=l.length:=by unfold dS; rw [List.length_map]
noncomputable def Za6:Sp:=fun vs H Q _=>∃ (d:Addr) (k:Key) (v:V) (l:List (Key × V)),vs=[.ref d,kV k,v]∧H d=some (.dK l)∧l.length≤900∧∀ e:Addr,H e=none→Q (.ref e) (upd H e (.dK (putK l k v)))
noncomputable def Ks:Sp:=fun vs H Q _=>∃ (d:Addr) (x:Str) (l:List (Str × V)),vs=[.ref d,.str x]∧H d=some (.dK (dS l))∧l.length≤900∧(l.map (·.1)).Nodup∧∀ (e:Addr) (H':Hp),Same H H'→H e=none→H' e=some (.dK (dS (l.filter fun kv=>decide (kv.1≠x))))→Q (.ref e) H'
theorem Zm1 {l:List (Str × V)} {i:Nat} {k:Key} {v:V} (h:(dS l)[i]?=some (k,v)):∃ kv,l[i]?=some kv∧k=Sum.inr kv.1∧v=kv.2:=by
 unfold dS at h
 rw [List.getElem?_map] at h
 obtain ⟨kv,h1,h2⟩:=Option.map_eq_some_iff.mp h
 cases h2
 exact ⟨kv,h1,rfl,rfl⟩
theorem Zhh {l:List (Str × V)} {x:Str} {v:V} (hn:x ∉ l.map (·.1)):putK (dS l) (Sum.inr x) v=dS (l ++ [(x,v)]):=by
 have:((dS l).any fun kv=>decide (kv.1=(Sum.inr x:Key)))=false:=by
  rw [List.any_eq_false]
  intro kv hk z
  unfold dS at hk
  obtain ⟨y,hy,rfl⟩:=List.mem_map.mp hk
  have e:=of_decide_eq_true z
  injection e with e
  exact hn (List.mem_map.mpr ⟨y,hy,e⟩)
 unfold putK
 rw [this,if_neg (by decide)]
 unfold dS
 rw [List.map_append]
 rfl
noncomputable def thV (L:List (Str × List Nat)) (ad:Str→Addr):List (Str × V):=L.map fun y=>(y.1,V.ref (ad y.1))
noncomputable def nmL (L:List (Str × List Nat)):List Str:=L.map (·.1)
theorem Fj (L:List (Str × List Nat)) (ad:Str→Addr):(thV L ad).map (·.1)=nmL L:=by unfold thV nmL; rw [List.map_map]; rfl
theorem Zdr {ad:Str→Addr} {x:Str}:∀ L:List (Str × List Nat),valV (dS (thV L ad)) (Sum.inr x)=if x∈nmL L then some (V.ref (ad x)) else none
 | []=>by simp [valV,dS,thV,nmL]
 | y :: L=>by
  have ih:=Zdr (ad:=ad) (x:=x) L
  unfold valV dS thV nmL at ih ⊢
  rw [List.map_cons,List.map_cons,List.find?_cons,List.map_cons]
  by_cases z:y.1=x
  ·subst z
   rw [decide_eq_true rfl,if_pos List.mem_cons_self]
   rfl
  ·rw [decide_eq_false (fun e=>z (by injection e))]
   show Option.map _ (List.find? _ _)=_
   rw [ih]
   by_cases c:x∈List.map (·.1) L
   ·rw [if_pos c,if_pos (List.mem_cons_of_mem _ c)]
   ·rw [if_neg c,if_neg (fun e=>by rcases List.mem_cons.mp e with e | e; exact z e.symm; exact c e)]
theorem Gu {H:Hp} {th:Addr} {L:List (Str × List Nat)} {ad:Str→Addr} {x:Str} (h:H th=some (.dK (dS (thV L ad)))):DGet H th (.str x) (if x∈nmL L then some (V.ref (ad x)) else none):=.inl ⟨_,Sum.inr x,.inl h,rfl,(Zdr L).symm⟩
noncomputable def O7 (CS:Addr):Sp:=fun vs H Q _=>∃ (sc dxs th po:Addr) (te wo:V) (x:Str) (L:List (Str × List Nat)) (ad:Str→Addr),vs=[.ref sc,.str x]∧H sc=some (.ins CS dxs (Y6 te (.ref th) (.ref po) wo))∧H th=some (.dK (dS (thV L ad)))∧H po=some (.dK [])∧x.cps.all (· < 128)=true∧x.cps.size≤900∧isN x=true∧x ∉ nmL L∧∀ H',Same H H'→Q .non H'
noncomputable def Gw:Sp:=fun vs H Q _=>∃ (a:Addr) (vs':List V),vs=[.ref a]∧H a=some (.lst vs')∧vs'.length≤400∧Q .non H
noncomputable def Zad:Sp:=fun vs H Q _=>∃ (q:Addr) (v:Nat × Nat),vs=[.ref q]∧H q=some (tp v)∧v.1≤1000∧v.2≤1000∧Q .non H
section
variable {P:Program} {w:World} {K:PySem.W.Frag} {mg:Str→Option Value} {base:Heap} {t:Adr}
theorem Ui:FnScope ["table","name","value","copied"] ["table","name","value"] (Zg Os):=⟨rfl,rfl,rfl,by decide +kernel,rfl,by decide +kernel,by decide +kernel⟩
theorem U0 (T:Txt w K mg t):FnOk P w K mg base (CXr P w) 1 t.f_with_item t.d_with_item ["table","name","value"] Za6:=by
 refine T.p_with_item.F.aR Ui (fun cdv A outer s H vs Q E hr h=>?_)
 ·obtain ⟨d,k,v,l,rfl,hd,hl,q⟩:=h
  have hu:=Xy hr
  refine ⟨_,(Zd (Zn (i:=3) Ui.nd rfl (Or.inl rfl) (Yx Gs (by rfl) T.n_dict PySem.Pv.boot_dict (Za (pv 0) Zb)))
   (Zd (G5 hu (pv 3) (pv 1) (pv 2) rfl)
   (Zh (Zl (pv 3))))),?_⟩
  refine Zk fun nxC hnxC=>?_
  refine ⟨_,rfl,d,_,rfl,.inl hd,fun e he=>?_⟩
  refine hnxC _ _ ?_
  refine ⟨_,rfl,_,rfl,_,rfl,e,_,rfl,DPut.k (k:=k) Zc (Zx (by omega)),?_⟩
  rw [Xg]
  exact ⟨_,rfl,q e he⟩
theorem Kb:FnScope ["scene","name"] ["scene","name"] (Zg Qv):=⟨rfl,rfl,rfl,by decide +kernel,rfl,by decide +kernel,by decide +kernel⟩
theorem Kk (T:Txt w K mg t):FnOk P w K mg base (CXr P w) 3 t.f_look_new_name t.d_look_new_name ["scene","name"] (O7 t.C_Scene):=by
 refine T.p_look_new_name.F.aR Kb (fun cdv A outer s H vs Q E hr h=>?_)
 ·obtain ⟨sc,dxs,th,po,te,wo,x,L,ad,rfl,hsc,hth,hpo,hx,hz,e,hn,k⟩:=h
  have hu:=Xy hr
  refine ⟨_,(Zd (Z1 (Yf (Yn (pcT (Ze9 T) hr T.p_is_name (Za (pv 1) Zb)))) Yt Zu)
   (Zh (Z1 (PW.pt (Wl (Vg (Zgr hu (pv 1) (Zr (pv 0) rfl)) (by with_unfolding_all rfl)) (Wb (Vg (Zgr hu (pv 1) (Zr (pv 0) rfl)) (by with_unfolding_all rfl))))) Yt Zu))),?_⟩
  refine ⟨_,rfl,x,rfl,hx,hz,fun H1 s1=>⟨_,rfl,?_⟩⟩
  rw [e]
  refine iteF ?_
  have hsc1:=s1 _ _ hsc
  have g:=Gu (x:=x) (s1 _ _ hth)
  rw [if_neg hn] at g
  refine ⟨_,rfl,_,rfl,sc,_,dxs,_,.ref th,rfl,hsc1,T.cl_Scene,T.a_Scene_threads,rfl,th,_,rfl,g,_,rfl,iteF ?_⟩
  exact ⟨_,rfl,_,rfl,sc,_,dxs,_,.ref po,rfl,hsc1,T.cl_Scene,T.a_Scene_pools,rfl,po,_,rfl,.inl ⟨_,Sum.inr x,.inl (s1 _ _ hpo),rfl,rfl⟩,_,rfl,iteF (k H1 s1)⟩
theorem G1:FnScope ["word"] ["word"] (Zg V8):=⟨rfl,rfl,rfl,by decide +kernel,rfl,by decide +kernel,by decide +kernel⟩
theorem G8 (T:Txt w K mg t):FnOk P w K mg base (CXr P w) 1 t.f_look_length t.d_look_length ["word"] Gw:=by
 refine T.p_look_length.F.aR G1 (fun cdv A outer s H vs Q E hr h=>?_)
 ·obtain ⟨a,vs',rfl,ha,hl,k⟩:=h
  refine ⟨_,(Zh (Z1 (Zt Q0 (Zo Zm (by rfl) T.n_len PySem.boot_len (Za (pv 0) Zb)) (Ji (v:=.int 400) rfl T.c_MOST_PLACES ⟨_,rfl⟩) (Zs _)) Yt Zu)),?_⟩
  refine ⟨_,rfl,a,_,rfl,.inl (SqL.of ha),_,_,rfl,rfl,_,rfl,?_⟩
  rw [decide_eq_false (by omega)]
  exact iteF k
theorem Zan:FnScope ["parts"] ["parts"] (Zg Ul):=⟨rfl,rfl,rfl,by decide +kernel,rfl,by decide +kernel,by decide +kernel⟩
theorem Zas (T:Txt w K mg t):FnOk P w K mg base (CXr P w) 1 t.f_look_parts t.d_look_parts ["parts"] Zad:=by
 refine T.p_look_parts.F.aR Zan (fun cdv A outer s H vs Q E hr h=>?_)
 ·obtain ⟨q,v,rfl,hq,k1,k2,k⟩:=h
  refine ⟨_,(Zh (Z1 (Zt Q0 (Zo (Zhj rfl) (by rfl) T.n_max PyProof.Rows.boot_max (Za (pv 0) Zb)) (Ji (v:=.int 1000000000000000000000000000000000000000000000000000000000000) rfl T.c_GREATEST_PART ⟨_,rfl⟩) (Zs _)) Yt Zu)),?_⟩
  refine ⟨_,rfl,q,[(v.1:Int),(v.2:Int)],rfl,SqT.of hq,(by show 0 < 2; decide),fun m hm hmx=>?_⟩
  refine ⟨_,_,rfl,rfl,_,rfl,?_⟩
  have:m≤1000:=by
   rcases List.mem_cons.mp hm with rfl | hm
   ·omega
   ·rw [List.mem_singleton.mp hm]; omega
  rw [decide_eq_false (by omega)]
  exact iteF k
theorem Kw:FnScope ["table","name"] ["table","name"] (Zg Vc):=⟨rfl,rfl,rfl,by decide +kernel,rfl,by decide +kernel,by decide +kernel⟩
theorem Q1 (T:Txt w K mg t):FnOk P w K mg base (CXr P w) 1 t.f_without_item t.d_without_item ["table","name"] Ks:=by
 refine T.p_without_item.F.aR Kw (fun cdv A outer s H vs Q E hr h=>?_)
 ·obtain ⟨d,x,l,rfl,hd,hl,nd,k⟩:=h
  have hu:=Xy hr
  refine ⟨_,(Zh (Zl (Zd7 (Uy (ts:=["key","value"]) (fv:=[("name",1)]) ⟨rfl,by decide +kernel,by decide +kernel,Yi (by rfl),⟨⟨rfl,rfl,Or.inl rfl⟩,trivial⟩⟩ rfl (Zb7 (pv 0) ⟨rfl,rfl,rfl⟩) (fun _ _ _ _=>(Vi (n:=2) K rfl (Zz (Zq (i:=0) (show List.Nodup (["key","value","name"]:List Str) from by decide +kernel) rfl (Or.inl rfl) (Or.inr rfl)) (Zz (Zq (i:=1) (show List.Nodup (["key","value","name"]:List Str) from by decide +kernel) rfl (Or.inl rfl) (Or.inr rfl)) Xk)))) (fun _ _ _ _=>(Oa (Zt Ob (pv 0) (pv 2) (Zs _)))) (fun _ _ _=>rfl) (fun _ _ _ _ _ _=>Ki (pv 0) (pv 1)))))),?_⟩
  refine ⟨_,rfl,d,_,rfl,.inl ⟨hd,fun o=>?_⟩⟩
  intro D hD
  obtain ⟨hDd,hD2⟩:=Xc hD
  have hll:=Zcz l
  refine Gi (kvs:=dS l) (fun i σ H3=>∃ v0 v1,σ=[v0,v1,some (.str x)]∧(∀ b u,b≠d→H b=some u→H3 b=some u)∧H3 d=some (.frz o (.dK (dS l)))∧H3 D=some (.dK (dS ((l.take i).filter fun kv=>decide (kv.1≠x))))) ⟨none,none,rfl,fun b u hb e=>by rw [Ze (Zj e hD2),Ze hb]; exact e,by rw [Ze (Ne.symm hDd),Zc],Zc⟩ ?_ ?_ ?_
  ·rintro i σ H3 _ ⟨v0,v1,rfl,_,e,_⟩
   exact e
  ·rintro i k0 x0 σ H3 q hk0 hq ⟨v0,v1,rfl,s3,e3,h3⟩
   obtain ⟨kv,hkv,rfl,rfl⟩:=Zm1 hk0
   have hil:i < l.length:=(List.getElem?_eq_some_iff.mp hkv).1
   have sq:Same H3 (upd H3 q (.tup [kV (Sum.inr kv.1),kv.2])):=Same.new hq
   have hqq:(upd H3 q (.tup [kV (Sum.inr kv.1),kv.2])) q=some (.tup [kV (Sum.inr kv.1),kv.2]):=Zc
   generalize upd H3 q (.tup [kV (Sum.inr kv.1),kv.2])=H4 at sq hqq ⊢
   have s4:∀ b u,b≠d→H b=some u→H4 b=some u:=fun b u hb e=>sq _ _ (s3 b u hb e)
   have etk:l.take (i + 1)=l.take i ++ [kv]:=by rw [List.take_add_one,hkv]; rfl
   dsimp only [Zp]
   refine ⟨q,_,rfl,SqT.of hqq,rfl,_,_,rfl,_,_,rfl,rfl,?_⟩
   refine ⟨_,rfl,_,rfl,rfl,_,rfl,?_⟩
   show if (!decide (V.str kv.1=V.str x))=true then _ else _
   by_cases c:kv.1=x
   ·rw [c,decide_eq_true rfl]
    refine iteF ⟨_,_,rfl,s4,sq _ _ e3,?_⟩
    rw [sq _ _ h3,etk,List.filter_append]
    simp [c]
   ·rw [decide_eq_false (fun z=>c (by injection z))]
    have hnew:kv.1 ∉ ((l.take i).filter fun kv=>decide (kv.1≠x)).map (·.1):=fun z=>by
     obtain ⟨y,hy,e⟩:=List.mem_map.mp z
     have hy:=(List.mem_filter.mp hy).1
     rw [← List.take_append_drop i l,List.map_append,List.nodup_append] at nd
     refine nd.2.2 y.1 (List.mem_map.mpr ⟨y,hy,rfl⟩) kv.1 ?_ e
     rw [List.drop_eq_getElem_cons hil,(List.getElem?_eq_some_iff.mp hkv).2]
     exact List.mem_cons_self
    refine iteT ⟨_,rfl,_,rfl,_,Sum.inr kv.1,rfl,sq _ _ h3,?_,_,_,rfl,fun b u hb e=>?_,?_,?_⟩
    ·rw [Zcz]
     have:=List.length_filter_le (fun kv:Str × V=>decide (kv.1≠x)) (l.take i)
     rw [List.length_take] at this
     exact Zx (by omega)
    ·rw [Ze (Zj e hD2)]; exact s4 b u hb e
    ·rw [Ze (Ne.symm hDd)]; exact sq _ _ e3
    ·rw [Zc,Zhh hnew,etk,List.filter_append]
     have:[kv].filter (fun kv:Str × V=>decide (kv.1≠x))=[kv]:=by simp [c]
     rw [this]
  ·rintro σ H3 ⟨v0,v1,rfl,s3,e3,h3⟩
   rw [hll,List.take_length] at h3
   refine ⟨d,o,_,e3,(fun o' u z=>by have z:H d=some (.frz o' u):=z; rw [hd] at z; cases z),?_⟩
   have sF:Same H (upd H3 d (.dK (dS l))):=fun b u e=>by
    by_cases c:b=d
    ·subst c; rw [hd] at e; rw [Zc]; exact e
    ·rw [Ze c]; exact s3 b u c e
   exact k D _ sF hD2 (by rw [Ze hDd]; exact h3)
end
end KT
set_option maxHeartbeats 4000000
namespace KT
open PySem L2
structure Sd where
 (L:List (Str × List Nat)) (ks:List Int) (g:Int→Nat × Nat)
structure ScB (CT CS:Addr) (H:Hp) (sc dxs te th po wo:Addr) (M:List (Option Nat)) (ns:List Int) (d:Sd) (ad:Str→Addr):Prop where
 ins:H sc=some (.ins CS dxs (Y6 (.ref te) (.ref th) (.ref po) (.ref wo)))
 thr:H th=some (.dK (dS (thV d.L ad)))
 wrd:∀ y∈d.L,H (ad y.1)=some (.lst (y.2.map nV))
 poo:H po=some (.dK [])
 ten:Yb CT H te M ns
 wor:WAt H wo d.ks d.g
theorem ScB.same {CT CS:Addr} {H H':Hp} {sc dxs te th po wo:Addr} {M:List (Option Nat)} {ns:List Int} {d:Sd} {ad:Str→Addr} (h:ScB CT CS H sc dxs te th po wo M ns d ad) (s:Same H H'):ScB CT CS H' sc dxs te th po wo M ns d ad :=
 ⟨s _ _ h.ins,s _ _ h.thr,fun y hy=>s _ _ (h.wrd y hy),s _ _ h.poo,h.ten.same s,h.wor.same s⟩
noncomputable def Sc (CT CS:Addr) (H:Hp) (sc:Addr) (M:List (Option Nat)) (ns:List Int) (d:Sd):Prop:=∃ (dxs te th po wo:Addr) (ad:Str→Addr),ScB CT CS H sc dxs te th po wo M ns d ad
theorem Sc.same {CT CS:Addr} {H H':Hp} {sc:Addr} {M:List (Option Nat)} {ns:List Int} {d:Sd} (h:Sc CT CS H sc M ns d) (s:Same H H'):Sc CT CS H' sc M ns d:=by
 obtain ⟨a,b,c,e,f,g,h⟩:=h
 exact ⟨a,b,c,e,f,g,h.same s⟩
noncomputable def Stk (CT CS:Addr) (H:Hp) (M:List (Option Nat)) (ns:List Int):List Addr→List Sd→Prop
 | [],[]=>True
 | q :: qs,d :: ds=>(∃ (x:Str) (s:Addr),H q=some (.tup [.str x,.ref s])∧Sc CT CS H s M ns d)∧Stk CT CS H M ns qs ds
 | _,_=>False
theorem Stk.same {CT CS:Addr} {H H':Hp} {M:List (Option Nat)} {ns:List Int} (s:Same H H'):∀ {qs:List Addr} {ds:List Sd},Stk CT CS H M ns qs ds→Stk CT CS H' M ns qs ds
 | [],[],_=>True.intro
 | [],_ :: _,h=>h.elim
 | _ :: _,[],h=>h.elim
 | q :: qs,d :: ds,h=>by
  obtain ⟨⟨x,a,h1,h2⟩,h3⟩:=h
  exact ⟨⟨x,a,s _ _ h1,h2.same s⟩,Stk.same s h3⟩
theorem Stk.len {CT CS:Addr} {H:Hp} {M:List (Option Nat)} {ns:List Int}:∀ {qs:List Addr} {ds:List Sd},Stk CT CS H M ns qs ds→qs.length=ds.length
 | [],[],_=>rfl
 | [],_ :: _,h=>h.elim
 | _ :: _,[],h=>h.elim
 | q :: qs,d :: ds,h=>by rw [List.length_cons,List.length_cons,Stk.len h.2]
structure HallB (CT CS CH:Addr) (H H0:Hp) (p dx be sc st un:Addr) (qs us:List Addr) (M:List (Option Nat)) (ns:List Int) (d:Sd) (S U:List Sd):Prop where
 ins:H p=some (.ins CH dx (Yq be sc st un))
 sta:H st=some (.lst (qs.reverse.map V.ref))
 und:H un=some (.lst (us.reverse.map V.ref))
 low:Same H0 H
 np:H0 p=none
 nst:H0 st=none
 nun:H0 un=none
 su:st≠un
 cur:Sc CT CS H0 sc M ns d
 stk:Stk CT CS H0 M ns qs S
 unk:Stk CT CS H0 M ns us U
noncomputable def Yc (CT CS CH:Addr) (H H0:Hp) (p:Addr) (M:List (Option Nat)) (ns:List Int) (d:Sd) (S U:List Sd):Prop:=∃ (dx be sc st un:Addr) (qs us:List Addr),HallB CT CS CH H H0 p dx be sc st un qs us M ns d S U
theorem Yc.same {CT CS CH:Addr} {H H' H0:Hp} {p:Addr} {M:List (Option Nat)} {ns:List Int} {d:Sd} {S U:List Sd} (h:Yc CT CS CH H H0 p M ns d S U) (s:Same H H'):Yc CT CS CH H' H0 p M ns d S U:=by
 obtain ⟨dx,be,sc,st,un,qs,us,B⟩:=h
 exact ⟨dx,be,sc,st,un,qs,us,s _ _ B.ins,s _ _ B.sta,s _ _ B.und,B.low.trans s,B.np,B.nst,B.nun,B.su,B.cur,B.stk,B.unk⟩
theorem Yc.low {CT CS CH:Addr} {H H0:Hp} {p:Addr} {M:List (Option Nat)} {ns:List Int} {d:Sd} {S U:List Sd} (h:Yc CT CS CH H H0 p M ns d S U):Same H0 H:=by
 obtain ⟨dx,be,sc,st,un,qs,us,B⟩:=h
 exact B.low
noncomputable def Rs (H:Hp) (p st un:Addr):Hp:=fun b=>if b=p∨b=st∨b=un then none else H b
theorem Rs.at {H:Hp} {p st un b:Addr} {u:HO} (e:H b=some u) (h1:b≠p) (h2:b≠st) (h3:b≠un):Rs H p st un b=some u:=by
 unfold Rs
 rw [if_neg (fun z=>z.elim h1 fun z=>z.elim h2 h3)]
 exact e
theorem Rs.le {H:Hp} {p st un:Addr}:Same (Rs H p st un) H:=fun b u e=>by
 unfold Rs at e
 by_cases z:b=p∨b=st∨b=un
 ·rw [if_pos z] at e; cases e
 ·rw [if_neg z] at e; exact e
theorem Rs.out {H:Hp} {p st un b:Addr} (h:b=p∨b=st∨b=un):Rs H p st un b=none:=by unfold Rs; rw [if_pos h]
theorem Rs.no {H:Hp} {p st un b:Addr} (h:H b=none):Rs H p st un b=none:=by unfold Rs; split; rfl; exact h
theorem Vb {H H':Hp} {p st un:Addr} (s:Same H H') (h1:H p=none) (h2:H st=none) (h3:H un=none):Same H (Rs H' p st un):=fun b u e =>
 Rs.at (s b u e) (fun z=>by rw [z,h1] at e; cases e) (fun z=>by rw [z,h2] at e; cases e) (fun z=>by rw [z,h3] at e; cases e)
theorem Yh {H H':Hp} {b c:Addr} {u:HO} (s:Same H H') (hb:H b=some u) (hc:H' c=none):c≠b:=fun z=>by rw [z,s _ _ hb] at hc; cases hc
theorem Yc.more {CT CS CH:Addr} {H H' H0:Hp} {p:Addr} {M:List (Option Nat)} {ns:List Int} {d:Sd} {S U:List Sd} (h:Yc CT CS CH H H0 p M ns d S U) (s:Same H H'):∃ H0',Same H0 H0'∧Yc CT CS CH H' H0' p M ns d S U∧∀ b u,H' b=some u→H b=none∨(∀ xs,u≠.lst xs)∧(∀ C d f,u≠.ins C d f)→H0' b=some u:=by
 obtain ⟨dx,be,sc,st,un,qs,us,B⟩:=h
 have s0:Same H0 (Rs H' p st un):=Vb (B.low.trans s) B.np B.nst B.nun
 refine ⟨Rs H' p st un,s0,⟨dx,be,sc,st,un,qs,us,s _ _ B.ins,s _ _ B.sta,s _ _ B.und,Rs.le,Rs.out (.inl rfl),Rs.out (.inr (.inl rfl)),Rs.out (.inr (.inr rfl)),B.su,B.cur.same s0,B.stk.same s0,B.unk.same s0⟩,fun b u e' e=>?_⟩
 rcases e with e | ⟨e1,e2⟩
 ·exact Rs.at e' (Yh (Same.refl _) B.ins e) (Yh (Same.refl _) B.sta e) (Yh (Same.refl _) B.und e)
 ·exact Rs.at e' (fun z=>by rw [z,s _ _ B.ins] at e'; exact e2 _ _ _ (Option.some.inj e').symm) (fun z=>by rw [z,s _ _ B.sta] at e'; exact e1 _ (Option.some.inj e').symm) (fun z=>by rw [z,s _ _ B.und] at e'; exact e1 _ (Option.some.inj e').symm)
theorem HallB.entered {CT CS CH:Addr} {H H0 H8 H9:Hp} {p dx be sc st un sc' q un':Addr} {qs us:List Addr} {M:List (Option Nat)} {ns:List Int} {d d':Sd} {S U:List Sd} {x:Str} (B:HallB CT CS CH H H0 p dx be sc st un qs us M ns d S U) (s:Same H H8) (hs:Sc CT CS (Rs H8 p st un) sc' M ns d') (hq:H8 q=none) (hu:H8 un'=none) (o9:∀ b u,b≠p→b≠st→H8 b=some u→H9 b=some u)
  (p9:H9 p=some (.ins CH dx (Yq be sc' st un'))) (st9:H9 st=some (.lst (qs.reverse.map V.ref ++ [.ref q]))) (q9:H9 q=some (.tup [.str x,.ref sc])) (u9:H9 un'=some (.lst [])):∃ H0',Same H0 H0'∧Yc CT CS CH H9 H0' p M ns d' (d :: S) []:=by
 have s0:Same H0 (Rs H8 p st un):=Vb (B.low.trans s) B.np B.nst B.nun
 have s1:Same (Rs H8 p st un) (upd (Rs H8 p st un) q (.tup [.str x,.ref sc])):=Same.new (Rs.no hq)
 have s01:=s0.trans s1
 have qp:p≠q:=(Yh s B.ins hq).symm
 have qst:st≠q:=(Yh s B.sta hq).symm
 have qu:un'≠q:=fun z=>by rw [z,q9] at u9; cases u9
 refine ⟨_,s01,dx,be,sc',st,un',q :: qs,[],p9,?_,u9,fun b u e=>?_,?_,?_,?_,(Yh s B.sta hu).symm,hs.same s1,⟨⟨x,sc,Zc,B.cur.same s01⟩,B.stk.same s01⟩,True.intro⟩
 ·rw [st9,List.reverse_cons,List.map_append]; rfl
 ·by_cases z:b=q
  ·subst z; rw [Zc] at e; rw [← e]; exact q9
  ·rw [Ze z] at e
   have hb:=Rs.le b u e
   refine o9 b u (fun z=>?_) (fun z=>?_) hb
   ·rw [z,Rs.out (.inl rfl)] at e; cases e
   ·rw [z,Rs.out (.inr (.inl rfl))] at e; cases e
 ·rw [Ze qp,Rs.out (.inl rfl)]
 ·rw [Ze qst,Rs.out (.inr (.inl rfl))]
 ·rw [Ze qu,Rs.no hu]
theorem Zlz {be sc st un cl na sp mt:Addr}:Yq be sc st un≠X7 cl na sp mt:=fun e=>by
 have e1:(Yq be sc st un).map (·.1)=(X7 cl na sp mt).map (·.1):=by rw [e]
 have e2:(Yq be sc st un).map (·.1)=(Yq 0 0 0 0).map (·.1):=rfl
 have e3:(X7 cl na sp mt).map (·.1)=(X7 0 0 0 0).map (·.1):=rfl
 rw [e2,e3] at e1
 exact absurd e1 (by decide)
theorem Gh {α:Type} {g:α→V} {xs:List α} (h:xs≠[]):HO.lst (xs.map g)≠.lst []:=fun e=>by
 injection e with e
 exact h (List.map_eq_nil_iff.mp e)
theorem Zl7 {M:List (Option Nat)} {ns:List Int} (td:TD M ns):ns≠[]:=fun z=>by
 obtain ⟨n,h1,_,h2⟩:=td.n
 have:=td.len
 rw [z,List.length_nil] at this
 omega
theorem HallNew.hall {CT CS CH:Addr} {H H1:Hp} {p dx be sc st un dxs th po wo:Addr} {M:List (Option Nat)} {ns ks:List Int} (td:TD M ns) (h:HallNew CT CS CH H p M ns dx be sc st un dxs th po wo ks) (su:st≠un) (s:∀ b u,b≠p→H1 b=some u→H b=some u) (h1:H1 p=none) (h2:H1 st=none) (h3:H1 un=none):∃ H0,Same H1 H0∧Yc CT CS CH H H0 p M ns ⟨[],ks,fun _=>(1,1)⟩ [] []:=by
 have hne:=Zl7 td
 have s1:Same H1 (Rs H p st un):=fun b u e=>Rs.at (s b u (fun z=>by rw [z,h1] at e; cases e) e) (fun z=>by rw [z,h1] at e; cases e) (fun z=>by rw [z,h2] at e; cases e) (fun z=>by rw [z,h3] at e; cases e)
 have kp:∀ {b:Addr} {u:HO},H b=some u→(∀ C d f,u≠.ins C d f)→u≠.lst []→Rs H p st un b=some u:=fun {b u} e c1 c2=>Rs.at e (fun z=>by rw [z,h.ins] at e; exact c1 _ _ _ (Option.some.inj e).symm) (fun z=>by rw [z,h.sta] at e; exact c2 (Option.some.inj e).symm) (fun z=>by rw [z,h.und] at e; exact c2 (Option.some.inj e).symm)
 have ki:∀ {b C d:Addr} {f:List (Str × V)},H b=some (.ins C d f)→(∀ be sc st un,f≠Yq be sc st un)→Rs H p st un b=some (.ins C d f):=fun {b C d f} e c=>Rs.at e (fun z=>by
  rw [z,h.ins] at e
  injection e with e
  injection e with _ _ e
  exact c _ _ _ _ e.symm) (fun z=>by rw [z,h.sta] at e; cases e) (fun z=>by rw [z,h.und] at e; cases e)
 obtain ⟨dt,cl,na,sp,mt,o,f,B⟩:=h.tent
 obtain ⟨ts,r1,r2,r3⟩:=B.rows
 obtain ⟨aw,w1,w2⟩:=h.wor
 refine ⟨Rs H p st un,s1,dx,be,sc,st,un,[],[],h.ins,h.sta,h.und,Rs.le,Rs.out (.inl rfl),Rs.out (.inr (.inl rfl)),Rs.out (.inr (.inr rfl)),su,⟨dxs,be,th,po,wo,fun _=>0,ki h.scn ?_,kp h.thr (fun _ _ _ z=>nomatch z) (fun z=>nomatch z),fun y hy=>absurd hy List.not_mem_nil,kp h.poo (fun _ _ _ z=>nomatch z) (fun z=>nomatch z),?_,aw,kp w1 (fun _ _ _ z=>nomatch z) (fun z=>nomatch z),fun x hx=>kp (w2 x hx) (fun _ _ _ z=>nomatch z) (fun z=>nomatch z)⟩,True.intro,True.intro⟩
 ·intro be sc st un e
  have e1:=congrArg (List.map (·.1)) e
  have e2:(Yq be sc st un).map (·.1)=(Yq 0 0 0 0).map (·.1):=rfl
  rw [e2] at e1
  exact absurd e1 (by show (Y6 (.int 0) (.int 0) (.int 0) (.int 0)).map (·.1)≠_; decide)
 ·refine ⟨dt,cl,na,sp,mt,o,f,ki B.ins (fun _ _ _ _=>(Zlz).symm),⟨ts,kp r1 (fun _ _ _ z=>nomatch z) (Gh fun z=>?_),r2,fun k q e=>kp (r3 k q e) (fun _ _ _ z=>nomatch z) (fun z=>nomatch z)⟩,kp B.names (fun _ _ _ z=>nomatch z) (Gh hne),kp B.spots (fun _ _ _ z=>nomatch z) (fun z=>nomatch z),kp B.mates (fun _ _ _ z=>nomatch z) (Gh fun z=>?_),fun y hy=>kp (B.at' y hy) (fun _ _ _ z=>nomatch z) (Gh fun z=>?_)⟩
  ·rw [z,List.length_nil] at r2
   exact hne (List.eq_nil_of_length_eq_zero r2)
  ·have:=td.len
   rw [z] at this
   exact hne (List.eq_nil_of_length_eq_zero this)
  ·obtain ⟨i,hi,hx⟩:=X8.mp hy
   have:=Y0.mpr ⟨hi,hx⟩
   rw [z] at this
   cases this
end KT
set_option maxHeartbeats 4000000
namespace KT
open PySem L2
structure Gd5 (M:List (Option Nat)) (ns:List Int) (d:Sd):Prop where
 nd:(nmL d.L).Nodup
 pl:∀ y∈d.L,Pl M y.2∧y.2.length≤100
 sw:SwK M ns d.ks
 bd:∀ x∈d.ks,1≤(d.g x).1∧1≤(d.g x).2∧(d.g x).1≤100∧(d.g x).2≤100
noncomputable def Zdc (CT CS CH:Addr):Sp:=fun vs H Q _=>∃ (p a:Addr) (x:Str) (H0:Hp) (M:List (Option Nat)) (ns:List Int) (d:Sd) (S U:List Sd) (ws:List Nat),vs=[.ref p,.str x,.ref a]∧Yc CT CS CH H H0 p M ns d S U∧TD M ns∧ns.length≤1000∧S.length≤800∧d.L.length≤800∧Asc x∧x.length≤900∧isN x=true∧x ∉ nmL d.L∧H a=some (.lst (ws.map nV))∧ws.length≤400∧Pl M ws ∧
 ∀ H' H0',Same H0 H0'→Yc CT CS CH H' H0' p M ns ⟨d.L ++ [(x,ws)],d.ks,d.g⟩ (d :: S) []→Q .non H'
noncomputable def Zbb (CT CS CH:Addr):Sp:=fun vs H Q _=>∃ (p:Addr) (x:Str) (H0:Hp) (M:List (Option Nat)) (ns:List Int) (d:Sd) (S U:List Sd),vs=[.ref p,.str x]∧Yc CT CS CH H H0 p M ns d S U∧S.length≤800∧d.L.length≤800∧(nmL d.L).Nodup∧Asc x∧x.length≤900∧x∈nmL d.L ∧
 ∀ H' H0',Same H0 H0'→Yc CT CS CH H' H0' p M ns ⟨d.L.filter fun y=>decide (y.1≠x),d.ks,d.g⟩ (d :: S) []→Q .non H'
noncomputable def Zah (CT CS CH:Addr):Sp:=fun vs H Q _=>∃ (p:Addr) (x:Int) (m n:Nat) (H0:Hp) (M:List (Option Nat)) (ns:List Int) (d:Sd) (S U:List Sd),vs=[.ref p,.int x,.int m,.int n]∧Yc CT CS CH H H0 p M ns d S U∧TD M ns∧S.length≤800∧SwK M ns d.ks∧ns.length < 64∧x∈d.ks∧1≤m∧1≤n∧m≤100∧n≤100 ∧
 ∀ H' H0',Same H0 H0'→Yc CT CS CH H' H0' p M ns ⟨d.L,d.ks,putG d.g x (lowN m n)⟩ (d :: S) []→Q .non H'
noncomputable def Zbd (CT CS CH:Addr):Sp:=fun vs H Q _=>∃ (p:Addr) (H0:Hp) (M:List (Option Nat)) (ns:List Int) (d d1:Sd) (S U:List Sd),vs=[.ref p]∧Yc CT CS CH H H0 p M ns d (d1 :: S) U∧U.length≤800∧∀ H' H0',Same H0 H0'→Yc CT CS CH H' H0' p M ns d1 S (d :: U)→Q .non H'
noncomputable def Zak (CT CS CH:Addr):Sp:=fun vs H Q _=>∃ (p:Addr) (H0:Hp) (M:List (Option Nat)) (ns:List Int) (d d1:Sd) (S U:List Sd),vs=[.ref p]∧Yc CT CS CH H H0 p M ns d S (d1 :: U)∧S.length≤800∧∀ H' H0',Same H0 H0'→Yc CT CS CH H' H0' p M ns d1 (d :: S) U→Q .non H'
noncomputable def Zai (CT CS CH:Addr):Sp:=fun vs H Q _=>∃ (p:Addr) (H0:Hp) (M:List (Option Nat)) (ns:List Int) (d:Sd) (S U:List Sd),vs=[.ref p]∧Yc CT CS CH H H0 p M ns d S U∧d.L=[]∧∀ q,H q=none→Q (.ref q) (upd H q (.lst []))
noncomputable def Gz (CT CS CH:Addr):Sp:=fun vs H Q _=>∃ (p:Addr) (x:Str) (H0:Hp) (M:List (Option Nat)) (ns:List Int) (d:Sd) (S U:List Sd) (ws:List Nat),vs=[.ref p,.str x]∧Yc CT CS CH H H0 p M ns d S U∧(x,ws)∈d.L∧∀ l,H l=none→Q (.ref l) (upd H l (.lst (ws.map nV)))
noncomputable def O9 (CT CS CH:Addr):Sp:=fun vs H Q _=>∃ (p:Addr) (x:Str) (H0:Hp) (M:List (Option Nat)) (ns:List Int) (d:Sd) (S U:List Sd) (ws:List Nat),vs=[.ref p,.str x]∧Yc CT CS CH H H0 p M ns d S U∧TD M ns∧ns.length < 64∧Gd5 M ns d∧(x,ws)∈d.L ∧
 ∀ (r:Addr) (H':Hp),Same H H'→H' r=some (tp (wor d.g M ns ws))→Q (.ref r) H'
noncomputable def Zba (CT CS CH:Addr):Sp:=fun vs H Q _=>∃ (p:Addr) (x y:Str) (H0:Hp) (M:List (Option Nat)) (ns:List Int) (d:Sd) (S U:List Sd) (ws us:List Nat),vs=[.ref p,.str x,.str y]∧Yc CT CS CH H H0 p M ns d S U∧TD M ns∧Gd5 M ns d∧(x,ws)∈d.L∧(y,us)∈d.L ∧
 ∀ (L1 L2:List Int) (H':Hp),Same H H'→HT.IsLeast (Jp M ws) L1→HT.IsLeast (Jp M us) L2→Q (.bl (decide (L1=L2))) H'
noncomputable def Zhy (C:Addr):Sp:=fun vs H Q _=>∃ (p a b:Addr) (M:List (Option Nat)) (ns:List Int) (ws us:List Nat),vs=[.ref p,.ref a,.ref b]∧Yb C H p M ns∧M.length=ns.length∧H a=some (.lst (ws.map nV))∧H b=some (.lst (us.map nV))∧ws.length≤10000∧us.length≤10000∧Pl M ws∧Pl M us ∧
 ∀ (L1 L2:List Int) (H':Hp),Same H H'→HT.IsLeast (Jp M ws) L1→HT.IsLeast (Jp M us) L2→Q (.bl (decide (L1=L2))) H'
theorem Pl.len_pos {M:List (Option Nat)} {ws:List Nat} (h:Pl M ws):0 < ws.length:=List.length_pos_iff.mpr h.ne
theorem Zlq {L:List (Str × List Nat)} {x:Str} {ws:List Nat} (h:(x,ws)∈L):x∈nmL L:=List.mem_map.mpr ⟨_,h,rfl⟩
theorem Vu {qs:List Addr} {q:Addr}:((q :: qs).reverse.map V.ref)[((q :: qs).reverse.map V.ref).length - 1]?=some (V.ref q)∧((q :: qs).reverse.map V.ref).dropLast=qs.reverse.map V.ref:=by
 rw [List.reverse_cons,List.map_append]
 refine ⟨?_,List.dropLast_concat⟩
 rw [List.length_append]
 show (_ ++ [V.ref q])[_ + 1 - 1]?=_
 rw [Nat.add_sub_cancel,List.getElem?_append_right (Nat.le_refl _),Nat.sub_self]
 rfl
theorem Zjo {M:List (Option Nat)} {ns ks:List Int} (td:TD M ns) (sw:SwK M ns ks) {x:Int} (h:x∈ks):x∈keys ns ns.length∧Yz ns x≠"rim":=by
 obtain ⟨p,j,h1,h2⟩:=(sw.mem x).mp h
 have hp:p < ns.length:=(List.getElem?_eq_some_iff.mp h2).1
 have hk:x∈keys ns ns.length:=X8.mpr ⟨p,hp,h2⟩
 refine ⟨hk,fun e=>?_⟩
 unfold Yz at e
 rcases Vw td hk with ⟨a,ea,_,ma⟩ | ⟨a,b,hab,eb,_⟩
 ·have:=Y0.mpr ⟨hp,h2⟩
  rw [ea,List.mem_singleton] at this
  subst this
  rw [h1] at ma; cases ma
 ·rw [eb] at e
  dsimp only at e
  split at e <;> exact absurd e (by decide)
theorem HallB.moved {CT CS CH:Addr} {H H0 H4:Hp} {p dx be sc st un q2 s:Addr} {q:Addr} {qs us:List Addr} {M:List (Option Nat)} {ns:List Int} {d d1:Sd} {S U:List Sd} {x:Str} (B:HallB CT CS CH H H0 p dx be sc st un (q :: qs) us M ns d (d1 :: S) U) (hs:Sc CT CS H0 s M ns d1) (h2:H q2=none) (e4:H4=upd (upd (upd (upd H st (.lst (qs.reverse.map V.ref))) q2 (.tup [.str x,.ref sc])) un (.lst (us.reverse.map V.ref ++ [.ref q2]))) p (.ins CH dx (Yq be s st un))):∃ H0',Same H0 H0'∧HallB CT CS CH H4 H0' p dx be s st un qs (q2 :: us) M ns d1 S (d :: U):=by
 have n1:q2≠p:=Yh (Same.refl _) B.ins h2
 have n2:q2≠st:=Yh (Same.refl _) B.sta h2
 have n3:q2≠un:=Yh (Same.refl _) B.und h2
 have n4:st≠p:=fun z=>by have:=B.sta; rw [z,B.ins] at this; cases this
 have n5:un≠p:=fun z=>by have:=B.und; rw [z,B.ins] at this; cases this
 have h0:H0 q2=none:=B.low.free h2
 have s1:Same H0 (upd H0 q2 (.tup [.str x,.ref sc])):=Same.new h0
 subst e4
 refine ⟨_,s1,Zc,?_,?_,fun b u e=>?_,?_,?_,?_,B.su,hs.same s1,B.stk.2.same s1,⟨⟨x,sc,Zc,B.cur.same s1⟩,B.unk.same s1⟩⟩
 ·rw [Ze n4,Ze B.su,Ze (Ne.symm n2),Zc]
 ·rw [Ze n5,Zc,List.reverse_cons,List.map_append]; rfl
 ·by_cases z:b=q2
  ·subst z
   rw [Zc] at e
   rw [Ze n1,Ze n3,Zc]
   exact e
  ·rw [Ze z] at e
   rw [Ze (fun z=>by rw [z,B.np] at e; cases e),Ze (fun z=>by rw [z,B.nun] at e; cases e),Ze z,Ze (fun z=>by rw [z,B.nst] at e; cases e)]
   exact B.low b u e
 ·rw [Ze (Ne.symm n1)]; exact B.np
 ·rw [Ze (Ne.symm n2)]; exact B.nst
 ·rw [Ze (Ne.symm n3)]; exact B.nun
theorem HallB.flip {CT CS CH:Addr} {H H0:Hp} {p dx be sc st un:Addr} {qs us:List Addr} {M:List (Option Nat)} {ns:List Int} {d:Sd} {S U:List Sd} (B:HallB CT CS CH H H0 p dx be sc st un qs us M ns d S U) {H':Hp} (e:∀ b,b≠p→H' b=H b) (hp:H' p=some (.ins CH dx (Yq be sc un st))):HallB CT CS CH H' H0 p dx be sc un st us qs M ns d U S:=by
 have n4:st≠p:=fun z=>by have:=B.sta; rw [z,B.ins] at this; cases this
 have n5:un≠p:=fun z=>by have:=B.und; rw [z,B.ins] at this; cases this
 exact ⟨hp,by rw [e _ n5]; exact B.und,by rw [e _ n4]; exact B.sta,fun b u z=>by rw [e _ (fun y=>by rw [y,B.np] at z; cases z)]; exact B.low b u z,B.np,B.nun,B.nst,B.su.symm,B.cur,B.unk,B.stk⟩
section
variable {P:Program} {w:World} {K:PySem.W.Frag} {mg:Str→Option Value} {base:Heap} {t:Adr}
theorem Zaq:FnScope ["self"] ["self"] (Zg Ur):=⟨rfl,rfl,rfl,by decide +kernel,rfl,by decide +kernel,by decide +kernel⟩
theorem Zav (T:Txt w K mg t):FnOk P w K mg base (CXr P w) 1 t.f_Hall_names t.d_Hall_names ["self"] (Zai t.C_Tent t.C_Scene t.C_Hall):=by
 refine T.p_Hall_names.F.aR Zaq (fun cdv A outer s H vs Q E hr h=>?_)
 ·obtain ⟨p,H0,M,ns,d,S,U,rfl,⟨dx,be,sc,st,un,qs,us,B⟩,hL,k⟩:=h
  obtain ⟨dxs,te,th,po,wo,ad,C⟩:=B.cur
  have C:=C.same B.low
  refine ⟨_,(Zh (Zl (Zo (Zay rfl) (by rfl) T.n_sorted PyProof.Rows.boot_sorted (Za (Zr (Zr (pv 0) rfl) rfl) Zb)))),?_⟩
  have hth:=C.thr
  rw [hL] at hth
  refine ⟨_,rfl,p,_,dx,_,.ref sc,rfl,B.ins,T.cl_Hall,T.a_Hall_scene,rfl,sc,_,dxs,_,.ref th,rfl,C.ins,T.cl_Scene,T.a_Scene_threads,rfl,th,_,[],rfl,.inl hth,rfl,by show 0 < 64; decide,fun q out hq hp _=>?_⟩
  rw [List.perm_nil.mp hp]
  exact k q hq
theorem G4:FnScope ["self","name"] ["self","name"] (Zg Uc):=⟨rfl,rfl,rfl,by decide +kernel,rfl,by decide +kernel,by decide +kernel⟩
theorem Y2 (T:Txt w K mg t):FnOk P w K mg base (CXr P w) 1 t.f_Hall_thread t.d_Hall_thread ["self","name"] (Gz t.C_Tent t.C_Scene t.C_Hall):=by
 refine T.p_Hall_thread.F.aR G4 (fun cdv A outer s H vs Q E hr h=>?_)
 ·obtain ⟨p,x,H0,M,ns,d,S,U,ws,rfl,⟨dx,be,sc,st,un,qs,us,B⟩,hx,k⟩:=h
  have hu:=Xy hr
  obtain ⟨dxs,te,th,po,wo,ad,C⟩:=B.cur
  have C:=C.same B.low
  refine ⟨_,(Zd (Z1 (Vg (Qz hu (pv 1) (Zr (Zr (pv 0) rfl) rfl)) (by with_unfolding_all rfl)) Yt Zu)
   (Zh (Zl (Yx Xb (by rfl) T.n_list PySem.Pv.boot_list (Za (Vk hu (Zr (Zr (pv 0) rfl) rfl) (pv 1) (fun _ _=>rfl)) Zb))))),?_⟩
  have g:=Gu (x:=x) C.thr
  rw [if_pos (Zlq hx)] at g
  refine ⟨_,rfl,_,rfl,p,_,dx,_,.ref sc,rfl,B.ins,T.cl_Hall,T.a_Hall_scene,rfl,sc,_,dxs,_,.ref th,rfl,C.ins,T.cl_Scene,T.a_Scene_threads,rfl,th,_,rfl,g,_,rfl,iteF ?_⟩
  exact ⟨_,rfl,p,_,dx,_,.ref sc,rfl,B.ins,T.cl_Hall,T.a_Hall_scene,rfl,sc,_,dxs,_,.ref th,rfl,C.ins,T.cl_Scene,T.a_Scene_threads,rfl,_,rfl,th,_,rfl,g,ad x,_,rfl,.inl (SqL.of (C.wrd _ hx)),k⟩
theorem Kd:FnScope ["self","name"] ["self","name"] (Zg Qx):=⟨rfl,rfl,rfl,by decide +kernel,rfl,by decide +kernel,by decide +kernel⟩
theorem Qn (T:Txt w K mg t):FnOk P w K mg base (CXr P w) 9 t.f_Hall_worth_of t.d_Hall_worth_of ["self","name"] (O9 t.C_Tent t.C_Scene t.C_Hall):=by
 refine T.p_Hall_worth_of.F.aR Kd (fun cdv A outer s H vs Q E hr h=>?_)
 ·obtain ⟨p,x,H0,M,ns,d,S,U,ws,rfl,ha,td,h64,gd,hx,k⟩:=h
  obtain ⟨dx,be,sc,st,un,qs,us,B⟩:=id ha
  obtain ⟨dxs,te,th,po,wo,ad,C⟩:=B.cur
  have C:=C.same B.low
  refine ⟨_,(Zh (Zl (pcT (Zif T) hr T.p_worth (Za (Zr (Zr (pv 0) rfl) rfl) (Za (Zr (Zr (pv 0) rfl) rfl) (Za (Z3 (pv 0) T.cl_Hall T.p_Hall_thread.m (Y2 T) (hr.mono (by decide)) T.p_Hall_thread.b .nil Z2 (Za (pv 1) Zb)) Zb)))))),?_⟩
  obtain ⟨hP,hl⟩:=gd.pl _ hx
  refine ⟨_,rfl,p,_,dx,_,.ref sc,rfl,B.ins,T.cl_Hall,T.a_Hall_scene,rfl,sc,_,dxs,_,.ref te,rfl,C.ins,T.cl_Scene,T.a_Scene_tent,rfl,_,rfl,p,_,dx,_,.ref sc,rfl,B.ins,T.cl_Hall,T.a_Hall_scene,rfl,sc,_,dxs,_,.ref wo,rfl,C.ins,T.cl_Scene,T.a_Scene_worths,rfl,_,rfl,p,dx,_,rfl,B.ins,rfl,_,rfl,p,x,H0,M,ns,d,S,U,ws,rfl,ha,hx,fun l hl1=>?_⟩
  have s1:Same H (upd H l (.lst (ws.map nV))):=Same.new hl1
  refine ⟨te,wo,l,M,ns,d.ks,d.g,ws,rfl,C.ten.same s1,td,h64,C.wor.same s1,gd.sw,gd.bd,Zc,hl,hP,fun r H' s' hr'=>k r H' (s1.trans s') ?_⟩
  rw [Zjg (M:=M) hP.len_pos fun q hq=>?_]
  ·exact hr'
  ·obtain ⟨m,hm⟩:=hP.has q hq
   have hlt:q < ns.length:=by rw [td.len]; exact (List.getElem?_eq_some_iff.mp hm).1
   have e:=List.getElem?_eq_getElem hlt
   have e2:ns.getD q 0=ns[q]:=by rw [List.getD_eq_getElem?_getD,e]; rfl
   rw [e2]
   have:=gd.bd _ ((gd.sw.mem _).mpr ⟨q,m,hm,e⟩)
   exact ⟨this.1,this.2.1⟩
theorem Zh1:FnScope ["tent","one","other"] ["tent","one","other"] (Zg Zdz):=⟨rfl,rfl,rfl,by decide +kernel,rfl,by decide +kernel,by decide +kernel⟩
theorem Zih (T:Txt w K mg t):FnOk P w K mg base (CXr P w) 9 t.f_alike t.d_alike ["tent","one","other"] (Zhy t.C_Tent):=by
 refine T.p_alike.F.aR Zh1 (fun cdv A outer s H vs Q E hr h=>?_)
 ·obtain ⟨p,a,b,M,ns,ws,us,rfl,ta,hMl,ha,hb,la,lb,pa,pb,k⟩:=h
  refine ⟨_,(Zh (Zl (Wn (Zcb hr.units) (pcT (Zcc T) hr T.p_least (Za (pv 0) (Za (pv 1) Zb))) (pcT (Zcc T) hr T.p_least (Za (pv 0) (Za (pv 2) Zb))) (Zs _)))),?_⟩
  refine ⟨_,rfl,_,rfl,p,a,M,ns,ws,rfl,ta,hMl,ha,la,pa,fun l1 L1 H1 s1 hl1 h1 m1=>?_⟩
  refine ⟨_,rfl,_,rfl,p,b,M,ns,us,rfl,ta.same s1,hMl,s1 _ _ hb,lb,pb,fun l2 L2 H2 s2 hl2 h2 m2=>?_⟩
  exact ⟨l1,l2,L1,L2,rfl,rfl,SqL.of (s2 _ _ h1),SqL.of h2,k L1 L2 H2 (s1.trans s2) m1 m2⟩
theorem Zbl:FnScope ["self","one","other"] ["self","one","other"] (Zg Ox):=⟨rfl,rfl,rfl,by decide +kernel,rfl,by decide +kernel,by decide +kernel⟩
theorem W5 (T:Txt w K mg t):FnOk P w K mg base (CXr P w) 10 t.f_Hall_same t.d_Hall_same ["self","one","other"] (Zba t.C_Tent t.C_Scene t.C_Hall):=by
 refine T.p_Hall_same.F.aR Zbl (fun cdv A outer s H vs Q E hr h=>?_)
 ·obtain ⟨p,x,y,H0,M,ns,d,S,U,ws,us',rfl,ha,td,gd,hx,hy,k⟩:=h
  obtain ⟨dx,be,sc,st,un,qs,us,B⟩:=id ha
  obtain ⟨dxs,te,th,po,wo,ad,C⟩:=B.cur
  have C:=C.same B.low
  refine ⟨_,(Zh (Zl (pcT (Zih T) hr T.p_alike (Za (Zr (Zr (pv 0) rfl) rfl) (Za (Z3 (pv 0) T.cl_Hall T.p_Hall_thread.m (Y2 T) (hr.mono (by decide)) T.p_Hall_thread.b .nil Z2 (Za (pv 1) Zb)) (Za (Z3 (pv 0) T.cl_Hall T.p_Hall_thread.m (Y2 T) (hr.mono (by decide)) T.p_Hall_thread.b .nil Z2 (Za (pv 2) Zb)) Zb)))))),?_⟩
  obtain ⟨hP,hl⟩:=gd.pl _ hx
  obtain ⟨hU,hv⟩:=gd.pl _ hy
  refine ⟨_,rfl,p,_,dx,_,.ref sc,rfl,B.ins,T.cl_Hall,T.a_Hall_scene,rfl,sc,_,dxs,_,.ref te,rfl,C.ins,T.cl_Scene,T.a_Scene_tent,rfl,_,rfl,p,dx,_,rfl,B.ins,rfl,_,rfl,p,x,H0,M,ns,d,S,U,ws,rfl,ha,hx,fun l hl1=>?_⟩
  have s1:Same H (upd H l (.lst (ws.map nV))):=Same.new hl1
  have e1:(upd H l (.lst (ws.map nV))) l=some (.lst (ws.map nV)):=Zc
  generalize upd H l (.lst (ws.map nV))=H1 at s1 e1 ⊢
  refine ⟨_,rfl,p,dx,_,rfl,s1 _ _ B.ins,rfl,_,rfl,p,y,H0,M,ns,d,S,U,us',rfl,ha.same s1,hy,fun l' hl2=>?_⟩
  have s2:Same H1 (upd H1 l' (.lst (us'.map nV))):=Same.new hl2
  exact ⟨te,l,l',M,ns,ws,us',rfl,C.ten.same (s1.trans s2),td.len.symm,s2 _ _ e1,Zc,Nat.le_trans hl (by decide),Nat.le_trans hv (by decide),hP,hU,fun L1 L2 H' s'=>k L1 L2 H' ((s1.trans s2).trans s')⟩
end
end KT
set_option maxHeartbeats 4000000
namespace KT
open PySem L2
theorem Zjj {L:List (Str × List Nat)} {ad:Str→Addr} {x:Str} {ws:List Nat} {w':Addr} (h:x ∉ nmL L):thV (L ++ [(x,ws)]) (fun z=>if z=x then w' else ad z)=thV L ad ++ [(x,V.ref w')]:=by
 unfold thV
 rw [List.map_append]
 congr 1
 ·refine List.map_congr_left fun y hy=>?_
  show (y.1,V.ref (if y.1=x then w' else ad y.1))=_
  rw [if_neg (fun z=>h (List.mem_map.mpr ⟨y,hy,z⟩))]
 ·show [(x,V.ref (if x=x then w' else ad x))]=_
  rw [if_pos rfl]
theorem Zep {L:List (Str × List Nat)} {ad:Str→Addr} {x:Str}:(thV L ad).filter (fun kv=>decide (kv.1≠x))=thV (L.filter fun y=>decide (y.1≠x)) ad:=by
 unfold thV
 rw [List.filter_map]
 rfl
section
variable {P:Program} {w:World} {K:PySem.W.Frag} {mg:Str→Option Value} {base:Heap} {t:Adr}
theorem Qf:FnScope ["self","text","earlier"] ["self"] (Zg O0):=⟨rfl,rfl,rfl,by decide +kernel,rfl,by decide +kernel,by decide +kernel⟩
theorem Qo (T:Txt w K mg t):FnOk P w K mg base (CXr P w) 1 t.f_Hall_back t.d_Hall_back ["self"] (Zbd t.C_Tent t.C_Scene t.C_Hall):=by
 refine T.p_Hall_back.F.aR Qf (fun cdv A outer s H vs Q E hr h=>?_)
 ·obtain ⟨p,H0,M,ns,d,d1,S,U,rfl,⟨dx,be,sc,st,un,qs,us,B⟩,hU,k⟩:=h
  refine ⟨_,(Zd (Z1 (Yf (Jf (Zr (pv 0) rfl) (fun _=>rfl))) Yt Zu)
   (Zd (Wz (Zgq PySem.F.plainAttrs_list PySem.F.slot_list_pop PySem.F.type_list_pop Zg2 (Zr (pv 0) rfl)) (W0 rfl (Zz (Zq (i:=1) Qf.nd rfl (Or.inl rfl)) (Zz (Zq (i:=2) Qf.nd rfl (Or.inl rfl)) Xk))))
   (Zd (Z8 (Wf PySem.F.plainAttrs_list PySem.F.slot_list_append PySem.F.type_list_append Xa (Zr (pv 0) rfl) (Za (Xn (Za (pv 1) (Za (Zr (pv 0) rfl) Zb))) Zb)))
   (Zh (Xe (pv 0) (pv 2) rfl))))),?_⟩
  cases qs with
  | nil=>exact B.stk.elim
  | cons q qs =>
  obtain ⟨⟨x,s1,hq,hs⟩,_⟩:=id B.stk
  have hul:=B.unk.len
  have hq1:q≠st:=fun z=>by rw [z,B.nst] at hq; cases hq
  have hqH:=B.low _ _ hq
  have n4:p≠st:=fun z=>by have:=B.sta; rw [← z,B.ins] at this; cases this
  refine ⟨_,rfl,p,_,dx,_,.ref st,rfl,B.ins,T.cl_Hall,T.a_Hall_standing,rfl,_,.inl ⟨_,SqL.of B.sta,rfl⟩,?_⟩
  rw [show ((q :: qs).reverse.map V.ref).isEmpty=false by rw [List.reverse_cons,List.map_append]; cases qs.reverse <;> rfl]
  refine iteF ?_
  refine ⟨_,rfl,p,_,dx,_,.ref st,rfl,B.ins,T.cl_Hall,T.a_Hall_standing,rfl,.inl ⟨rfl,_,SqL.of B.sta⟩,st,_,_,rfl,rfl,B.sta,Vu.1,?_⟩
  rw [Vu.2]
  have p1:(upd H st (.lst (qs.reverse.map V.ref))) p=some (.ins t.C_Hall dx (Yq be sc st un)):=by rw [Ze n4]; exact B.ins
  have u1:(upd H st (.lst (qs.reverse.map V.ref))) un=some (.lst (us.reverse.map V.ref)):=by rw [Ze (Ne.symm B.su)]; exact B.und
  have q1:(upd H st (.lst (qs.reverse.map V.ref))) q=some (.tup [.str x,.ref s1]):=by rw [Ze hq1]; exact hqH
  refine ⟨q,_,rfl,SqT.of q1,rfl,_,_,rfl,_,_,rfl,rfl,?_⟩
  refine ⟨_,rfl,p,_,dx,_,.ref un,rfl,p1,T.cl_Hall,T.a_Hall_undone,rfl,.inl ⟨rfl,_,SqL.of u1⟩,_,rfl,_,rfl,p,_,dx,_,.ref sc,rfl,p1,T.cl_Hall,T.a_Hall_scene,rfl,(by show 2≤sizeLine; decide),fun q2 hq2=>?_⟩
  obtain ⟨n2,h2⟩:=Xc hq2
  have sq:Same _ (upd (upd H st (.lst (qs.reverse.map V.ref))) q2 (.tup [V.str x,V.ref sc])):=Same.new hq2
  have n5:p≠un:=fun z=>by have:=B.und; rw [← z,B.ins] at this; cases this
  refine ⟨un,_,_,rfl,rfl,sq _ _ u1,Zx (by rw [List.length_map,List.length_reverse]; omega),?_⟩
  refine ⟨_,rfl,_,rfl,p,_,dx,_,rfl,(by rw [Ze n5]; exact sq _ _ p1),T.cl_Hall,T.a_Hall_scene,Gm _ _ _ _,?_⟩
  rw [Zfh]
  obtain ⟨H0',s0,B'⟩:=B.moved hs h2 rfl
  exact k _ H0' s0 ⟨_,_,_,_,_,_,_,B'⟩
theorem Jz:FnScope ["self","text","later"] ["self"] (Zg Ut):=⟨rfl,rfl,rfl,by decide +kernel,rfl,by decide +kernel,by decide +kernel⟩
theorem Zaw (T:Txt w K mg t):FnOk P w K mg base (CXr P w) 1 t.f_Hall_again t.d_Hall_again ["self"] (Zak t.C_Tent t.C_Scene t.C_Hall):=by
 refine T.p_Hall_again.F.aR Jz (fun cdv A outer s H vs Q E hr h=>?_)
 ·obtain ⟨p,H0,M,ns,d,d1,S,U,rfl,⟨dx,be,sc,st,un,qs,us,B⟩,hU,k⟩:=h
  refine ⟨_,(Zd (Z1 (Yf (Jf (Zr (pv 0) rfl) (fun _=>rfl))) Yt Zu)
   (Zd (Wz (Zgq PySem.F.plainAttrs_list PySem.F.slot_list_pop PySem.F.type_list_pop Zg2 (Zr (pv 0) rfl)) (W0 rfl (Zz (Zq (i:=1) Jz.nd rfl (Or.inl rfl)) (Zz (Zq (i:=2) Jz.nd rfl (Or.inl rfl)) Xk))))
   (Zd (Z8 (Wf PySem.F.plainAttrs_list PySem.F.slot_list_append PySem.F.type_list_append Xa (Zr (pv 0) rfl) (Za (Xn (Za (pv 1) (Za (Zr (pv 0) rfl) Zb))) Zb)))
   (Zh (Xe (pv 0) (pv 2) rfl))))),?_⟩
  cases us with
  | nil=>exact B.unk.elim
  | cons q us =>
  obtain ⟨⟨x,s1,hq,hs⟩,_⟩:=id B.unk
  have hul:=B.stk.len
  have hq1:q≠un:=fun z=>by rw [z,B.nun] at hq; cases hq
  have hqH:=B.low _ _ hq
  have n4:p≠un:=fun z=>by have:=B.und; rw [← z,B.ins] at this; cases this
  refine ⟨_,rfl,p,_,dx,_,.ref un,rfl,B.ins,T.cl_Hall,T.a_Hall_undone,rfl,_,.inl ⟨_,SqL.of B.und,rfl⟩,?_⟩
  rw [show ((q :: us).reverse.map V.ref).isEmpty=false by rw [List.reverse_cons,List.map_append]; cases us.reverse <;> rfl]
  refine iteF ?_
  refine ⟨_,rfl,p,_,dx,_,.ref un,rfl,B.ins,T.cl_Hall,T.a_Hall_undone,rfl,.inl ⟨rfl,_,SqL.of B.und⟩,un,_,_,rfl,rfl,B.und,Vu.1,?_⟩
  rw [Vu.2]
  have p1:(upd H un (.lst (us.reverse.map V.ref))) p=some (.ins t.C_Hall dx (Yq be sc st un)):=by rw [Ze n4]; exact B.ins
  have u1:(upd H un (.lst (us.reverse.map V.ref))) st=some (.lst (qs.reverse.map V.ref)):=by rw [Ze B.su]; exact B.sta
  have q1:(upd H un (.lst (us.reverse.map V.ref))) q=some (.tup [.str x,.ref s1]):=by rw [Ze hq1]; exact hqH
  refine ⟨q,_,rfl,SqT.of q1,rfl,_,_,rfl,_,_,rfl,rfl,?_⟩
  refine ⟨_,rfl,p,_,dx,_,.ref st,rfl,p1,T.cl_Hall,T.a_Hall_standing,rfl,.inl ⟨rfl,_,SqL.of u1⟩,_,rfl,_,rfl,p,_,dx,_,.ref sc,rfl,p1,T.cl_Hall,T.a_Hall_scene,rfl,(by show 2≤sizeLine; decide),fun q2 hq2=>?_⟩
  obtain ⟨n2,h2⟩:=Xc hq2
  have sq:Same _ (upd (upd H un (.lst (us.reverse.map V.ref))) q2 (.tup [V.str x,V.ref sc])):=Same.new hq2
  have n5:p≠st:=fun z=>by have:=B.sta; rw [← z,B.ins] at this; cases this
  refine ⟨st,_,_,rfl,rfl,sq _ _ u1,Zx (by rw [List.length_map,List.length_reverse]; omega),?_⟩
  refine ⟨_,rfl,_,rfl,p,_,dx,_,rfl,(by rw [Ze n5]; exact sq _ _ p1),T.cl_Hall,T.a_Hall_scene,Gm _ _ _ _,?_⟩
  rw [Zfh]
  have BF:=B.flip (H':=upd H p (.ins t.C_Hall dx (Yq be sc un st))) (fun b hb=>Ze hb) Zc
  have n6:q2≠p:=Yh (Same.refl _) B.ins h2
  obtain ⟨H0',s0,B'⟩:=BF.moved hs (by rw [Ze n6]; exact h2) rfl
  refine k _ H0' s0 ⟨_,_,_,_,_,_,_,B'.flip (fun b hb=>?_) Zc⟩
  rw [Ze hb,Ze hb]
  unfold upd
  rw [if_neg hb]
theorem Q6:FnScope ["self","name","word","now","threads"] ["self","name","word"] (Zg K7):=⟨rfl,rfl,rfl,by decide +kernel,rfl,by decide +kernel,by decide +kernel⟩
theorem Q7 (T:Txt w K mg t):FnOk P w K mg base (CXr P w) 7 t.f_Hall_lay t.d_Hall_lay ["self","name","word"] (Zdc t.C_Tent t.C_Scene t.C_Hall):=by
 refine T.p_Hall_lay.F.aR Q6 (fun cdv A outer s H vs Q E hr h=>?_)
 ·obtain ⟨p,a,x,H0,M,ns,d,S,U,ws,rfl,⟨dx,be,sc,st,un,qs,us,B⟩,td,hns,hS,hL,hx,hxz,e1,hn,ha,hwl,hP,k⟩:=h
  obtain ⟨dxs,te,th,po,wo,ad,C0⟩:=B.cur
  have C:=C0.same B.low
  have hu:=Xy hr
  refine ⟨_,(Zd (Zn (i:=3) Q6.nd rfl (Or.inl rfl) (Zr (pv 0) rfl))
   (Zd (Z8 (pcT (Kk T) hr T.p_look_new_name (Za (pv 3) (Za (pv 1) Zb))))
   (Zd (Z8 (pcT (Jk T) hr T.p_look_thread (Za (Zr (pv 3) rfl) (Za (pv 2) Zb))))
   (Zd (Z8 (pcT (G8 T) hr T.p_look_length (Za (pv 2) Zb)))
   (Zd (Zn (i:=4) Q6.nd rfl (Or.inl rfl) (pcT (U0 T) hr T.p_with_item (Za (Zr (pv 3) rfl) (Za (pv 1) (Za (Yx Xb (by rfl) T.n_list PySem.Pv.boot_list (Za (pv 2) Zb)) Zb)))))
   (Zh (Z8 (Z3 (pv 0) T.cl_Hall T.p_Hall_enter.m (J0 T) (hr.mono (by decide)) T.p_Hall_enter.b .nil Z2 (Za (pcT (O1 T) hr T.p_row_text (Za (Zi Qm (Y8 (Za Z4 (Za (pv 1) Zb))) (pv 2)) Zb)) (Za (Qa T.mk_Scene (Wv T) (hr.mono (by decide)) rfl T.gC_Scene T.p_Scene_init.b .nil Z2 (Za (Zr (pv 3) rfl) (Za (pv 4) (Za (Zr (pv 3) rfl) (Za (Zr (pv 3) rfl) Zb))))) Zb)))))))))),?_⟩
  refine ⟨_,rfl,p,_,dx,_,.ref sc,rfl,B.ins,T.cl_Hall,T.a_Hall_scene,rfl,?_⟩
  refine ⟨_,rfl,_,rfl,sc,dxs,th,po,_,_,x,d.L,ad,rfl,C.ins,C.thr,C.poo,hx.all,hxz,e1,hn,fun H1 s1=>?_⟩
  refine ⟨_,rfl,sc,_,dxs,_,.ref te,rfl,s1 _ _ C.ins,T.cl_Scene,T.a_Scene_tent,rfl,_,rfl,te,a,M,ns,wI ws,rfl,C.ten.same s1,td.len.symm,(by rw [← Xx]; exact s1 _ _ ha),by rw [Yy]; omega,fun H2 s2=>⟨fun _=>?_,fun e=>absurd (Uw.mpr hP) (by rw [e]; decide)⟩⟩
  have s02:=s1.trans s2
  refine ⟨_,rfl,a,_,rfl,s02 _ _ ha,by rw [List.length_map]; exact hwl,?_⟩
  have hx8:x.length≤16:=by
   unfold isN at e1
   rw [Bool.and_eq_true,Bool.and_eq_true,decide_eq_true_eq,decide_eq_true_eq] at e1
   omega
  have hrange:∀ i∈ws,i < 1000:=fun i hi=>by
   obtain ⟨m,hm⟩:=hP.has i hi
   have:=(List.getElem?_eq_some_iff.mp hm).1
   have:=td.len
   omega
  refine ⟨_,rfl,sc,_,dxs,_,.ref th,rfl,s02 _ _ C.ins,T.cl_Scene,T.a_Scene_threads,rfl,_,rfl,_,rfl,a,_,rfl,.inl (SqL.of (s02 _ _ ha)),fun w' hw'=>?_⟩
  have s3:Same H2 (upd H2 w' (.lst (ws.map nV))):=Same.new hw'
  have w3:(upd H2 w' (.lst (ws.map nV))) w'=some (.lst (ws.map nV)):=Zc
  generalize upd H2 w' (.lst (ws.map nV))=H3 at s3 w3 ⊢
  refine ⟨th,Sum.inr x,.ref w',dS (thV d.L ad),rfl,s3 _ _ (s02 _ _ C.thr),by rw [Zcz]; unfold thV; rw [List.length_map]; omega,fun th' hth'=>?_⟩
  rw [Zhh (by rw [Fj]; exact hn),← Zjj (ws:=ws) hn]
  have s4:=Same.new (o:=.dK (dS (thV (d.L ++ [(x,ws)]) fun z=>if z=x then w' else ad z))) hth'
  have h4:(upd H3 th' (.dK (dS (thV (d.L ++ [(x,ws)]) fun z=>if z=x then w' else ad z)))) th'=some (.dK (dS (thV (d.L ++ [(x,ws)]) fun z=>if z=x then w' else ad z))):=Zc
  generalize upd H3 th' (.dK (dS (thV (d.L ++ [(x,ws)]) fun z=>if z=x then w' else ad z)))=H4 at s4 h4 ⊢
  have s03:=s02.trans s3
  have s04:=s03.trans s4
  have w4:=s4 _ _ w3
  have hp4:=s04 _ _ B.ins
  refine ⟨_,rfl,p,dx,_,rfl,hp4,rfl,?_⟩
  refine ⟨_,rfl,(by show 2≤sizeLine; decide),fun l2' hl2=>?_⟩
  have s5:Same H4 (upd H4 l2' (.lst [V.str (Str.ofString "lay"),V.str x])):=Same.new hl2
  have c5:(upd H4 l2' (.lst [V.str (Str.ofString "lay"),V.str x])) l2'=some (.lst [V.str (Str.ofString "lay"),V.str x]):=Zc
  generalize upd H4 l2' (.lst [V.str (Str.ofString "lay"),V.str x])=H5 at s5 c5 ⊢
  refine ⟨_,rfl,l2',a,_,_,rfl,rfl,c5,s5 _ _ (s04 _ _ ha),by rw [List.length_map,sizeLine_eq]; show 2 + ws.length≤_; omega,fun c hc=>?_⟩
  have s6:=Same.new (o:=.lst ([V.str (Str.ofString "lay"),V.str x] ++ ws.map nV)) hc
  refine ⟨c,[.inl (Str.ofString "lay"),.inl x] ++ ws.map (fun i=>.inr (i:Int)),rfl,by rw [Zc,List.map_append,List.map_map]; rfl,by rw [List.length_append,List.length_map]; show 2 + ws.length≤900; omega,fun y hy=>?_,?_,fun H7 s7=>?_⟩
  ·rcases List.mem_append.mp hy with z | z
   ·rcases List.mem_cons.mp z with rfl | z
    ·exact True.intro
    ·rw [List.mem_singleton.mp z]; exact True.intro
   ·obtain ⟨i,hi,rfl⟩:=List.mem_map.mp z
    exact ⟨Int.natCast_nonneg _,Int.lt_trans (Int.ofNat_lt.mpr (hrange i hi)) (by decide)⟩
  ·have:=Zf4 (B:=60) (l:=[.inl (Str.ofString "lay"),.inl x] ++ ws.map (fun i=>.inr (i:Int))) fun y hy=>by
    rcases List.mem_append.mp hy with z | z
    ·rcases List.mem_cons.mp z with rfl | z
     ·show (Str.ofString "lay").length≤60
      decide
     ·rw [List.mem_singleton.mp z]; exact Nat.le_trans hx8 (by decide)
    ·obtain ⟨i,hi,rfl⟩:=List.mem_map.mp z
     exact Zl0 (Int.natCast_nonneg _) (Int.lt_trans (Int.ofNat_lt.mpr (hrange i hi)) (by decide))
   have hl:([.inl (Str.ofString "lay"),.inl x] ++ ws.map (fun i=>.inr (i:Int)):List (Str ⊕ Int)).length=2 + ws.length:=by rw [List.length_append,List.length_map]; rfl
   rw [hl] at this ⊢
   omega
  have s47:=s5.trans (s6.trans s7)
  have s07:=s04.trans s47
  have hsc7:=s07 _ _ C.ins
  generalize Txt.join (Str.ofString " ") _=rr
  refine ⟨_,rfl,sc,_,dxs,_,.ref te,rfl,hsc7,T.cl_Scene,T.a_Scene_tent,rfl,_,rfl,_,rfl,sc,_,dxs,_,.ref po,rfl,hsc7,T.cl_Scene,T.a_Scene_pools,rfl,_,rfl,sc,_,dxs,_,.ref wo,rfl,hsc7,T.cl_Scene,T.a_Scene_worths,rfl,?_⟩
  intro sc' dxs' hsc' hdxs' hne'
  refine ⟨sc',dxs',_,_,_,_,rfl,Zc,rfl,?_⟩
  rw [Xg]
  have s8:Same H7 (upd (upd H7 dxs' (.own sc')) sc' (.ins t.C_Scene dxs' (Y6 (.ref te) (.ref th') (.ref po) (.ref wo)))):=Same.add (Same.new hdxs') hsc'
  have c8:(upd (upd H7 dxs' (.own sc')) sc' (.ins t.C_Scene dxs' (Y6 (.ref te) (.ref th') (.ref po) (.ref wo)))) sc'=some (.ins t.C_Scene dxs' (Y6 (.ref te) (.ref th') (.ref po) (.ref wo))):=Zc
  generalize upd (upd H7 dxs' (.own sc')) sc' (.ins t.C_Scene dxs' (Y6 (.ref te) (.ref th') (.ref po) (.ref wo)))=H8 at s8 c8 ⊢
  have s08:=s07.trans s8
  have s48:=s47.trans s8
  have hql:=B.stk.len
  have C8:=C0.same (Vb (B.low.trans s08) B.np B.nst B.nun)
  have nw:∀ {HX:Hp} {b:Addr} {u:HO},Same H HX→HX b=none→H8 b=some u→Rs H8 p st un b=some u:=fun {HX b u} sx hb e=>Rs.at e (Yh sx B.ins hb) (Yh sx B.sta hb) (Yh sx B.und hb)
  have S8:Sc t.C_Tent t.C_Scene (Rs H8 p st un) sc' M ns ⟨d.L ++ [(x,ws)],d.ks,d.g⟩:=⟨dxs',te,th',po,wo,_,nw s07 hsc' c8,nw s03 hth' (s48 _ _ h4),fun y hy=>(by
   rcases List.mem_append.mp hy with z | z
   ·try dsimp only
    rw [if_neg (fun e=>hn (List.mem_map.mpr ⟨y,z,e⟩))]
    exact C8.wrd y z
   ·rw [List.mem_singleton.mp z]
    try dsimp only
    rw [if_pos rfl]
    exact nw s02 hw' (s48 _ _ w4)),C8.poo,C8.ten,C8.wor⟩
  refine ⟨p,dx,be,sc,st,un,sc',rr,qs.reverse.map V.ref,rfl,s08 _ _ B.ins,s08 _ _ B.sta,by rw [List.length_map,List.length_reverse]; omega,fun q un' H9 hq hun o9 p9 st9 q9 u9=>?_⟩
  obtain ⟨H0',z1,z2⟩:=B.entered s08 S8 hq hun o9 p9 st9 q9 u9
  exact k H9 H0' z1 z2
end
end KT
set_option maxHeartbeats 4000000
namespace KT
open PySem L2
section
variable {P:Program} {w:World} {K:PySem.W.Frag} {mg:Str→Option Value} {base:Heap} {t:Adr}
theorem Qe:FnScope ["self","name","now","threads","pools"] ["self","name"] (Zg Oy):=⟨rfl,rfl,rfl,by decide +kernel,rfl,by decide +kernel,by decide +kernel⟩
theorem Zcg (T:Txt w K mg t):FnOk P w K mg base (CXr P w) 3 t.f_Hall_lift t.d_Hall_lift ["self","name"] (Zbb t.C_Tent t.C_Scene t.C_Hall):=by
 refine T.p_Hall_lift.F.aR Qe (fun cdv A outer s H vs Q E hr h=>?_)
 ·obtain ⟨p,x,H0,M,ns,d,S,U,rfl,⟨dx,be,sc,st,un,qs,us,B⟩,hS,hL,nd,hx,hxz,hin,k⟩:=h
  obtain ⟨dxs,te,th,po,wo,ad,C0⟩:=B.cur
  have C:=C0.same B.low
  have hu:=Xy hr
  refine ⟨_,(Zd (Zn (i:=2) Qe.nd rfl (Or.inl rfl) (Zr (pv 0) rfl))
   (Zd (Z1 (PW.pt (K9 (Vg (Qz hu (pv 1) (Zr (pv 2) rfl)) (by with_unfolding_all rfl)) (U9 (Vg (Qz hu (pv 1) (Zr (pv 2) rfl)) (by with_unfolding_all rfl))))) Yt Zu)
   (Zd (Vh (i:=3) (j:=4) rfl Qe.nd rfl rfl (by decide) rfl rfl (Za (pcT (Q1 T) hr T.p_without_item (Za (Zr (pv 2) rfl) (Za (pv 1) Zb))) (Za (pcT (Q1 T) hr T.p_without_item (Za (Zr (pv 2) rfl) (Za (pv 1) Zb))) Zb)) (by rfl))
   (Zh (Z8 (Z3 (pv 0) T.cl_Hall T.p_Hall_enter.m (J0 T) (hr.mono (by decide)) T.p_Hall_enter.b .nil Z2 (Za (pcT (O1 T) hr T.p_row_text (Za (Y8 (Za Z4 (Za (pv 1) Zb))) Zb)) (Za (Qa T.mk_Scene (Wv T) (hr.mono (by decide)) rfl T.gC_Scene T.p_Scene_init.b .nil Z2 (Za (Zr (pv 2) rfl) (Za (pv 3) (Za (pv 4) (Za (Zr (pv 2) rfl) Zb))))) Zb)))))))),?_⟩
  refine ⟨_,rfl,p,_,dx,_,.ref sc,rfl,B.ins,T.cl_Hall,T.a_Hall_scene,rfl,?_⟩
  have g:=Gu (x:=x) C.thr
  rw [if_pos hin] at g
  refine ⟨_,rfl,_,rfl,sc,_,dxs,_,.ref th,rfl,C.ins,T.cl_Scene,T.a_Scene_threads,rfl,th,_,rfl,g,_,rfl,iteF (iteF ?_)⟩
  refine ⟨_,rfl,sc,_,dxs,_,.ref th,rfl,C.ins,T.cl_Scene,T.a_Scene_threads,rfl,_,rfl,th,x,thV d.L ad,rfl,C.thr,by unfold thV; rw [List.length_map]; omega,by rw [Fj]; exact nd,fun th' H1 s1 hth' h1=>?_⟩
  refine ⟨_,rfl,sc,_,dxs,_,.ref po,rfl,s1 _ _ C.ins,T.cl_Scene,T.a_Scene_pools,rfl,_,rfl,po,x,[],rfl,s1 _ _ C.poo,by show 0≤900; omega,List.nodup_nil,fun po' H4 s4 hpo' h4=>?_⟩
  have s04:=s1.trans s4
  have hp4:=s04 _ _ B.ins
  refine ⟨_,_,rfl,_,rfl,p,dx,_,rfl,hp4,rfl,?_⟩
  refine ⟨_,rfl,(by show 2≤sizeLine; decide),fun l2' hl2=>?_⟩
  have s6:=Same.new (o:=.lst [V.str (Str.ofString "lift"),V.str x]) hl2
  refine ⟨l2',[.inl (Str.ofString "lift"),.inl x],rfl,Zc,(by show 2≤900; decide),fun y hy=>?_,?_,fun H7 s7=>?_⟩
  ·rcases List.mem_cons.mp hy with rfl | hy
   ·exact True.intro
   ·rw [List.mem_singleton.mp hy]; exact True.intro
  ·show ((Str.ofString "lift").length + (x.length + 0)) + 2≤1048576
   have:(Str.ofString "lift").length=4:=by decide
   omega
  have s47:=s6.trans s7
  have s07:=s04.trans s47
  have hsc7:=s07 _ _ C.ins
  generalize Txt.join (Str.ofString " ") _=rr
  refine ⟨_,rfl,sc,_,dxs,_,.ref te,rfl,hsc7,T.cl_Scene,T.a_Scene_tent,rfl,_,rfl,_,rfl,_,rfl,sc,_,dxs,_,.ref wo,rfl,hsc7,T.cl_Scene,T.a_Scene_worths,rfl,?_⟩
  intro sc' dxs' hsc' hdxs' hne'
  refine ⟨sc',dxs',_,_,_,_,rfl,Zc,rfl,?_⟩
  rw [Xg]
  have s8:Same H7 (upd (upd H7 dxs' (.own sc')) sc' (.ins t.C_Scene dxs' (Y6 (.ref te) (.ref th') (.ref po') (.ref wo)))):=Same.add (Same.new hdxs') hsc'
  have c8:(upd (upd H7 dxs' (.own sc')) sc' (.ins t.C_Scene dxs' (Y6 (.ref te) (.ref th') (.ref po') (.ref wo)))) sc'=some (.ins t.C_Scene dxs' (Y6 (.ref te) (.ref th') (.ref po') (.ref wo))):=Zc
  generalize upd (upd H7 dxs' (.own sc')) sc' (.ins t.C_Scene dxs' (Y6 (.ref te) (.ref th') (.ref po') (.ref wo)))=H8 at s8 c8 ⊢
  have s08:=s07.trans s8
  have s48:=s47.trans s8
  have hql:=B.stk.len
  have C8:=C0.same (Vb (B.low.trans s08) B.np B.nst B.nun)
  have nw:∀ {HX:Hp} {b:Addr} {u:HO},Same H HX→HX b=none→H8 b=some u→Rs H8 p st un b=some u:=fun {HX b u} sx hb e=>Rs.at e (Yh sx B.ins hb) (Yh sx B.sta hb) (Yh sx B.und hb)
  rw [Zep] at h1
  have S8:Sc t.C_Tent t.C_Scene (Rs H8 p st un) sc' M ns ⟨d.L.filter fun y=>decide (y.1≠x),d.ks,d.g⟩:=⟨dxs',te,th',po',wo,ad,nw s07 hsc' c8,nw (Same.refl _) hth' ((s4.trans s48) _ _ h1),fun y hy=>C8.wrd y (List.mem_filter.mp hy).1,nw s1 hpo' (s48 _ _ h4),C8.ten,C8.wor⟩
  refine ⟨p,dx,be,sc,st,un,sc',rr,qs.reverse.map V.ref,rfl,s08 _ _ B.ins,s08 _ _ B.sta,by rw [List.length_map,List.length_reverse]; omega,fun q un' H9 hq hun o9 p9 st9 q9 u9=>?_⟩
  obtain ⟨H0',z1,z2⟩:=B.entered s08 S8 hq hun o9 p9 st9 q9 u9
  exact k H9 H0' z1 z2
theorem Wa:FnScope ["self","seam","top","bottom","now","parts","worths","text"] ["self","seam","top","bottom"] (Zg Uq):=⟨rfl,rfl,rfl,by decide +kernel,rfl,by decide +kernel,by decide +kernel⟩
theorem Zau (T:Txt w K mg t):FnOk P w K mg base (CXr P w) 3 t.f_Hall_weigh t.d_Hall_weigh ["self","seam","top","bottom"] (Zah t.C_Tent t.C_Scene t.C_Hall):=by
 refine T.p_Hall_weigh.F.aR Wa (fun cdv A outer s H vs Q E hr h=>?_)
 ·obtain ⟨p,x,m,n,H0,M,ns,d,S,U,rfl,⟨dx,be,sc,st,un,qs,us,B⟩,td,hS,sw,h64,hx,hm,hn,hm1,hn1,k⟩:=h
  obtain ⟨dxs,te,th,po,wo,ad,C0⟩:=B.cur
  have C:=C0.same B.low
  have hu:=Xy hr
  refine ⟨_,(Zd (Zn (i:=4) Wa.nd rfl (Or.inl rfl) (Zr (pv 0) rfl))
   (Zd (Z1 (Zt Xq (Z3 (Zr (pv 4) rfl) T.cl_Tent T.p_Tent_sort_of.m (Q3 T) (hr.mono (by decide)) T.p_Tent_sort_of.b .nil Z2 (Za (pv 1) Zb)) Z4 (Zs _)) Yt Zu)
   (Zd (Zn (i:=5) Wa.nd rfl (Or.inl rfl) (pcT (O3 T) hr T.p_fraction (Za (pv 2) (Za (pv 3) Zb))))
   (Zd (Z8 (pcT (Zas T) hr T.p_look_parts (Za (pv 5) Zb)))
   (Zd (Zn (i:=6) Wa.nd rfl (Or.inl rfl) (pcT (U0 T) hr T.p_with_item (Za (Zr (pv 4) rfl) (Za (pv 1) (Za (pv 5) Zb)))))
   (Zd (Zn (i:=7) Wa.nd rfl (Or.inl rfl) (Zkd (Zb4 (Zb5 (pv 1) (Zb4 (Zb5 (Zv Wj (pv 5) Zf (fun _ _=>rfl)) (Zb4 (Zb5 (Zv Wj (pv 5) Zf (fun _ _=>rfl)) Zlh))))))))
   (Zh (Z8 (Z3 (pv 0) T.cl_Hall T.p_Hall_enter.m (J0 T) (hr.mono (by decide)) T.p_Hall_enter.b .nil Z2 (Za (pv 7) (Za (Qa T.mk_Scene (Wv T) (hr.mono (by decide)) rfl T.gC_Scene T.p_Scene_init.b .nil Z2 (Za (Zr (pv 4) rfl) (Za (Zr (pv 4) rfl) (Za (Zr (pv 4) rfl) (Za (pv 6) Zb))))) Zb))))))))))),?_⟩
  refine ⟨_,rfl,p,_,dx,_,.ref sc,rfl,B.ins,T.cl_Hall,T.a_Hall_scene,rfl,?_⟩
  obtain ⟨hk,hrim⟩:=Zjo td sw hx
  obtain ⟨dt,cl,na,sp,mt,o,f,BT⟩:=id C.ten
  refine ⟨_,rfl,sc,_,dxs,_,.ref te,rfl,C.ins,T.cl_Scene,T.a_Scene_tent,rfl,te,dt,_,rfl,BT.ins,Xm _ _ _ _,_,rfl,te,M,ns,x,rfl,C.ten,td,fun _ H1 s1=>?_,fun z=>absurd hk z⟩
  refine ⟨rfl,_,rfl,?_⟩
  rw [decide_eq_false (fun z=>hrim (by injection z))]
  refine iteF ?_
  refine ⟨_,rfl,_,rfl,m,n,rfl,fun m' n' ea eb _ _=>?_,fun z=>absurd z (by omega)⟩
  have ea:m=m':=by omega
  have eb:n=n':=by omega
  subst ea eb
  refine ⟨Gg hm (Nat.lt_of_le_of_lt hm1 (by decide +kernel)),fun q hq=>?_⟩
  have hlo:=Oc m n
  have hlo1:(lowN m n).1≤100:=Nat.le_trans hlo.1 hm1
  have hlo2:(lowN m n).2≤100:=Nat.le_trans hlo.2 hn1
  generalize lowN m n=v at *
  have s2:Same H1 (upd H1 q (tp v)):=Same.new hq
  have q2:(upd H1 q (tp v)) q=some (tp v):=Zc
  have hqH:=s1.free hq
  generalize upd H1 q (tp v)=H2 at s2 q2 ⊢
  have s02:=s1.trans s2
  refine ⟨_,rfl,q,v,rfl,q2,by omega,by omega,?_⟩
  obtain ⟨aw,w1,w2⟩:=C.wor
  have hkl:d.ks.length≤900:=by have:=sw.len td; omega
  refine ⟨_,rfl,sc,_,dxs,_,.ref wo,rfl,s02 _ _ C.ins,T.cl_Scene,T.a_Scene_worths,rfl,_,rfl,_,rfl,wo,Sum.inl x,.ref q,wD d.ks aw,rfl,s02 _ _ w1,by rw [Q9]; exact hkl,fun wo' hwo'=>?_⟩
  have W:=WAt.put (d:=wo') (H:=upd H2 wo' (.dK (wD d.ks aw))) Zc (fun y hy=>Same.new hwo' _ _ (s02 _ _ (w2 y hy))) (Same.new hwo' _ _ q2) hx
  rw [Xg] at W
  have s3:Same H2 (upd H2 wo' (.dK (putK (wD d.ks aw) (Sum.inl x) (V.ref q)))):=Same.new hwo'
  generalize upd H2 wo' (.dK (putK (wD d.ks aw) (Sum.inl x) (V.ref q)))=H3 at s3 W ⊢
  have s03:=s02.trans s3
  have q3:=s3 _ _ q2
  have xr:=td.rng
  obtain ⟨i,hi,hxi⟩:=X8.mp hk
  have xr:=xr i x hxi
  have sm:∀ i:Int,0≤i→i≤9999→i.natAbs.log2 < 1920∧(toString i:Str).length≤60:=fun i h0 h1=>⟨Nat.lt_trans (log2_lt (k:=14) (by show _ < 16384; omega) (by decide)) (by decide),Fd h0 (Int.lt_of_le_of_lt h1 (by decide))⟩
  obtain ⟨x1,x2⟩:=sm x xr.1 xr.2
  obtain ⟨a1,a2⟩:=sm v.1 (by omega) (by omega)
  obtain ⟨b1,b2⟩:=sm v.2 (by omega) (by omega)
  have l0:Str.empty.length=0:=rfl
  have l1:(Str.ofString "weigh ").length=6:=by decide
  have l2:(Str.ofString " ").length=1:=by decide
  have l3:(Str.ofString "/").length=1:=by decide
  have ln:∀ {n:Nat},n≤1000→n≤sizeLine:=fun h=>by rw [sizeLine_eq]; omega
  refine ⟨ln ?_,_,rfl,x,rfl,x1,ln ?_,ln ?_,_,rfl,q,_,_,_,rfl,rfl,SqT.of q3,rfl,v.1,rfl,a1,ln ?_,ln ?_,_,rfl,q,_,_,_,rfl,rfl,SqT.of q3,rfl,v.2,rfl,b1,ln ?_,ln ?_,?_⟩
  iterate 7
   ·simp only [Str.length_append]
    omega
  try dsimp only [Zp]
  generalize (_:Str) ++ _=rr
  have s07:=s03
  have hsc7:=s07 _ _ C.ins
  refine ⟨_,rfl,p,dx,_,rfl,s07 _ _ B.ins,rfl,?_⟩
  refine ⟨_,rfl,_,rfl,sc,_,dxs,_,.ref te,rfl,hsc7,T.cl_Scene,T.a_Scene_tent,rfl,_,rfl,sc,_,dxs,_,.ref th,rfl,hsc7,T.cl_Scene,T.a_Scene_threads,rfl,_,rfl,sc,_,dxs,_,.ref po,rfl,hsc7,T.cl_Scene,T.a_Scene_pools,rfl,_,rfl,?_⟩
  intro sc' dxs' hsc' hdxs' hne'
  refine ⟨sc',dxs',_,_,_,_,rfl,Zc,rfl,?_⟩
  rw [Xg]
  have s8:Same H3 (upd (upd H3 dxs' (.own sc')) sc' (.ins t.C_Scene dxs' (Y6 (.ref te) (.ref th) (.ref po) (.ref wo')))):=Same.add (Same.new hdxs') hsc'
  have c8:(upd (upd H3 dxs' (.own sc')) sc' (.ins t.C_Scene dxs' (Y6 (.ref te) (.ref th) (.ref po) (.ref wo')))) sc'=some (.ins t.C_Scene dxs' (Y6 (.ref te) (.ref th) (.ref po) (.ref wo'))):=Zc
  generalize upd (upd H3 dxs' (.own sc')) sc' (.ins t.C_Scene dxs' (Y6 (.ref te) (.ref th) (.ref po) (.ref wo')))=H8 at s8 c8 ⊢
  have s08:=s07.trans s8
  have hql:=B.stk.len
  have C8:=C0.same (Vb (B.low.trans s08) B.np B.nst B.nun)
  have nw:∀ {HX:Hp} {b:Addr} {u:HO},Same H HX→HX b=none→H8 b=some u→Rs H8 p st un b=some u:=fun {HX b u} sx hb e=>Rs.at e (Yh sx B.ins hb) (Yh sx B.sta hb) (Yh sx B.und hb)
  obtain ⟨aw',e1,e2⟩:=W
  have S8:Sc t.C_Tent t.C_Scene (Rs H8 p st un) sc' M ns ⟨d.L,d.ks,putG d.g x v⟩:=⟨dxs',te,th,po,wo',ad,nw s07 hsc' c8,C8.thr,C8.wrd,C8.poo,C8.ten,aw',nw s02 hwo' (s8 _ _ e1),fun y hy=>by
   have e:=s8 _ _ (e2 y hy)
   exact Rs.at e (fun z=>by rw [z,s08 _ _ B.ins] at e; cases e) (fun z=>by rw [z,s08 _ _ B.sta] at e; cases e) (fun z=>by rw [z,s08 _ _ B.und] at e; cases e)⟩
  refine ⟨p,dx,be,sc,st,un,sc',rr,qs.reverse.map V.ref,rfl,s08 _ _ B.ins,s08 _ _ B.sta,by rw [List.length_map,List.length_reverse]; omega,fun q un' H9 hq hun o9 p9 st9 q9 u9=>?_⟩
  obtain ⟨H0',z1,z2⟩:=B.entered s08 S8 hq hun o9 p9 st9 q9 u9
  exact k H9 H0' z1 z2
end
end KT
set_option maxHeartbeats 4000000
namespace KT
open PySem L2
noncomputable def Zhv:Sp:=fun vs H Q _=>∃ b:Bool,vs=[.bl b,.bl b]∧Q (.bl true) H
noncomputable def Zf8 (CT CS CH:Addr):Sp:=fun vs H Q _=>∃ (p m r dd a b:Addr) (H0:Hp) (M:List (Option Nat)) (ns ks':List Int) (d:Sd) (S U:List Sd) (ws us:List Nat),vs=[.ref p,.ref m,.ref r,.ref dd,.ref a,.ref b]∧Yc CT CS CH H H0 p M ns d S U∧TD M ns∧ns.length < 64∧Gd5 M ns d∧(("a":Str),ws)∈d.L∧(("b":Str),us)∈d.L ∧
 H m=some (.lst (M.map mV))∧Yp H r ns∧WAt H dd ks' d.g∧SwK M ns ks'∧H a=some (.lst (ws.map nV))∧H b=some (.lst (us.map nV))∧∀ H',Same H H'→Q (.bl true) H'
section
variable {P:Program} {w:World} {K:PySem.W.Frag} {mg:Str→Option Value} {base:Heap} {t:Adr}
theorem Ze3:FnScope ["_law_found","_law_due"] ["_law_found","_law_due"] (Zg Fr):=⟨rfl,rfl,rfl,by decide +kernel,rfl,by decide +kernel,by decide +kernel⟩
theorem J6 (T:Txt w K mg t):FnOk P w K mg base (CXr P w) 1 t.f_l_truth t.d_l_truth ["_law_found","_law_due"] Zhv:=by
 refine T.p_l_truth.F.aR Ze3 (fun cdv A outer s H vs Q E hr h=>?_)
 ·obtain ⟨b,rfl,k⟩:=h
  refine ⟨_,(Zh (Zl (Qk (Zo We (by rfl) T.n_isinstance PyProof.Rows.boot_isinstance (Za (pv 0) (Za (Qb (v:=.ty "bool") (by rfl) T.n_bool PySem.Pv.boot_bool rfl) Zb))) (Vj (Wn Xq (pv 0) (pv 1) (Zs _)))))),?_⟩
  refine ⟨_,rfl,_,"bool",_,true,rfl,TyOf.bl b,Qp,_,rfl,iteT ?_⟩
  refine ⟨_,rfl,_,rfl,?_⟩
  cases b <;> exact ⟨rfl,k⟩
theorem Va:FnScope ["_law_hall","_law_mates","_law_rows_here","_law_worths_here","_law_one","_law_other","_law_due"] ["_law_hall","_law_mates","_law_rows_here","_law_worths_here","_law_one","_law_other"] (Zg V9):=⟨rfl,rfl,rfl,by decide +kernel,rfl,by decide +kernel,by decide +kernel⟩
theorem Xl (T:Txt w K mg t):FnOk P w K mg base (CXr P w) 11 t.f_l_stands_so t.d_l_stands_so ["_law_hall","_law_mates","_law_rows_here","_law_worths_here","_law_one","_law_other"] (Zf8 t.C_Tent t.C_Scene t.C_Hall):=by
 refine T.p_l_stands_so.F.aR Va (fun cdv A outer s H vs Q E hr h=>?_)
 ·obtain ⟨p,m,r,dd,a,b,H0,M,ns,ks',d,S,U,ws,us,rfl,ha,td,h64,gd,hx,hy,hm,hrw,wa,sw,h1,h2,k⟩:=h
  refine ⟨_,(Zd (Z1 (PW.pt (Wl (Yf (Yn (pcT (Q2 T) hr T.p_l_list (Za (Z3 (pv 0) T.cl_Hall T.p_Hall_thread.m (Y2 T) (hr.mono (by decide)) T.p_Hall_thread.b .nil Z2 (Za Z4 Zb)) (Za (pv 4) Zb))))) (Wb (Yf (Yn (pcT (Q2 T) hr T.p_l_list (Za (Z3 (pv 0) T.cl_Hall T.p_Hall_thread.m (Y2 T) (hr.mono (by decide)) T.p_Hall_thread.b .nil Z2 (Za Z4 Zb)) (Za (pv 5) Zb)))))))) (Zh (Zl Xp)) Zu)
   (Zd (Z1 (Yf (Yn (pcT (Fx T) hr T.p_l_pair (Za (Z3 (pv 0) T.cl_Hall T.p_Hall_worth_of.m (Qn T) (hr.mono (by decide)) T.p_Hall_worth_of.b .nil Z2 (Za Z4 Zb)) (Za (pcT (Gc T) hr T.p_l_worth (Za (pv 1) (Za (pv 2) (Za (pv 3) (Za (pv 4) Zb))))) Zb))))) (Zh (Zl Xp)) Zu)
   (Zd (Zn (i:=6) Va.nd rfl (Or.inl rfl) (Wn (Zcb hr.units) (pcT (Gd T) hr T.p_l_least (Za (pv 1) (Za (pv 4) Zb))) (pcT (Gd T) hr T.p_l_least (Za (pv 1) (Za (pv 5) Zb))) (Zs _)))
   (Zd (Z1 (PW.pt (Wl (Yf (Yn (pcT (J6 T) hr T.p_l_truth (Za (Z3 (pv 0) T.cl_Hall T.p_Hall_same.m (W5 T) (hr.mono (by decide)) T.p_Hall_same.b .nil Z2 (Za Z4 (Za Z4 Zb))) (Za (pv 6) Zb))))) (Wb (Yf (Yn (pcT (J6 T) hr T.p_l_truth (Za (Z3 (pv 0) T.cl_Hall T.p_Hall_same.m (W5 T) (hr.mono (by decide)) T.p_Hall_same.b .nil Z2 (Za Z4 (Za Z4 Zb))) (Za (pv 6) Zb)))))))) (Zh (Zl Xp)) Zu)
   (Zd (Z1 (PW.pt (Wl (Yf (Yn (pcT (J6 T) hr T.p_l_truth (Za (Z3 (pv 0) T.cl_Hall T.p_Hall_same.m (W5 T) (hr.mono (by decide)) T.p_Hall_same.b .nil Z2 (Za Z4 (Za Z4 Zb))) (Za Xp Zb))))) (Wb (Yf (Yn (pcT (J6 T) hr T.p_l_truth (Za (Z3 (pv 0) T.cl_Hall T.p_Hall_same.m (W5 T) (hr.mono (by decide)) T.p_Hall_same.b .nil Z2 (Za Z4 (Za Z4 Zb))) (Za Xp Zb)))))))) (Zh (Zl Xp)) Zu)
   (Zd (Z1 (PW.pt (Wl (Yf (Yn (pcT (Q2 T) hr T.p_l_list (Za (Z3 (pv 0) T.cl_Hall T.p_Hall_thread.m (Y2 T) (hr.mono (by decide)) T.p_Hall_thread.b .nil Z2 (Za Z4 Zb)) (Za (pv 4) Zb))))) (Wb (Yf (Yn (pcT (Q2 T) hr T.p_l_list (Za (Z3 (pv 0) T.cl_Hall T.p_Hall_thread.m (Y2 T) (hr.mono (by decide)) T.p_Hall_thread.b .nil Z2 (Za Z4 Zb)) (Za (pv 5) Zb)))))))) (Zh (Zl Xp)) Zu)
   (Zh (Zl (pcT (Fx T) hr T.p_l_pair (Za (Z3 (pv 0) T.cl_Hall T.p_Hall_worth_of.m (Qn T) (hr.mono (by decide)) T.p_Hall_worth_of.b .nil Z2 (Za Z4 Zb)) (Za (pcT (Gc T) hr T.p_l_worth (Za (pv 1) (Za (pv 2) (Za (pv 3) (Za (pv 5) Zb))))) Zb))))))))))),?_⟩
  obtain ⟨dx,be,sc,st,un,qs,us',B⟩:=id ha
  obtain ⟨hP,hl⟩:=gd.pl _ hx
  obtain ⟨hU,hv⟩:=gd.pl _ hy
  have bd':∀ x∈ks',1≤(d.g x).1∧1≤(d.g x).2∧(d.g x).1≤100∧(d.g x).2≤100:=fun x hx=>gd.bd x ((gd.sw.mem x).mpr ((sw.mem x).mp hx))
  have hl':(wI ws).length≤100000:=by rw [Yy]; exact Nat.le_trans hl (by decide)
  have hv':(wI us).length≤100000:=by rw [Yy]; exact Nat.le_trans hv (by decide)
  have hl2:ws.length≤10000:=Nat.le_trans hl (by decide)
  have hv2:us.length≤10000:=Nat.le_trans hv (by decide)
  refine Zk fun nxC hnxC=>?_
  refine ⟨_,rfl,p,dx,_,rfl,B.ins,rfl,p,"a",H0,M,ns,d,S,U,ws,rfl,ha,hx,fun l hl1=>?_⟩
  have s1:Same H (upd H l (.lst (ws.map nV))):=Same.new hl1
  refine ⟨_,rfl,l,a,wI ws,rfl,by rw [← Xx]; exact Zc,by rw [← Xx]; exact s1 _ _ h1,hl',_,rfl,iteF ?_⟩
  generalize upd H l (.lst (ws.map nV))=H1 at s1 ⊢
  refine ⟨_,rfl,p,dx,_,rfl,s1 _ _ B.ins,rfl,p,"b",H0,M,ns,d,S,U,us,rfl,ha.same s1,hy,fun l' hlq=>?_⟩
  have s2:Same H1 (upd H1 l' (.lst (us.map nV))):=Same.new hlq
  have s02:=s1.trans s2
  refine ⟨_,rfl,l',b,wI us,rfl,by rw [← Xx]; exact Zc,by rw [← Xx]; exact s02 _ _ h2,hv',_,rfl,iteF ?_⟩
  try dsimp only [Xf]
  refine hnxC _ _ ?_
  generalize upd H1 l' (.lst (us.map nV))=H2 at s02 ⊢
  clear s1 s2 hl1
  refine Zk fun nxC hnxC=>?_
  refine ⟨_,rfl,p,dx,_,rfl,s02 _ _ B.ins,rfl,p,"a",H0,M,ns,d,S,U,ws,rfl,ha.same s02,td,h64,gd,hx,fun r1 H3 s3 hr1=>?_⟩
  have s03:=s02.trans s3
  refine ⟨_,rfl,_,rfl,_,rfl,_,rfl,m,r,dd,a,M,ns,ks',d.g,ws,rfl,s03 _ _ hm,hrw.same s03,td,wa.same s03,sw,bd',s03 _ _ h1,hl,hP,fun du hdu=>?_⟩
  have s4:=Same.new (o:=tp (wor d.g M ns ws)) hdu
  refine ⟨r1,du,_,rfl,s4 _ _ hr1,Zc,_,rfl,iteF ?_⟩
  try dsimp only [Xf]
  refine hnxC _ _ ?_
  have s04:=s03.trans s4
  generalize upd H3 du (tp (wor d.g M ns ws))=H4 at s04 ⊢
  clear s3 s4 hr1 hdu s03 s02
  refine Zk fun nxC hnxC=>?_
  refine ⟨_,rfl,_,rfl,m,a,M,ws,rfl,s04 _ _ hm,s04 _ _ h1,hl2,hP,fun d1 L1 H5 s5 hd1 h5 m1=>?_⟩
  have s05:=s04.trans s5
  refine ⟨_,rfl,_,rfl,m,b,M,us,rfl,s05 _ _ hm,s05 _ _ h2,hv2,hU,fun d2 L2 H6 s6 hd2 h6 m2=>?_⟩
  refine ⟨d1,d2,L1,L2,rfl,rfl,SqL.of (s6 _ _ h5),SqL.of h6,?_⟩
  refine hnxC _ _ ?_
  try dsimp only [Zp]
  have s06:=s05.trans s6
  clear s5 s6 h5 h6 hd1 hd2 s04 s05
  refine Zk fun nxC hnxC=>?_
  refine ⟨_,rfl,p,dx,_,rfl,s06 _ _ B.ins,rfl,p,"a","b",H0,M,ns,d,S,U,ws,us,rfl,ha.same s06,td,gd,hx,hy,fun A1 A2 H7 s7 e1 e2=>?_⟩
  have:=e1.eq m1 fun _=>Iff.rfl
  subst this
  have:=e2.eq m2 fun _=>Iff.rfl
  subst this
  have s07:=s06.trans s7
  refine ⟨_,rfl,decide (A1=A2),rfl,_,rfl,iteF ?_⟩
  refine ⟨_,rfl,p,dx,_,rfl,s07 _ _ B.ins,rfl,p,"b","a",H0,M,ns,d,S,U,us,ws,rfl,ha.same s07,td,gd,hy,hx,fun B2 B1 H8 s8 e3 e4=>?_⟩
  have:=e3.eq m2 fun _=>Iff.rfl
  subst this
  have:=e4.eq m1 fun _=>Iff.rfl
  subst this
  rw [show decide (B2=B1)=decide (B1=B2) from decide_eq_decide.mpr eq_comm]
  have s08:=s07.trans s8
  refine ⟨_,rfl,decide (B1=B2),rfl,_,rfl,iteF ?_⟩
  try dsimp only [Xf]
  refine hnxC _ _ ?_
  clear s7 s8 e1 e2 e3 e4 s06 s07
  refine Zk fun nxC hnxC=>?_
  refine ⟨_,rfl,p,dx,_,rfl,s08 _ _ B.ins,rfl,p,"a","a",H0,M,ns,d,S,U,ws,ws,rfl,ha.same s08,td,gd,hx,hx,fun A1 A2 H9 s9 e1 e2=>?_⟩
  have:=e1.eq e2 fun _=>Iff.rfl
  subst this
  rw [decide_eq_true rfl]
  have s09:=s08.trans s9
  refine ⟨true,rfl,_,rfl,iteF ?_⟩
  refine ⟨_,rfl,p,dx,_,rfl,s09 _ _ B.ins,rfl,p,"b","b",H0,M,ns,d,S,U,us,us,rfl,ha.same s09,td,gd,hy,hy,fun A1 A2 HA sA e1 e2=>?_⟩
  have:=e1.eq e2 fun _=>Iff.rfl
  subst this
  rw [decide_eq_true rfl]
  have s0A:=s09.trans sA
  refine ⟨true,rfl,_,rfl,iteF ?_⟩
  try dsimp only [Xf]
  refine hnxC _ _ ?_
  clear sA s9 s08 s09
  refine Zk fun nxC hnxC=>?_
  refine ⟨_,rfl,p,dx,_,rfl,s0A _ _ B.ins,rfl,p,"a",H0,M,ns,d,S,U,ws,rfl,ha.same s0A,hx,fun l hl1=>?_⟩
  have s1:Same HA (upd HA l (.lst (ws.map nV))):=Same.new hl1
  have s0B:=s0A.trans s1
  refine ⟨_,rfl,l,a,wI ws,rfl,by rw [← Xx]; exact Zc,by rw [← Xx]; exact s0B _ _ h1,hl',_,rfl,iteF ?_⟩
  generalize upd HA l (.lst (ws.map nV))=HB at s0B ⊢
  refine ⟨_,rfl,p,dx,_,rfl,s0B _ _ B.ins,rfl,p,"b",H0,M,ns,d,S,U,us,rfl,ha.same s0B,hy,fun l' hlq=>?_⟩
  have s2:Same HB (upd HB l' (.lst (us.map nV))):=Same.new hlq
  have s0C:=s0B.trans s2
  refine ⟨_,rfl,l',b,wI us,rfl,by rw [← Xx]; exact Zc,by rw [← Xx]; exact s0C _ _ h2,hv',_,rfl,iteF ?_⟩
  try dsimp only [Xf]
  refine hnxC _ _ ?_
  generalize upd HB l' (.lst (us.map nV))=HC at s0C ⊢
  clear s1 s2 s0A s0B hl1
  refine ⟨_,rfl,p,dx,_,rfl,s0C _ _ B.ins,rfl,p,"b",H0,M,ns,d,S,U,us,rfl,ha.same s0C,td,h64,gd,hy,fun r1 H3 s3 hr1=>?_⟩
  have s03:=s0C.trans s3
  refine ⟨_,rfl,_,rfl,_,rfl,_,rfl,m,r,dd,b,M,ns,ks',d.g,us,rfl,s03 _ _ hm,hrw.same s03,td,wa.same s03,sw,bd',s03 _ _ h2,hv,hU,fun du hdu=>?_⟩
  have s4:=Same.new (o:=tp (wor d.g M ns us)) hdu
  exact ⟨r1,du,_,rfl,s4 _ _ hr1,Zc,k _ (s03.trans s4)⟩
end
end KT
set_option maxHeartbeats 4000000
namespace KT
open PySem L2
theorem Pl.rep {M:List (Option Nat)} {ws:List Nat} {m:Nat} (h:Pl M ws) (hm:0 < m):Pl M (List.replicate m ws).flatten:=by
 have:=h.turn (m:=m) (b:=0) (Nat.mul_pos hm h.len_pos)
 rw [Ke] at this
 exact this
theorem Pl.rot1 {M:List (Option Nat)} {ws:List Nat} {b:Nat} (h:Pl M ws) (hb:b < ws.length):Pl M (rot ws b):=by
 have:=h.turn (m:=1) (b:=b) (by rw [Nat.one_mul]; exact hb)
 simpa using this
theorem gd5 {M:List (Option Nat)} {ns ks:List Int} {g:Int→Nat × Nat} {ws us:List Nat} (hP:Pl M ws) (hl:ws.length≤100) (hU:Pl M us) (hv:us.length≤100) (sw:SwK M ns ks) (bd:∀ x∈ks,1≤(g x).1∧1≤(g x).2∧(g x).1≤100∧(g x).2≤100):Gd5 M ns ⟨[("a",ws),("b",us)],ks,g⟩∧Gd5 M ns ⟨[("b",us),("a",ws)],ks,g⟩ :=
 ⟨⟨by show (["a","b"]:List Str).Nodup; decide,fun y hy=>by rcases List.mem_cons.mp hy with rfl | hy; exact ⟨hP,hl⟩; rw [List.mem_singleton.mp hy]; exact ⟨hU,hv⟩,sw,bd⟩,
 ⟨by show (["b","a"]:List Str).Nodup; decide,fun y hy=>by rcases List.mem_cons.mp hy with rfl | hy; exact ⟨hU,hv⟩; rw [List.mem_singleton.mp hy]; exact ⟨hP,hl⟩,sw,bd⟩⟩
theorem Zfq:Asc ("a":Str):=fun c hc=>by revert c hc; show ∀ c∈[97],c < 128; decide
theorem Zm3:Asc ("b":Str):=fun c hc=>by revert c hc; show ∀ c∈[98],c < 128; decide
theorem nm_a:isN ("a":Str)=true:=by decide +kernel
theorem nm_b:isN ("b":Str)=true:=by decide +kernel
theorem Zgu:1≤((1,1):Nat × Nat).1∧1≤((1,1):Nat × Nat).2∧((1,1):Nat × Nat).1≤100∧((1,1):Nat × Nat).2≤100:=by decide
theorem Zim {m n:Nat} (hm:1≤m) (hn:1≤n):1≤(lowN m n).1∧1≤(lowN m n).2 :=
 ⟨Nat.div_pos (Nat.le_of_dvd hm (Nat.gcd_dvd_left _ _)) (Nat.gcd_pos_of_pos_left _ hm),Nat.div_pos (Nat.le_of_dvd hn (Nat.gcd_dvd_right _ _)) (Nat.gcd_pos_of_pos_left _ hm)⟩
structure Own (K:PySem.W.Frag) (H:Hp) (a m r w1 w2 wd:Addr) (sc:List Int) (M:List (Option Nat)) (ns ks:List Int) (ws us:List Nat):Prop where
 hS:SqL K H a (sc.map V.int)
 hm:H m=some (.lst (M.map mV))
 hr:Yp H r ns
 h1:H w1=some (.lst (ws.map nV))
 h2:H w2=some (.lst (us.map nV))
 wa:WAt H wd ks fun _=>(1,1)
theorem Own.same {K:PySem.W.Frag} {H H':Hp} {a m r w1 w2 wd:Addr} {sc:List Int} {M:List (Option Nat)} {ns ks:List Int} {ws us:List Nat} (h:Own K H a m r w1 w2 wd sc M ns ks ws us) (s:Same H H'):Own K H' a m r w1 w2 wd sc M ns ks ws us:=⟨s.seq h.hS,s _ _ h.hm,h.hr.same s,s _ _ h.h1,s _ _ h.h2,h.wa.same s⟩
section
variable {P:Program} {w:World} {K:PySem.W.Frag} {mg:Str→Option Value} {base:Heap} {t:Adr}
theorem X9:FnScope ["_law_script","_law_mates","_law_rows_here","_law_hall","_law_one","_law_other","_law_worths_here","_law_pick","_law_seam_here","_law_top","_law_heavy","_law_fresh"] ["_law_script"] (Zg Zi8):=⟨rfl,rfl,rfl,by decide +kernel,rfl,by decide +kernel,by decide +kernel⟩
theorem ok_law (T:Txt w K mg t):FnOk P w K mg base (CXr P w) 12 t.f_law t.d_law ["_law_script"] (sp_law K):=by
 refine T.p_law.F.aR X9 (fun cdv A outer s H vs Q E hr h=>?_)
 ·obtain ⟨a,sc,rfl,hS,hl,k⟩:=h
  have hu:=Xy hr
  refine ⟨_,(Zd (Wz (pcT (Zgx T) hr T.p_l_tent (Za (pv 0) Zb)) (W0 rfl (Zz (Zq (i:=1) X9.nd rfl (Or.inl rfl)) (Zz (Zq (i:=2) X9.nd rfl (Or.inl rfl)) Xk))))
   (Zd (Zn (i:=3) X9.nd rfl (Or.inl rfl) (Qa T.mk_Hall (Zch T) (hr.mono (by decide)) rfl T.gC_Hall T.p_Hall_init.b .nil Z2 (Za (Yx Xb (by rfl) T.n_list PySem.Pv.boot_list (Za (pv 2) Zb)) Zb)))
   (Zd (Zn (i:=4) X9.nd rfl (Or.inl rfl) (pcT (O2 T) hr T.p_l_thread (Za (pv 0) (Za Zf (Za (pv 1) Zb)))))
   (Zd (Zn (i:=5) X9.nd rfl (Or.inl rfl) (pcT (O2 T) hr T.p_l_thread (Za (pv 0) (Za Zf (Za (pv 1) Zb)))))
   (Zd (Z1 (PW.pt (Wl (Zt Xq (Zo Zm (by rfl) T.n_len PySem.boot_len (Za (pv 4) Zb)) Zf (Zs _)) (Wl (Zt Q0 (Zo Zm (by rfl) T.n_len PySem.boot_len (Za (pv 4) Zb)) Zf (Zs _)) (Wb (Zt Xq (Zo Zm (by rfl) T.n_len PySem.boot_len (Za (pv 5) Zb)) Zf (Zs _)))))) (Zh (Zl (Wn (Zcb hr.units) (Jh (pv 3) T.cl_Hall T.p_Hall_names.m (Zav T) (hr.mono (by decide)) T.p_Hall_names.b .nil Z2) (Y8 Zb) (Zs _)))) Zu)
   (Zd (Zn (i:=6) X9.nd rfl (Or.inl rfl) (pcT (Zdi T) hr T.p_l_worths (Za (pv 1) (Za (pv 2) (Za (Zi Zca (Y8 (Za Zf Zb)) Zf) Zb)))))
   (Zd (Zn (i:=7) X9.nd rfl (Or.inl rfl) (pcT (Jv T) hr T.p_l_cell (Za (pv 0) (Za Zf Zb))))
   (Zd (Z8 (Z3 (pv 3) T.cl_Hall T.p_Hall_lay.m (Q7 T) (hr.mono (by decide)) T.p_Hall_lay.b .nil Z2 (Za Z4 (Za (Yx Xb (by rfl) T.n_list PySem.Pv.boot_list (Za (pv 4) Zb)) Zb))))
   (Zd (Z8 (Z3 (pv 3) T.cl_Hall T.p_Hall_lay.m (Q7 T) (hr.mono (by decide)) T.p_Hall_lay.b .nil Z2 (Za Z4 (Za (Yx Xb (by rfl) T.n_list PySem.Pv.boot_list (Za (pv 5) Zb)) Zb))))
   (Zd (Z1 (Yf (Yn (pcT (Xl T) hr T.p_l_stands_so (Za (pv 3) (Za (pv 1) (Za (pv 2) (Za (pv 6) (Za (pv 4) (Za (pv 5) Zb))))))))) (Zh (Zl Xp)) Zu)
   (Zd (Zn (i:=8) X9.nd rfl (Or.inl rfl) (pcT (Zgz T) hr T.p_l_seam (Za (pv 2) (Za (Zv Zw (pv 4) (Zi Zy (pv 7) (Zo Zm (by rfl) T.n_len PySem.boot_len (Za (pv 4) Zb))) (fun _ _=>rfl)) Zb))))
   (Zd (Zn (i:=9) X9.nd rfl (Or.inl rfl) (Zi Z0 Zf (Zi Zy (Zi Yv (pv 7) Zf) Zf)))
   (Zd (Z8 (Z3 (pv 3) T.cl_Hall T.p_Hall_weigh.m (Zau T) (hr.mono (by decide)) T.p_Hall_weigh.b .nil Z2 (Za (pv 8) (Za (pv 9) (Za (Zi Z0 Zf (Zi Zy (Zi Yv (pv 7) Zf) Zf)) Zb)))))
   (Zd (Zn (i:=10) X9.nd rfl (Or.inl rfl) (Yx Gs (by rfl) T.n_dict PySem.Pv.boot_dict (Za (pv 6) Zb)))
   (Zd (G5 hu (pv 10) (pv 8) (pcT (Zcd T) hr T.p_l_low (Za (pv 9) (Za (Zi Z0 Zf (Zi Zy (Zi Yv (pv 7) Zf) Zf)) Zb))) rfl)
   (Zd (Z1 (Yf (Yn (pcT (Xl T) hr T.p_l_stands_so (Za (pv 3) (Za (pv 1) (Za (pv 2) (Za (pv 10) (Za (pv 4) (Za (pv 5) Zb))))))))) (Zh (Zl Xp)) Zu)
   (Zd (Z8 (Jh (pv 3) T.cl_Hall T.p_Hall_back.m (Qo T) (hr.mono (by decide)) T.p_Hall_back.b .nil Z2))
   (Zd (Z1 (Yf (Yn (pcT (Xl T) hr T.p_l_stands_so (Za (pv 3) (Za (pv 1) (Za (pv 2) (Za (pv 6) (Za (pv 4) (Za (pv 5) Zb))))))))) (Zh (Zl Xp)) Zu)
   (Zd (Z8 (Jh (pv 3) T.cl_Hall T.p_Hall_again.m (Zaw T) (hr.mono (by decide)) T.p_Hall_again.b .nil Z2))
   (Zd (Z1 (Yf (Yn (pcT (Xl T) hr T.p_l_stands_so (Za (pv 3) (Za (pv 1) (Za (pv 2) (Za (pv 10) (Za (pv 4) (Za (pv 5) Zb))))))))) (Zh (Zl Xp)) Zu)
   (Zd (Z8 (Z3 (pv 3) T.cl_Hall T.p_Hall_lift.m (Zcg T) (hr.mono (by decide)) T.p_Hall_lift.b .nil Z2 (Za Z4 Zb)))
   (Zd (Zn (i:=11) X9.nd rfl (Or.inl rfl) (Zv Wj (Xn (Za (pv 5) (Za (Zi Qm (pv 4) (pv 4)) (Za (Zi Qm (Xu Jb (pv 5) (X0 Zf) Wm) (Xu Jb (pv 5) Wm (X0 Zf))) Zb)))) (Zi Zy (pv 7) Zf) (fun _ _=>rfl)))
   (Zd (Z8 (Z3 (pv 3) T.cl_Hall T.p_Hall_lay.m (Q7 T) (hr.mono (by decide)) T.p_Hall_lay.b .nil Z2 (Za Z4 (Za (Yx Xb (by rfl) T.n_list PySem.Pv.boot_list (Za (pv 11) Zb)) Zb))))
   (Zd (Z1 (Yf (Yn (pcT (Xl T) hr T.p_l_stands_so (Za (pv 3) (Za (pv 1) (Za (pv 2) (Za (pv 10) (Za (pv 11) (Za (pv 5) Zb))))))))) (Zh (Zl Xp)) Zu)
   (Zd (Z8 (Jh (pv 3) T.cl_Hall T.p_Hall_back.m (Qo T) (hr.mono (by decide)) T.p_Hall_back.b .nil Z2))
   (Zd (Z8 (Jh (pv 3) T.cl_Hall T.p_Hall_back.m (Qo T) (hr.mono (by decide)) T.p_Hall_back.b .nil Z2))
   (Zh (Zl (pcT (Xl T) hr T.p_l_stands_so (Za (pv 3) (Za (pv 1) (Za (pv 2) (Za (pv 10) (Za (pv 4) (Za (pv 5) Zb))))))))))))))))))))))))))))))))))),?_⟩
  refine Zk fun nxC hnxC=>?_
  refine ⟨_,rfl,a,sc,rfl,hS,hl,fun p m r M ns H1 sm1 hp hm hr1 td h42 hm0 hr0=>?_⟩
  refine ⟨p,_,rfl,SqT.of hp,rfl,_,_,rfl,_,_,rfl,rfl,?_⟩
  refine hnxC _ _ ?_
  obtain ⟨ts,g1,g2,g3⟩:=id hr1
  have h64:ns.length < 64:=by rw [td.len]; omega
  refine Zk fun nxC hnxC=>?_
  refine ⟨_,rfl,r,_,rfl,.inl (SqL.of g1),fun l hl1=>?_⟩
  intro x dx hx hdx hne
  obtain ⟨rl2,s2⟩:=Zhq (C:=t.C_Hall) g1 g2 g3 hl1 hx hdx
  have s12:=(Same.new (o:=.lst (ts.map V.ref)) hl1).trans s2
  refine ⟨x,l,dx,M,ns,rfl,Zc,rl2,td,h64,fun H3 old hn=>⟨rfl,?_⟩⟩
  obtain ⟨be,sc0,st,un,dxs,th,po,wo,ks,hn,n1,n2,su⟩:=hn
  obtain ⟨H0,s10,ha⟩:=HallNew.hall td hn su (fun b u hb e=>old b u hb (s12 b u e)) (Xc hx).2 (s12.free n1) (s12.free n2)
  have sw:=hn.sw
  refine hnxC _ _ ?_
  try dsimp only [Zp]
  have hS0:=s10.seq (sm1.seq hS)
  have hm0':=s10 _ _ hm
  have hr0':=hr1.same s10
  clear old rl2 s2 s12 g1 g2 g3 hr1 hm hr0 hm0 hp sm1 hx hdx hne hl1 hS hn n1 n2 su s10
  refine Zk fun nxC hnxC=>?_
  refine ⟨_,rfl,_,rfl,a,m,sc,3,M,rfl,ha.low.seq hS0,hl,by decide,by decide,ha.low _ _ hm0',h42,⟨_,td.n.choose_spec.2.2⟩,td.inv,fun w1 ws H4 s4 hw1 h4 l1 p1=>?_⟩
  refine hnxC _ _ ?_
  try dsimp only [Zp]
  refine Zk fun nxC hnxC=>?_
  refine ⟨_,rfl,_,rfl,a,m,sc,4,M,rfl,s4.seq (ha.low.seq hS0),hl,by decide,by decide,s4 _ _ (ha.low _ _ hm0'),h42,⟨_,td.n.choose_spec.2.2⟩,td.inv,fun w2 us H5 s5 hw2 h5 l2 p2=>?_⟩
  refine hnxC _ _ ?_
  try dsimp only [Zp]
  obtain ⟨H1',z1,ha,nw⟩:=ha.more (s4.trans s5)
  have h1:=nw w1 _ (s5 _ _ h4) (.inl hw1)
  have h2:=nw w2 _ h5 (.inl (s4.free hw2))
  have hS0:=z1.seq hS0
  have hm0':=z1 _ _ hm0'
  have hr0':=hr0'.same z1
  clear nw z1 h4 h5 hw1 hw2 s4 s5
  refine Yg (fun σ H'=>σ=[some (.ref a),some (.ref m),some (.ref r),some (.ref x),some (.ref w1),some (.ref w2),none,none,none,none,none,none]∧H'=H5∧Pl M ws∧Pl M us∧ws.length≤24) (fun nx hnx=>?_) ?_
  ·refine ⟨_,rfl,w1,_,rfl,.inl (SqL.of (ha.low _ _ h1)),rfl,_,rfl,?_⟩
   refine (fun R=>ite2 (fun z=>iteT R) (fun z=>⟨_,rfl,w1,_,rfl,.inl (SqL.of (ha.low _ _ h1)),_,_,rfl,rfl,_,rfl,ite2 (fun z'=>iteT R) (fun z'=>⟨_,rfl,w2,_,rfl,.inl (SqL.of (ha.low _ _ h2)),rfl,_,rfl,ite2 (fun z''=>R) (fun z''=>?_)⟩)⟩)) ?_
   ·obtain ⟨dx,be,sc,st,un,qs,us',B⟩:=id ha
    refine ⟨_,rfl,x,dx,_,rfl,B.ins,rfl,x,_,M,ns,_,_,_,rfl,ha,rfl,fun q hq=>?_⟩
    refine ⟨Nat.zero_le _,fun q' hq'=>?_⟩
    refine ⟨q,q',[],[],rfl,rfl,SqL.of (Same.new hq' _ _ Zc),SqL.of Zc,?_⟩
    exact k _
   ·refine hnx _ _ ⟨rfl,rfl,p1.resolve_left fun e=>?_,p2.resolve_left fun e=>?_,?_⟩
    ·subst e; exact z rfl
    ·subst e; exact z'' rfl
    ·have z':=of_decide_eq_false (Bool.eq_false_iff.mpr z')
     rw [List.length_map] at z'
     omega
  rintro σ H6 ⟨rfl,rfl,hP,hU,h24⟩
  clear p1 p2
  refine Zk fun nxC hnxC=>?_
  refine ⟨_,rfl,_,rfl,(by show 1≤sizeLine; rw [sizeLine_eq]; decide),fun lp hlp=>?_⟩
  have t1:=Same.new (o:=.lst [V.int 2]) hlp
  refine ⟨lp,60,_,rfl,rfl,Zc,by decide,by decide,(by show 60≤sizeLine; rw [sizeLine_eq]; decide),fun lq hlq=>?_⟩
  have t2:=t1.trans (Same.new (o:=.lst (List.replicate (60:Int).toNat [V.int 2]).flatten) hlq)
  have sH:=ha.low
  refine ⟨m,r,lq,M,ns,List.replicate 60 2,rfl,(sH.trans t2) _ _ hm0',hr0'.same (sH.trans t2),td,h42,by rw [Zc]; rfl,List.length_replicate,fun y hy=>List.eq_of_mem_replicate hy,fun wd H7 ks' g s7 hwd w7 sw' hg=>?_⟩
  refine hnxC _ _ ?_
  try dsimp only [Zp]
  have t3:=t2.trans s7
  obtain ⟨H0',z1,ha,nw⟩:=ha.more t3
  have W:Own K H0' a m r w1 w2 wd sc M ns ks' ws us:=by
   obtain ⟨ad,e1,e2⟩:=w7
   exact ⟨z1.seq hS0,z1 _ _ hm0',hr0'.same z1,z1 _ _ h1,z1 _ _ h2,ad,nw _ _ e1 (.inl (t2.free hwd)),fun y hy=>by
    have e:=e2 y hy
    rw [hg y hy] at e
    exact nw _ _ e (.inr ⟨(fun _ z=>nomatch z),(fun _ _ _ z=>nomatch z)⟩)⟩
  clear t1 t2 t3 hlp hlq hwd w7 hg s7 nw h1 h2 hS0 hm0' hr0' z1 sH
  refine Zk fun nxC hnxC=>?_
  refine ⟨_,rfl,a,sc,_,rfl,ha.low.seq W.hS,hl,by decide,by decide,?_⟩
  refine hnxC _ _ ?_
  try dsimp only [Zp]
  generalize cell sc 5=pick
  refine Zk fun nxC hnxC=>?_
  obtain ⟨dx,be,sc0,stt,un,qs,us',B⟩:=id ha
  refine ⟨_,rfl,x,dx,_,rfl,B.ins,rfl,_,rfl,w1,_,rfl,.inl (SqL.of (ha.low _ _ W.h1)),fun c hc=>?_⟩
  have t1:=Same.new (o:=.lst (ws.map nV)) hc
  refine ⟨x,c,"a",_,M,ns,_,_,_,ws,rfl,ha.same t1,td,Nat.le_trans (Nat.le_of_lt h64) (by decide),Nat.le_of_ble_eq_true rfl,Nat.le_of_ble_eq_true rfl,Zfq,(by decide),nm_a,(by show ("a":Str) ∉ ([]:List Str); decide),Zc,by omega,hP,fun HX H0' z1 z2=>?_⟩
  refine hnxC _ _ ?_
  try dsimp only [Zp]
  have ha:Yc t.C_Tent t.C_Scene t.C_Hall HX H0' x M ns ⟨[("a",ws)],ks,fun _=>(1,1)⟩ [⟨[],ks,fun _=>(1,1)⟩] []:=z2
  have W:=W.same z1
  clear t1 hc z2 B
  clear z1
  refine Zk fun nxC hnxC=>?_
  obtain ⟨dx,be,sc0,stt,un,qs,us',B⟩:=id ha
  refine ⟨_,rfl,x,dx,_,rfl,B.ins,rfl,_,rfl,w2,_,rfl,.inl (SqL.of (ha.low _ _ W.h2)),fun c hc=>?_⟩
  have t1:=Same.new (o:=.lst (us.map nV)) hc
  refine ⟨x,c,"b",_,M,ns,_,_,_,us,rfl,ha.same t1,td,Nat.le_trans (Nat.le_of_lt h64) (by decide),Nat.le_of_ble_eq_true rfl,Nat.le_of_ble_eq_true rfl,Zm3,(by decide),nm_b,(by show ("b":Str) ∉ (["a"]:List Str); decide),Zc,by omega,hU,fun HX H0' z1 z2=>?_⟩
  refine hnxC _ _ ?_
  try dsimp only [Zp]
  have ha:Yc t.C_Tent t.C_Scene t.C_Hall HX H0' x M ns ⟨[("a",ws),("b",us)],ks,fun _=>(1,1)⟩ [⟨[("a",ws)],ks,fun _=>(1,1)⟩,⟨[],ks,fun _=>(1,1)⟩] []:=z2
  have W:=W.same z1
  clear t1 hc z2 B
  clear z1
  have hl1:ws.length≤100:=by omega
  have hv1:us.length≤100:=by omega
  have b1:∀ y∈ks,1≤((fun _=>(1,1):Int→Nat × Nat) y).1∧1≤((fun _=>(1,1):Int→Nat × Nat) y).2∧((fun _=>(1,1):Int→Nat × Nat) y).1≤100∧((fun _=>(1,1):Int→Nat × Nat) y).2≤100:=fun _ _=>Zgu
  have gd1:=(gd5 hP hl1 hU hv1 sw b1).1
  refine Zk fun nxC hnxC=>?_
  refine ⟨_,rfl,_,rfl,_,rfl,_,rfl,_,rfl,_,rfl,x,m,r,wd,w1,w2,_,M,ns,ks',_,_,_,ws,us,rfl,ha,td,h64,gd1,List.mem_cons_self,(List.mem_cons_of_mem _ List.mem_cons_self),ha.low _ _ W.hm,W.hr.same ha.low,W.wa.same ha.low,sw',ha.low _ _ W.h1,ha.low _ _ W.h2,fun HX s'=>?_⟩
  refine ⟨_,rfl,iteF ?_⟩
  try dsimp only [Xf]
  refine hnxC _ _ ?_
  try dsimp only [Zp]
  have ha:=ha.same s'
  clear s'
  refine Zk fun nxC hnxC=>?_
  have hw0:=hP.len_pos
  have k0:=Int.emod_nonneg pick (show (ws.length:Int)≠0 by omega)
  have k1:=Int.emod_lt_of_pos pick (show (0:Int) < ws.length by omega)
  obtain ⟨i,hi⟩:∃ i:Nat,pick % (ws.length:Int)=i:=⟨_,(Int.toNat_of_nonneg k0).symm⟩
  have hil:i < ws.length:=by omega
  have hq:=List.getElem?_eq_getElem hil
  generalize ws[i]=q at hq
  obtain ⟨mt,hmt⟩:=hP.has q (List.mem_of_getElem? hq)
  have hqn:q < ns.length:=by rw [td.len]; exact (List.getElem?_eq_some_iff.mp hmt).1
  have hy:=List.getElem?_eq_getElem hqn
  generalize ns[q]=y at hy
  have hyk:y∈ks:=(sw.mem y).mpr ⟨q,mt,hmt,hy⟩
  have hyk':y∈ks':=(sw'.mem y).mpr ⟨q,mt,hmt,hy⟩
  refine ⟨_,rfl,_,rfl,_,rfl,_,rfl,w1,_,rfl,.inl (SqL.of (ha.low _ _ W.h1)),_,_,rfl,rfl,(by rw [List.length_map]; omega),w1,_,_,_,rfl,rfl,SqL.of (ha.low _ _ W.h1),(by rw [List.length_map,hi]; exact Yk hq),r,ns,q,y,rfl,W.hr.same ha.low,hy,?_⟩
  refine hnxC _ _ ?_
  try dsimp only [Zp]
  clear k0 k1 hi hil hq hmt hqn hy
  refine Zk fun nxC hnxC=>?_
  refine ⟨_,rfl,_,_,rfl,rfl,⟨by decide,by decide⟩,_,_,rfl,rfl,(by show (0:Int) < 50; decide),_,_,rfl,rfl,?_⟩
  refine hnxC _ _ ?_
  try dsimp only [Zp]
  have k0:=Int.emod_nonneg (pick / 67) (show (50:Int)≠0 by decide)
  have k1:=Int.emod_lt_of_pos (pick / 67) (show (0:Int) < 50 by decide)
  have k2:=Int.emod_nonneg (pick / 31) (show (7:Int)≠0 by decide)
  have k3:=Int.emod_lt_of_pos (pick / 31) (show (0:Int) < 7 by decide)
  obtain ⟨tm,htm⟩:∃ i:Nat,2 + pick / 67 % 50=(i:Int):=⟨_,(Int.toNat_of_nonneg (by omega)).symm⟩
  obtain ⟨bm,hbm⟩:∃ i:Nat,1 + pick / 31 % 7=(i:Int):=⟨_,(Int.toNat_of_nonneg (by omega)).symm⟩
  have t1:1≤tm∧tm≤100:=by omega
  have t2:1≤bm∧bm≤100:=by omega
  clear k0 k1 k2 k3
  refine Zk fun nxC hnxC=>?_
  obtain ⟨dx,be,sc0,stt,un,qs,us',B⟩:=id ha
  refine ⟨_,rfl,x,dx,_,rfl,B.ins,rfl,_,rfl,_,rfl,_,rfl,_,_,rfl,rfl,⟨by decide,by decide⟩,_,_,rfl,rfl,(by show (0:Int) < 7; decide),_,_,rfl,rfl,?_⟩
  refine ⟨x,y,tm,bm,_,M,ns,_,_,_,(by show [V.ref x,V.int y,V.int (2 + pick / 67 % 50),V.int (1 + pick / 31 % 7)]=_; rw [htm,hbm]),ha,td,Nat.le_of_ble_eq_true rfl,sw,h64,hyk,t1.1,t2.1,t1.2,t2.2,fun HX H0' z1 z2=>?_⟩
  refine hnxC _ _ ?_
  try dsimp only [Zp]
  have ha:Yc t.C_Tent t.C_Scene t.C_Hall HX H0' x M ns ⟨[("a",ws),("b",us)],ks,(putG (fun _=>(1,1)) y (lowN tm bm))⟩ [⟨[("a",ws),("b",us)],ks,fun _=>(1,1)⟩,⟨[("a",ws)],ks,fun _=>(1,1)⟩,⟨[],ks,fun _=>(1,1)⟩] []:=z2
  have W:=W.same z1
  clear z1 z2 B
  refine Zk fun nxC hnxC=>?_
  obtain ⟨aw,e1,e2⟩:=id W.wa
  refine ⟨_,rfl,wd,_,rfl,.inl (ha.low _ _ e1),fun he hhe=>?_⟩
  refine hnxC _ _ ?_
  try dsimp only [Zp]
  refine Zk fun nxC hnxC=>?_
  have u1:Same HX (upd HX he (.dK (wD ks' aw))):=Same.new hhe
  refine ⟨_,rfl,_,rfl,_,_,rfl,rfl,⟨by decide,by decide⟩,_,_,rfl,rfl,(by show (0:Int) < 7; decide),_,_,rfl,rfl,?_⟩
  refine ⟨tm,bm,(by show [V.int (2 + pick / 67 % 50),V.int (1 + pick / 31 % 7)]=_; rw [htm,hbm]),t1.1,t2.1,Gg t1.1 (Nat.lt_of_le_of_lt t1.2 (by decide +kernel)),fun qv hqv=>?_⟩
  have u2:=Same.new (o:=tp (lowN tm bm)) hqv
  obtain ⟨nqe,hqv0⟩:=Xc hqv
  refine ⟨_,rfl,_,rfl,he,_,rfl,DPut.k (k:=Sum.inl y) (u2 _ _ Zc) (by rw [Q9]; exact Zx (by have:=sw'.len td; omega)),?_⟩
  have WP:=WAt.put (u2 _ _ Zc) (fun z hz=>u2 _ _ (u1 _ _ (ha.low _ _ (e2 z hz)))) Zc hyk'
  have u3:Same HX (upd (upd (upd HX he (.dK (wD ks' aw))) qv (tp (lowN tm bm))) he (.dK (putK (wD ks' aw) (Sum.inl y) (V.ref qv)))):=Same.add (u1.trans u2) hhe
  refine hnxC _ _ ?_
  try dsimp only [Zp]
  generalize upd (upd (upd HX he (.dK (wD ks' aw))) qv (tp (lowN tm bm))) he (.dK (putK (wD ks' aw) (Sum.inl y) (V.ref qv)))=HY at WP u3 ⊢
  obtain ⟨H0',z1,ha,nw⟩:=ha.more u3
  have W:=W.same z1
  have hV:WAt H0' he ks' (putG (fun _=>(1,1)) y (lowN tm bm)):=by
   obtain ⟨ad,f1,f2⟩:=WP
   exact ⟨ad,nw _ _ f1 (.inl hhe),fun z hz=>nw _ _ (f2 z hz) (.inr ⟨(fun _ z=>nomatch z),(fun _ _ _ z=>nomatch z)⟩)⟩
  clear WP u1 u2 u3 hqv hqv0 nqe hhe nw z1 e1 e2
  have lb:=Oc tm bm
  have lp:=Zim t1.1 t2.1
  have b2:∀ z∈ks,1≤(putG (fun _=>(1,1)) y (lowN tm bm) z).1∧1≤(putG (fun _=>(1,1)) y (lowN tm bm) z).2∧(putG (fun _=>(1,1)) y (lowN tm bm) z).1≤100∧(putG (fun _=>(1,1)) y (lowN tm bm) z).2≤100:=fun z _=>by
   unfold putG
   by_cases c:z=y
   ·rw [if_pos c]; omega
   ·rw [if_neg c]; exact Zgu
  have gd2:=(gd5 hP hl1 hU hv1 sw b2).1
  refine Zk fun nxC hnxC=>?_
  refine ⟨_,rfl,_,rfl,_,rfl,_,rfl,_,rfl,_,rfl,x,m,r,he,w1,w2,_,M,ns,ks',_,_,_,ws,us,rfl,ha,td,h64,gd2,List.mem_cons_self,(List.mem_cons_of_mem _ List.mem_cons_self),ha.low _ _ W.hm,W.hr.same ha.low,hV.same ha.low,sw',ha.low _ _ W.h1,ha.low _ _ W.h2,fun HX s'=>?_⟩
  refine ⟨_,rfl,iteF ?_⟩
  try dsimp only [Xf]
  refine hnxC _ _ ?_
  try dsimp only [Zp]
  have ha:=ha.same s'
  clear s'
  refine Zk fun nxC hnxC=>?_
  obtain ⟨dx,be,sc0,stt,un,qs,us',B⟩:=id ha
  refine ⟨_,rfl,x,dx,_,rfl,B.ins,rfl,x,_,M,ns,_,_,_,_,rfl,ha,Nat.le_of_ble_eq_true rfl,fun HX H0' z1 z2=>?_⟩
  refine hnxC _ _ ?_
  try dsimp only [Zp]
  have ha:Yc t.C_Tent t.C_Scene t.C_Hall HX H0' x M ns ⟨[("a",ws),("b",us)],ks,fun _=>(1,1)⟩ [⟨[("a",ws)],ks,fun _=>(1,1)⟩,⟨[],ks,fun _=>(1,1)⟩] [⟨[("a",ws),("b",us)],ks,(putG (fun _=>(1,1)) y (lowN tm bm))⟩]:=z2
  have W:=W.same z1
  have hV:=hV.same z1
  clear z1 z2 B
  refine Zk fun nxC hnxC=>?_
  refine ⟨_,rfl,_,rfl,_,rfl,_,rfl,_,rfl,_,rfl,x,m,r,wd,w1,w2,_,M,ns,ks',_,_,_,ws,us,rfl,ha,td,h64,gd1,List.mem_cons_self,(List.mem_cons_of_mem _ List.mem_cons_self),ha.low _ _ W.hm,W.hr.same ha.low,W.wa.same ha.low,sw',ha.low _ _ W.h1,ha.low _ _ W.h2,fun HX s'=>?_⟩
  refine ⟨_,rfl,iteF ?_⟩
  try dsimp only [Xf]
  refine hnxC _ _ ?_
  try dsimp only [Zp]
  have ha:=ha.same s'
  clear s'
  refine Zk fun nxC hnxC=>?_
  obtain ⟨dx,be,sc0,stt,un,qs,us',B⟩:=id ha
  refine ⟨_,rfl,x,dx,_,rfl,B.ins,rfl,x,_,M,ns,_,_,_,_,rfl,ha,Nat.le_of_ble_eq_true rfl,fun HX H0' z1 z2=>?_⟩
  refine hnxC _ _ ?_
  try dsimp only [Zp]
  have ha:Yc t.C_Tent t.C_Scene t.C_Hall HX H0' x M ns ⟨[("a",ws),("b",us)],ks,(putG (fun _=>(1,1)) y (lowN tm bm))⟩ [⟨[("a",ws),("b",us)],ks,fun _=>(1,1)⟩,⟨[("a",ws)],ks,fun _=>(1,1)⟩,⟨[],ks,fun _=>(1,1)⟩] []:=z2
  have W:=W.same z1
  have hV:=hV.same z1
  clear z1 z2 B
  refine Zk fun nxC hnxC=>?_
  refine ⟨_,rfl,_,rfl,_,rfl,_,rfl,_,rfl,_,rfl,x,m,r,he,w1,w2,_,M,ns,ks',_,_,_,ws,us,rfl,ha,td,h64,gd2,List.mem_cons_self,(List.mem_cons_of_mem _ List.mem_cons_self),ha.low _ _ W.hm,W.hr.same ha.low,hV.same ha.low,sw',ha.low _ _ W.h1,ha.low _ _ W.h2,fun HX s'=>?_⟩
  refine ⟨_,rfl,iteF ?_⟩
  try dsimp only [Xf]
  refine hnxC _ _ ?_
  try dsimp only [Zp]
  have ha:=ha.same s'
  clear s'
  refine Zk fun nxC hnxC=>?_
  obtain ⟨dx,be,sc0,stt,un,qs,us',B⟩:=id ha
  refine ⟨_,rfl,x,dx,_,rfl,B.ins,rfl,x,"a",_,M,ns,_,_,_,rfl,ha,Nat.le_of_ble_eq_true rfl,Nat.le_of_ble_eq_true rfl,gd2.nd,Zfq,(by decide),List.mem_cons_self,fun HX H0' z1 z2=>?_⟩
  refine hnxC _ _ ?_
  try dsimp only [Zp]
  have eF:([("a",ws),("b",us)]:List (Str × List Nat)).filter (fun z=>decide (z.1≠("a":Str)))=([("b",us)]:List (Str × List Nat)):=by
   rw [List.filter_cons,List.filter_cons,if_neg (show ¬ decide (("a":Str)≠"a")=true by decide),if_pos (show decide (("b":Str)≠"a")=true by decide)]
   rfl
  dsimp only at z2
  rw [eF] at z2
  have ha:Yc t.C_Tent t.C_Scene t.C_Hall HX H0' x M ns ⟨[("b",us)],ks,(putG (fun _=>(1,1)) y (lowN tm bm))⟩ [⟨[("a",ws),("b",us)],ks,(putG (fun _=>(1,1)) y (lowN tm bm))⟩,⟨[("a",ws),("b",us)],ks,fun _=>(1,1)⟩,⟨[("a",ws)],ks,fun _=>(1,1)⟩,⟨[],ks,fun _=>(1,1)⟩] []:=z2
  have W:=W.same z1
  have hV:=hV.same z1
  clear z1 z2 B
  refine Yg (fun σ H'=>∃ (f:Addr) (fs:List Nat) (H0':Hp),σ=[some (.ref a),some (.ref m),some (.ref r),some (.ref x),some (.ref w1),some (.ref w2),some (.ref wd),some (.int pick),some (.int y),some (.int (2 + pick / 67 % 50)),some (.ref he),some (.ref f)]∧Yc t.C_Tent t.C_Scene t.C_Hall H' H0' x M ns ⟨[("b",us)],ks,(putG (fun _=>(1,1)) y (lowN tm bm))⟩ [⟨[("a",ws),("b",us)],ks,(putG (fun _=>(1,1)) y (lowN tm bm))⟩,⟨[("a",ws),("b",us)],ks,fun _=>(1,1)⟩,⟨[("a",ws)],ks,fun _=>(1,1)⟩,⟨[],ks,fun _=>(1,1)⟩] []∧Own K H0' a m r w1 w2 wd sc M ns ks' ws us∧WAt H0' he ks' (putG (fun _=>(1,1)) y (lowN tm bm))∧H0' f=some (.lst (fs.map nV))∧Pl M fs∧fs.length≤100) (fun nx hnx=>?_) ?_
  ·have h1:=ha.low _ _ W.h1
   have h2:=ha.low _ _ W.h2
   have hu0:=hU.len_pos
   refine ⟨_,rfl,_,rfl,_,rfl,w1,w1,_,_,rfl,rfl,h1,h1,by rw [List.length_map]; exact Y5 (by omega),fun la hla=>?_⟩
   have u1:=Same.new (o:=.lst (ws.map nV ++ ws.map nV)) hla
   have h2':(upd HX la (.lst (ws.map nV ++ ws.map nV))) w2=some (.lst ((wI us).map V.int)):=by rw [← Xx]; exact u1 _ _ h2
   refine ⟨_,rfl,_,rfl,w2,_,rfl,SqL.of h2',fun lb hlb=>?_⟩
   have c1:cutV ((wI us).map V.int) (some 1) none=((wI us).drop 1).map V.int:=V3 (s:=1) (by rw [Yy]; exact hu0)
   rw [c1]
   have u2:=Same.new (o:=.lst (((wI us).drop 1).map V.int)) hlb
   refine ⟨_,rfl,_,rfl,w2,_,rfl,SqL.of (u2 _ _ h2'),fun lc hlc=>?_⟩
   have c2:cutV ((wI us).map V.int) none (some 1)=((wI us).take 1).map V.int:=Gq (s:=1) (by rw [Yy]; exact hu0)
   rw [c2]
   have u3:=Same.new (o:=.lst (((wI us).take 1).map V.int)) hlc
   refine ⟨lb,lc,_,_,rfl,rfl,u3 _ _ Zc,Zc,by rw [List.length_map,List.length_map,List.length_drop,List.length_take,Yy]; exact Y5 (by omega),fun ld hld=>?_⟩
   rw [Ff,← Xx]
   have u4:=Same.new (o:=.lst ((rot us 1).map nV)) hld
   refine ⟨(by show 3≤sizeLine; rw [sizeLine_eq]; decide),fun tq htq=>?_⟩
   have u5:=Same.new (o:=.tup [V.ref w2,V.ref la,V.ref ld]) htq
   have u14:=u2.trans (u3.trans u4)
   have hla':=(u14.trans u5) la _ Zc
   have hld':=u5 ld _ Zc
   have u05:=u1.trans (u14.trans u5)
   have f1:HX ld=none:=(u1.trans (u2.trans u3)).free hld
   obtain ⟨H0',z1,ha,nw⟩:=ha.more u05
   have g1:=nw la _ hla' (.inl hla)
   have g2:=nw ld _ hld' (.inl f1)
   have W:=W.same z1
   have hV:=hV.same z1
   have k0:pick % 3=0∨pick % 3=1∨pick % 3=2:=by omega
   refine ⟨_,rfl,_,_,rfl,rfl,(by show (0:Int) < 3; decide),?_⟩
   rcases k0 with e | e | e
   ·refine ⟨tq,_,_,_,rfl,rfl,SqT.of Zc,(by rw [e]; rfl),?_⟩
    exact hnx _ _ ⟨w2,us,H0',rfl,ha,W,hV,W.h2,hU,hv1⟩
   ·refine ⟨tq,_,_,_,rfl,rfl,SqT.of Zc,(by rw [e]; rfl),?_⟩
    refine hnx _ _ ⟨la,(List.replicate 2 ws).flatten,H0',rfl,ha,W,hV,?_,hP.rep (by decide),?_⟩
    ·rw [g1]; simp [List.replicate]
    ·simp [List.replicate]; omega
   ·refine ⟨tq,_,_,_,rfl,rfl,SqT.of Zc,(by rw [e]; rfl),?_⟩
    by_cases c:1 < us.length
    ·exact hnx _ _ ⟨ld,rot us 1,H0',rfl,ha,W,hV,g2,hU.rot1 c,by rw [Jd _ hu0]; exact hv1⟩
    ·have:us.length=1:=by omega
     have er:rot us 1=us:=by rw [← this]; exact Zj6 us
     rw [er] at g2
     exact hnx _ _ ⟨ld,us,H0',rfl,ha,W,hV,g2,hU,hv1⟩
  rintro σ HX ⟨f,fs,H0',rfl,ha,W,hV,hf,hF,hfl⟩
  have gd3:=(gd5 hF hfl hU hv1 sw b2).2
  refine Zk fun nxC hnxC=>?_
  obtain ⟨dx,be,sc0,stt,un,qs,us',B⟩:=id ha
  refine ⟨_,rfl,x,dx,_,rfl,B.ins,rfl,_,rfl,f,_,rfl,.inl (SqL.of (ha.low _ _ hf)),fun c hc=>?_⟩
  have t1:=Same.new (o:=.lst (fs.map nV)) hc
  refine ⟨x,c,"a",_,M,ns,_,_,_,fs,rfl,ha.same t1,td,Nat.le_trans (Nat.le_of_lt h64) (by decide),Nat.le_of_ble_eq_true rfl,Nat.le_of_ble_eq_true rfl,Zfq,(by decide),nm_a,(by show ("a":Str) ∉ (["b"]:List Str); decide),Zc,by omega,hF,fun HX H0' z1 z2=>?_⟩
  refine hnxC _ _ ?_
  try dsimp only [Zp]
  have ha:Yc t.C_Tent t.C_Scene t.C_Hall HX H0' x M ns ⟨[("b",us),("a",fs)],ks,(putG (fun _=>(1,1)) y (lowN tm bm))⟩ [⟨[("b",us)],ks,(putG (fun _=>(1,1)) y (lowN tm bm))⟩,⟨[("a",ws),("b",us)],ks,(putG (fun _=>(1,1)) y (lowN tm bm))⟩,⟨[("a",ws),("b",us)],ks,fun _=>(1,1)⟩,⟨[("a",ws)],ks,fun _=>(1,1)⟩,⟨[],ks,fun _=>(1,1)⟩] []:=z2
  have W:=W.same z1
  clear t1 hc z2 B
  have hV:=hV.same z1
  have hf:=z1 _ _ hf
  clear z1
  refine Zk fun nxC hnxC=>?_
  refine ⟨_,rfl,_,rfl,_,rfl,_,rfl,_,rfl,_,rfl,x,m,r,he,f,w2,_,M,ns,ks',_,_,_,fs,us,rfl,ha,td,h64,gd3,(List.mem_cons_of_mem _ List.mem_cons_self),List.mem_cons_self,ha.low _ _ W.hm,W.hr.same ha.low,hV.same ha.low,sw',ha.low _ _ hf,ha.low _ _ W.h2,fun HX s'=>?_⟩
  refine ⟨_,rfl,iteF ?_⟩
  try dsimp only [Xf]
  refine hnxC _ _ ?_
  try dsimp only [Zp]
  have ha:=ha.same s'
  clear s'
  refine Zk fun nxC hnxC=>?_
  obtain ⟨dx,be,sc0,stt,un,qs,us',B⟩:=id ha
  refine ⟨_,rfl,x,dx,_,rfl,B.ins,rfl,x,_,M,ns,_,_,_,_,rfl,ha,Nat.le_of_ble_eq_true rfl,fun HX H0' z1 z2=>?_⟩
  refine hnxC _ _ ?_
  try dsimp only [Zp]
  have ha:Yc t.C_Tent t.C_Scene t.C_Hall HX H0' x M ns ⟨[("b",us)],ks,(putG (fun _=>(1,1)) y (lowN tm bm))⟩ [⟨[("a",ws),("b",us)],ks,(putG (fun _=>(1,1)) y (lowN tm bm))⟩,⟨[("a",ws),("b",us)],ks,fun _=>(1,1)⟩,⟨[("a",ws)],ks,fun _=>(1,1)⟩,⟨[],ks,fun _=>(1,1)⟩] [⟨[("b",us),("a",fs)],ks,(putG (fun _=>(1,1)) y (lowN tm bm))⟩]:=z2
  have W:=W.same z1
  have hV:=hV.same z1
  clear z1 z2 B
  refine Zk fun nxC hnxC=>?_
  obtain ⟨dx,be,sc0,stt,un,qs,us',B⟩:=id ha
  refine ⟨_,rfl,x,dx,_,rfl,B.ins,rfl,x,_,M,ns,_,_,_,_,rfl,ha,Nat.le_of_ble_eq_true rfl,fun HX H0' z1 z2=>?_⟩
  refine hnxC _ _ ?_
  try dsimp only [Zp]
  have ha:Yc t.C_Tent t.C_Scene t.C_Hall HX H0' x M ns ⟨[("a",ws),("b",us)],ks,(putG (fun _=>(1,1)) y (lowN tm bm))⟩ [⟨[("a",ws),("b",us)],ks,fun _=>(1,1)⟩,⟨[("a",ws)],ks,fun _=>(1,1)⟩,⟨[],ks,fun _=>(1,1)⟩] [⟨[("b",us)],ks,(putG (fun _=>(1,1)) y (lowN tm bm))⟩,⟨[("b",us),("a",fs)],ks,(putG (fun _=>(1,1)) y (lowN tm bm))⟩]:=z2
  have W:=W.same z1
  have hV:=hV.same z1
  clear z1 z2 B
  refine ⟨_,rfl,_,rfl,_,rfl,_,rfl,_,rfl,_,rfl,x,m,r,he,w1,w2,_,M,ns,ks',_,_,_,ws,us,rfl,ha,td,h64,gd2,List.mem_cons_self,(List.mem_cons_of_mem _ List.mem_cons_self),ha.low _ _ W.hm,W.hr.same ha.low,hV.same ha.low,sw',ha.low _ _ W.h1,ha.low _ _ W.h2,fun HX s'=>?_⟩
  exact k _
end
end KT
set_option maxHeartbeats 4000000
section
open PySem L2
theorem KT.ba6 {q:Str} {st:Stmt} {ps:List Str} (h:∀ (x:Str) (kV doc pm:Value) (an:Option Addr) (cdv ct:Value) (a b c d e f:Value),bindArgs (PySem.W.fnOf x q (Y4 st) (Ym st) (Zg st) .none kV doc pm an cdv ct) ⟨[a,b,c,d,e,f],[]⟩=pure (ps.zip [a,b,c,d,e,f])) (hl:ps.length=6):KT.BA q st ps:=fun x kV doc pm an cdv ct us e=>by
 rw [hl] at e
 match us,e with
 | [a,b,c,d,e,f],_=>exact h x kV doc pm an cdv ct a b c d e f
end
open PySem PySem.W PyProof.Rows
namespace PySem.W.Fast
def tw16623297892682578764:=0
def tw2227656064076793631:=0
def tw3440747316821630174:=0
def tw2476360977288862107:=0
def tw9267762709743825174:=0
def tw9991861877156514437:=0
def tw10109835720128540118:=0
def tw17582027696660265288:=0
def tw2779161921067710187:=0
def tw9601350100255785079:=0
def tw881341345996366439:=0
def tw3650929309707778831:=0
def tw6408972996051563601:=0
def tw9611112929340663853:=0
def tw5375469063239796639:=0
def tw16938831416191955939:=0
def tw325496765765209633:=0
def tw8096786159145299060:=0
def tw5130843007559941611:=0
def tw7666669298507502123:=0
def tw5843077825727777876:=0
def tw1046542834134245038:=0
def tw14463965469509958178:=0
def tw5418593317879907653:=0
def tw9969933097628737005:=0
def tw16291361598660591606:=0
def tw7416984456532923649:=0
def tw10804342047239355627:=0
def tw13080623441479748939:=0
def tw2881153938094968174:=0
def tw508625777013897288:=0
def tw6346010904884379881:=0
def tw16440773485976744167:=0
def tw17132896571488498292:=0
def tw5349473864159054752:=0
def tw12877335478429103648:=0
def tw13471688072252390413:=0
def tw14650320209719010700:=0
def tw6524012103854325042:=0
def tw13894441575799931736:=0
def tw2796691883399732090:=0
def tw6625575274138835549:=0
def tw5880813524550291227:=0
def tw6195409854066788453:=0
def tw436986474456368251:=0
def tw7024949878521146706:=0
def tw11736972889598524435:=0
def tw180771852903596273:=0
def tw2979933378367336934:=0
def tw4270479548547226666:=0
def tw9679523996652678276:=0
def tw15783661193981325889:=0
def tw5171728954283575114:=0
def tw5452863134273455019:=0
def tw3800223771355173616:=0
def tw3282281086275160889:=0
def tw7485668341875161607:=0
def tw2523776751088119281:=0
def tw13727987287761940621:=0
def tw1068729225236706282:=0
def tw10875410836365207841:=0
def tw16685516150334066793:=0
def tw5806251541296620536:=0
def tw2280488137232599241:=0
def tw7698452100375643311:=0
def tw13389357121006355517:=0
def tw13890595895764530050:=0
def tw8760611609455326813:=0
def tw11922088338880919835:=0
def tw12049245541591214496:=0
def tw12235500559774509983:=0
def tw1730399568938213260:=0
def tw3007558789033189108:=0
def tw2429626703390914935:=0
def tw9570354197751521962:=0
def tw13150801965901189934:=0
def tw16316290060127199796:=0
def tw16709730343426693040:=0
def tw15894497486686656288:=0
def tw276373247759458844:=0
def tw4348074326383688170:=0
def tw13234666057352873450:=0
def tw15481071178446393676:=0
def tw15127191619235139978:=0
def tw3983774252833747216:=0
def tw10400837836971769561:=0
def tw7125610634877448926:=0
def tw6853124322880237959:=0
def tw16439431355100474827:=0
def tw11739042039458105535:=0
def tw10597595448453398514:=0
def tw12914859978948615924:=0
def tw2235946089329151918:=0
def tw2425095478694719611:=0
def tw16648057741633686649:=0
def tw1272137441163920528:=0
def tw2318370081401306301:=0
def tw13586722671108702154:=0
def tw2360949043180733740:=0
def tw283506843277450206:=0
def tw6957671741230655598:=0
def tw1090714942663444280:=0
def tw13978824429863851121:=0
def tw5248651765208193413:=0
def tw4611232098461246168:=0
def tw1344575913188292886:=0
def tw8624180283233560600:=0
def tw29153956188811559:=0
def tw14740164675427874905:=0
def tw1001798585951111421:=0
def tw1289507877310670573:=0
def tw15483944425174246522:=0
def tw12649671873642741581:=0
def tw4991694938404231246:=0
def tw10100160138025354955:=0
def tw5283487661212878896:=0
def tw15474461727909754700:=0
def tw5653451214353599350:=0
def tw3907405573503418591:=0
def tw6990209054509017649:=0
def tw10763062606868239159:=0
def tw1176489978346976159:=0
def tw3627369535380058022:=0
def tw9908602983515376718:=0
def tw2422486220385232207:=0
def tw10695093612492360683:=0
def tw11731822272321494483:=0
def tw10556081526405722431:=0
def tw10242744526998491053:=0
def tw8784868065752438060:=0
def tw8465562405293890922:=0
def tw10741484776524018700:=0
def tw11365183548939592215:=0
def tw1336586390368809297:=0
def tw17557762186527877651:=0
def tw2778454613998611062:=0
def tw8555262235673470631:=0
def tw3413091980854174899:=0
def tw9649077328940371722:=0
def tw5792160210298636517:=0
def tw12024135764155546310:=0
def tw16713149084452913075:=0
def tw885597138254607041:=0
def tw8330901021480828081:=0
def tw11123724004028701658:=0
def tw6418478108328215763:=0
def tw5323602927904755725:=0
def tw9420102538591283139:=0
def tw14402974936323175178:=0
def tw16892475280579929111:=0
def tw2455736981092404124:=0
def tw2029789580126789972:=0
def tw14512189512661395120:=0
def tw1759896207004629691:=0
def tw8433734358440125601:=0
def tw6884369103051560812:=0
def tw4767398819066830088:=0
def tw10736328037123890939:=0
def tw4368605184685142453:=0
def tw12467550489942633703:=0
def tw7409284286460474701:=0
def tw954950805504831678:=0
def tw8617625601119423128:=0
def tw1639017601576208552:=0
def tw12590109412739239841:=0
def tw11457812785435575966:=0
def tw10963527195096946981:=0
def tw11788008690600232087:=0
def tw6930052825588170575:=0
def tw17638029456347451600:=0
def tw348416743512557501:=0
def tw12395849227025392957:=0
def tw18208348015987756071:=0
def tw13512683482859114713:=0
def tw10125289469715293812:=0
def tw16417926863108009029:=0
def tw14263464403276523940:=0
def tw5040420950296902200:=0
def tw8518748098141121459:=0
def tw12999045618148739610:=0
def tw17844113473807781275:=0
def tw177850154727345806:=0
def tw921021851268768582:=0
def tw18105303771234797809:=0
def tw16098775791258205693:=0
def tw273826362768583220:=0
def tw16139404003601901416:=0
def tw13763372229447747971:=0
def tw17074463050451582778:=0
def tw16703186256836482373:=0
def tw12660972085094786745:=0
def tw12201983952708642209:=0
def tw15495548940805804998:=0
def tw11467990676281546424:=0
def tw3859398629517735334:=0
def tw9441566846388232190:=0
def tw7174187923192474458:=0
def tw6044243003433076216:=0
def tw11581606146403995084:=0
def tw6592144290117243820:=0
def tw15531793872048531292:=0
def tw2023530835807949723:=0
def tw15101705148916794487:=0
def tw10298377094068757251:=0
def tw17576531822033557743:=0
def tw10084418539417214086:=0
def tw13240597181052597941:=0
def tw6965018428244860589:=0
def tw9448493873588189066:=0
def tw322946900612996578:=0
def tw16492459580874612118:=0
def tw3432681733996035112:=0
def tw6850565755045491792:=0
def tw4589125955772421770:=0
def tw4400447488427095279:=0
def tw13226931177930839201:=0
def tw16467453692250955675:=0
def tw15250723555135831042:=0
def tw15944993993102202183:=0
def tw12315947936605992037:=0
def tw5319730301427189026:=0
def tw14703478972608375367:=0
def tw3774195817485329375:=0
def tw5279755286639906670:=0
def tw5649363730782409820:=0
def tw12170767168305494392:=0
def tw15918107563324382674:=0
def tw18444066860147530576:=0
def tw4928234028680944621:=0
def tw12921420406251236015:=0
def tw17560260557300342991:=0
def tw15152450122796046875:=0
def tw5327983316220159657:=0
def tw6495869209571451971:=0
def tw10048608007382105669:=0
def tw1702903240982950607:=0
def tw8509094027308891679:=0
def tw2250089384364826436:=0
def tw5531139261059873641:=0
def tw12391082806656222854:=0
def tw14546796163959090328:=0
def tw14511524398783974763:=0
def tw7319212816151278744:=0
def tw6151308502704076927:=0
def tw10573337165814792786:=0
def tw834311621991865981:=0
def tw5550301669858439497:=0
def tw5187753467205970622:=0
def tw14293437738635998676:=0
def tw13566425319733825499:=0
def tw13112197567343776556:=0
def tw18238346023991070912:=0
def tw2458918809301999516:=0
def tw12519849804364328865:=0
def tw3435193082957049517:=0
def tw6276158943814725600:=0
def tw2849082092955165978:=0
def tw2347929450421466116:=0
def tw2139215530751051265:=0
def tw15885475357030498558:=0
def tw17032567822539531598:=0
def tw17842293346836191301:=0
def tw3071443790233568841:=0
def tw12483938273571459780:=0
def tw6376798620121028744:=0
def tw9953961999335104384:=0
def tw15681479710526919894:=0
def tw3865896384267177599:=0
def tw4421075701429175643:=0
def tw13942177950505260391:=0
def tw9168541262641232544:=0
def tw14739519439469578593:=0
def tw15649334042837409779:=0
def tw11939830295346965904:=0
def tw2089050872022256063:=0
def tw10029456770399558233:=0
def tw16961408912972449804:=0
def tw2757055314522357945:=0
def tw11084302096899724084:=0
def tw3151351738274747150:=0
def tw14291835208637670149:=0
def tw16798175820612982669:=0
def tw4933762297706440093:=0
def tw4453585110356952580:=0
def tw10484243819660233261:=0
def tw12945063773420850488:=0
def tw9963326476975134:=0
def tw6619658032493647984:=0
def tw1296185487732832163:=0
def tw6803360815924507753:=0
def tw11347002216682374299:=0
def tw10312664462293556678:=0
def tw3172247436052867294:=0
def tw8664293914591438447:=0
def tw2408836388206637244:=0
def tw8215381931666544622:=0
def tw1867319200016744466:=0
def tw11303485039497420822:=0
def tw458690439939457251:=0
def tw2307836035202106404:=0
def tw1720496906526595817:=0
def tw10997066140983616641:=0
def tw18310200363072547270:=0
def tw460791183483806286:=0
def tw12377470488285516086:=0
def tw9597698251528156444:=0
def tw8380051530503779853:=0
def tw17817033904405114770:=0
def tw7218531897608110342:=0
def tw1155927720414842795:=0
def tw10532842510498929629:=0
def tw268687839417020209:=0
def tw1164567899116033030:=0
def tw7105155985157597838:=0
def tw16371488789709576513:=0
def tw15748181528889540254:=0
def tw16064892723313167501:=0
def tw5356143807999717974:=0
def tw5343419419865769948:=0
def tw15918740097994756331:=0
def tw4123349696115024171:=0
def tw3901348054592632009:=0
def tw9640959461251448649:=0
def tw4336648832497846753:=0
def tw5258835102802558894:=0
def tw17141635956972208140:=0
def tw6346551747389873663:=0
def tw1717449076471001798:=0
def tw4327681372620254914:=0
def tw16998798436377347494:=0
def tw11613655786589159334:=0
def tw1082670354453116522:=0
def tw7833422489724382799:=0
def tw6938169264149407135:=0
def tw12304568591275090332:=0
def tw12928365363288046586:=0
def tw12058545560002143024:=0
def tw12450132779856292533:=0
def tw12572363138917239817:=0
def tw15454727930694156051:=0
def tw3457820846741863544:=0
def tw12870279352684660463:=0
def tw6544538134870898690:=0
def tw7848667394595885691:=0
def tw12357766915132900426:=0
def tw12838951529801056620:=0
def tw2003501765245576917:=0
def tw10355537967267282556:=0
def tw8435961636866181889:=0
def tw8494300512184985640:=0
def tw4930330714166426389:=0
def tw12429763286543738461:=0
def tw4291540701521546991:=0
def tw12513738629493751228:=0
def tw11553512870660525528:=0
def tw4022542793954761075:=0
def tw9496585534526275252:=0
def tw405192488418561744:=0
def tw13807333569430194488:=0
def tw12519587126018859594:=0
def tw10940052071970569447:=0
def tw10651915092298653229:=0
def tw8548976843846257746:=0
def tw7385068769525807728:=0
def tw16902987134431090665:=0
def tw11979917201678312728:=0
def tw10522429509569311355:=0
def tw6871346644569245267:=0
def tw5568055754336895693:=0
def tw17740198603529942640:=0
def tw6138367642519757790:=0
def tw9929166530936402945:=0
def tw6882747476121904567:=0
def tw3177144260612323728:=0
def tw14078876795643166727:=0
def tw10023697995945655151:=0
def tw7924137133307105704:=0
def tw11892902249735658390:=0
def tw16324541846386536918:=0
def tw6982287930583385385:=0
def tw7969132882975379361:=0
def tw4438872070509696856:=0
def tw10422293169763577884:=0
def tw10043381573748628528:=0
def tw1052860111635545320:=0
def tw1046109580868672257:=0
def tw371678096894694319:=0
def tw7407861713079756500:=0
def tw4110563364302104690:=0
def tw8117179729662877875:=0
def tw10076189634898823683:=0
def tw13121686361459479215:=0
def tw2901057524153046895:=0
def tw12470028753686779035:=0
def tw8333372395954172640:=0
def tw18380963594130456778:=0
def tw3521011113798816776:=0
def tw11665086353502568727:=0
def tw2068728741596190636:=0
def tw1732529311952525750:=0
def tw14363665731929201344:=0
def tw118273186385819602:=0
def tw1682551404117296264:=0
def tw3618866583290643352:=0
def tw14251921808091359556:=0
def tw11978379072343036107:=0
def tw16456700733111117241:=0
def tw10296795810410373718:=0
def tw9615295703054760915:=0
def tw902825536538635825:=0
def tw2652928491585652497:=0
def tw10278689995406952961:=0
def tw8749986427384839103:=0
def tw12926526001821477236:=0
def tw16359379383268854445:=0
def tw8288184364171283469:=0
def tw17219390519899853224:=0
def tw2135914458594607812:=0
def tw16708187237164761035:=0
def tw8401160066996747498:=0
def tw1096238594845905765:=0
def tw18079952312950459087:=0
def tw16078528188057678343:=0
def tw5848923919958943889:=0
def tw2764466278424249440:=0
def tw1494370283284088121:=0
def tw6963981613214124129:=0
def tw6791383101854589725:=0
def tw4192871581217833866:=0
def tw11796301268872216632:=0
def tw10189879635146269207:=0
def tw10746895673893959534:=0
def tw17353074295730855:=0
def tw3375246081271552852:=0
def tw5361215830559155348:=0
def tw49787133922727712:=0
def tw6902727086456341227:=0
def tw17005242797771993830:=0
def tw3140666075585438906:=0
def tw12644222229483527534:=0
def tw17431401761993943080:=0
def tw8176970444920663510:=0
def tw7578843042097214678:=0
def tw17661990737184228756:=0
def tw13859363166701277387:=0
def tw12346706379332223384:=0
def tw6985825257029186472:=0
def tw3909759889824733364:=0
def tw5742468866416855063:=0
def tw5587371896696044375:=0
def tw2205424512265381368:=0
def tw10433740989744002968:=0
def tw5194498647919562606:=0
def tw876386051336988562:=0
def tw16176121894205015883:=0
def tw7615907538486122744:=0
def tw6595850413929562717:=0
def tw4366835558250005119:=0
def tw3222671772449278857:=0
def tw4982641483431539609:=0
def tw1227439446383179086:=0
def tw10960733590081760265:=0
def tw5346940367364044021:=0
def tw17226504532794371963:=0
def tw4264819477380587053:=0
def tw2797784808635467955:=0
def tw16954892212338675870:=0
def tw5350901657447468077:=0
def tw1711232322986642290:=0
def tw4765519626694464545:=0
def tw16850099259920702776:=0
def tw4699417176422195921:=0
def tw10715127673756805529:=0
def tw4414587140644718506:=0
def tw1122148419929832342:=0
def tw8073656334409675107:=0
def tw12670885429414050627:=0
def tw5516278440268957664:=0
def tw4639032318208763939:=0
def tw8625245211565217177:=0
def tw5412397169973091337:=0
def tw9533760877184624442:=0
def tw4811585907525448421:=0
def tw2359138413822671974:=0
def tw14139865970543233408:=0
def tw677725214375803373:=0
def tw5257123240651985637:=0
def tw5752431007488434340:=0
def tw9277391394028966946:=0
def tw12126097721796861745:=0
def tw8129955954432381451:=0
def tw7558297637185121340:=0
def tw1376484553144163761:=0
def tw4042814530949985068:=0
def tw12776484180866750867:=0
def tw14204351751429981330:=0
def tw4136926117226336628:=0
def tw15979912293905148086:=0
def tw199457099489313519:=0
def tw1278910535633094607:=0
def tw4007496351422754348:=0
def tw17617002726518399114:=0
def tw1038278764709344979:=0
def tw16734403016017251686:=0
def tw9417242077745530503:=0
def tw3311743505763818348:=0
def tw15456785657936405246:=0
def tw14526806357066052320:=0
def tw15649946238067159629:=0
def tw14612086840088116696:=0
def tw4184800867991222364:=0
def tw11586668676440776646:=0
def tw500813863090899646:=0
def tw8797489686170984132:=0
def tw13970229264816815626:=0
def tw229235871472357044:=0
def tw11462760171152491404:=0
def tw14035365611809986840:=0
def tw14022729324923682133:=0
def tw7616024909148901897:=0
def tw15672212856058193559:=0
def tw7572269360848805974:=0
def tw4187120557191967679:=0
def tw2866563556989788081:=0
def tw2252739614795514081:=0
def tw12593338153807462594:=0
def tw17409524845041886278:=0
def tw17711097874899397149:=0
def tw17411975203847386630:=0
def tw7523843172082775306:=0
def tw17251120732554126189:=0
def tw7468260353588759874:=0
def tw11034279994197371:=0
def tw10584284528831571290:=0
def tw1322206334290460830:=0
def tw13333759598279354690:=0
def tw1949290419881129787:=0
def tw3715125802627301577:=0
def tw12668556384093039906:=0
def tw18332949473403743210:=0
def tw4721153659383898412:=0
def tw9264829732398761442:=0
def tw598688750215137357:=0
def tw4292219997780598320:=0
def tw15041872941981972760:=0
def tw14421403742727476431:=0
def tw10495001073264421455:=0
def tw5724908023738307803:=0
def tw4501523650513501700:=0
def tw6544306697819530453:=0
def tw5163813117704372980:=0
def tw9766551673197235290:=0
def tw824033717907467067:=0
def tw10852653313640481208:=0
def tw17783004163653995076:=0
def tw3509693021599519809:=0
def tw16038193292370856822:=0
def tw13364066140481365811:=0
def tw4853799679661060713:=0
def tw17110965566544897730:=0
def tw15719849933362678827:=0
def tw15990257927404973156:=0
def tw13988403708140533592:=0
def tw485977901028447359:=0
def tw29766441827108380:=0
def tw17271788019341031550:=0
def tw3008350726670823085:=0
def tw1431666615589398998:=0
def tw16274418174027909999:=0
def tw12207112976412690926:=0
def tw16182571732868778528:=0
def tw14858904324208012184:=0
def tw11889180696799794886:=0
def tw16100173790528448866:=0
def tw13229263042862216893:=0
def tw8589556546262191473:=0
def tw8313259831577911928:=0
def tw5118466702865324488:=0
def tw9859555236730864273:=0
def tw6158737963104794527:=0
def tw1686336265869285276:=0
def tw12431571231883125965:=0
def tw13655758804475211882:=0
def tw2866460275491293970:=0
def tw4533310613560280574:=0
def tw7792095349556303758:=0
def tw17071863610121390882:=0
def tw2325900314963395926:=0
def tw11485061876835333359:=0
def tw12063186366505598620:=0
def tw4172590130889519461:=0
def tw599461855281423353:=0
def tw6229001094817536760:=0
def tw1206418627891991121:=0
def tw15382281014835067740:=0
def tw17404108761836892938:=0
def tw6733436328236442942:=0
def tw16242688689028612571:=0
def tw55116950877501079:=0
def tw8805066605328803352:=0
def tw9617081386006793481:=0
def tw1360334217219789189:=0
def tw5948810874843247416:=0
def tw17193202083358730261:=0
def tw9983485046492769305:=0
def tw7574341986003025512:=0
def tw5949873154227598595:=0
def tw9402627133867470603:=0
def tw9692299211422978374:=0
def tw7954924312749740746:=0
def tw10274107723224124534:=0
def tw7467122991941397028:=0
def tw1539111783085043355:=0
def tw15159777427664062210:=0
def tw4375424719807062653:=0
def tw15313903801541603122:=0
def tw2466168789125412919:=0
def tw5958389795183787462:=0
def tw17732319539751831081:=0
def tw16014960654545419637:=0
def tw16801884797587401002:=0
def tw5155298076814215892:=0
def tw10083235133990579464:=0
def tw5302964249714764603:=0
def tw10895298563280056275:=0
def tw17658437567999668971:=0
def tw12371517464963610824:=0
def tw2386245760215584711:=0
def tw1166270746327873247:=0
def tw4096673305420210329:=0
def tw5698889992863787347:=0
def tw14784725301078637967:=0
def tw957702616393544931:=0
def tw16388322550203118080:=0
def tw2149175213407576863:=0
def tw17438268967490884126:=0
def tw9777694418687999878:=0
def tw8202379001615745956:=0
def tw7843004246762229694:=0
def tw63261703336285085:=0
def tw16171507605607813947:=0
def tw4995695949311996790:=0
def tw4333066166489606304:=0
def tw11637098250771434425:=0
def tw12834948610676102799:=0
def tw16771796242409294131:=0
def tw17528010707124747979:=0
def tw2890030999519625240:=0
def tw12820177211657921776:=0
def tw1475120080666607889:=0
def tw8382669252232894841:=0
def tw17902758804289745491:=0
def tw4319494902785044741:=0
def tw7627839977531414517:=0
def tw7240351906994418621:=0
def tw12407968769641262455:=0
def tw11307438423291361081:=0
def tw5307568652708267725:=0
def tw14257557042735983901:=0
def tw18114047637501300385:=0
def tw2849394197001452383:=0
def tw4804797105047939355:=0
def tw3327612731143382564:=0
def tw16797390953898582911:=0
def tw17707971524650209467:=0
def tw14972042375557400781:=0
def tw6682289065601205727:=0
def tw7201759508652448039:=0
def tw6888586697519444898:=0
def tw15753527268739612798:=0
def tw13769644631004626618:=0
def tw8400041927570226491:=0
def tw15283729505474433556:=0
def tw2714721288688422745:=0
def tw5502866011378062636:=0
def tw12736388737302650758:=0
def tw2034717222827059088:=0
def tw12336437511941927702:=0
def tw3677922341369155274:=0
def tw3344928412121092958:=0
def tw599622308204246284:=0
def tw10123881791742058018:=0
def tw11570516070529965363:=0
def tw15100062194367532338:=0
def tw14266837556729408681:=0
def tw2357979634169601989:=0
def tw2809057528518171778:=0
def tw11271210200667549337:=0
def tw14585260294352799699:=0
def tw6585704682798968198:=0
def tw430606923877441996:=0
def tw3495854210391332277:=0
def tw12273711559525612390:=0
def tw14986870946727821169:=0
def tw485819828128958178:=0
def tw13526401786357044049:=0
def tw9348036749528666689:=0
def tw17448532561358663824:=0
def tw12659164446443274421:=0
def tw1839068086878845311:=0
def tw3513671198847112682:=0
def tw5725373881706590224:=0
def tw5987193103649678510:=0
def tw10371229419773055025:=0
def tw13063759123077235090:=0
def tw14388693206935083199:=0
def tw11184633250872490789:=0
def tw3507975374912441351:=0
def tw15004070584206412775:=0
def tw7730566393072029929:=0
def tw11656249054960926087:=0
def tw17381912823150083685:=0
def tw4509895545726645747:=0
def tw7559034845187566001:=0
def tw17737102995559388584:=0
def tw16845805101629151653:=0
def tw12973483397985198209:=0
def tw2690334747643899848:=0
def tw5799948826741534193:=0
def tw661390837537985292:=0
def tw13398176913155849280:=0
def tw6075930146653953741:=0
def tw10897148229717230078:=0
def tw18130085684580837270:=0
def tw18305089146720612029:=0
def tw17422504225303055008:=0
def tw10949838277525758712:=0
def tw9101550217530660776:=0
def tw6989220203628252692:=0
def tw8243425195831929476:=0
def tw2293610994681153908:=0
def tw3139322210972574333:=0
def tw14973496192273553397:=0
def tw6414145845338299983:=0
def tw9560083155148160499:=0
def tw2210604768736409909:=0
def tw357642855302839313:=0
def tw13532932188197416032:=0
def tw17576428272550298538:=0
def tw12620067028226770884:=0
def tw11229979903117407015:=0
def tw18173552385887532909:=0
def tw5096670896795405807:=0
def tw5585146395822872935:=0
def tw6891125324627821245:=0
def tw12661846453257901111:=0
def tw8326645706558685460:=0
def tw9177412426028924383:=0
def tw635876491497364224:=0
def tw15129848235240037793:=0
def tw18257089642774615367:=0
def tw16082298477134362711:=0
def tw6598749511507348371:=0
def tw15796130784306181004:=0
def tw1794533113866202163:=0
def tw10824885901066702773:=0
def tw15265863187605129442:=0
def tw6028503961118946954:=0
def tw1639456045031084422:=0
def tw14811115516741354574:=0
def tw5211721229650926272:=0
def tw4822590365664517821:=0
def tw9960452893495542552:=0
def tw4808735937045032386:=0
def tw10207356621577218402:=0
def tw11631667036472224116:=0
def tw12047430425437822681:=0
def tw9564751805804305132:=0
def tw1315522199518384839:=0
def tw2884483899503809070:=0
def tw709971829704473511:=0
def tw14926532533406511251:=0
def tw1331829898015810560:=0
def tw4247793619068561961:=0
def tw6005426750552582845:=0
def tw9326986671834239162:=0
def tw16587290942103452487:=0
def tw11729956627551063756:=0
def tw6973205764569430443:=0
def tw14723846311204914694:=0
def tw3750253525997965112:=0
def tw5770630357480108367:=0
def tw14061522936532654326:=0
def tw1430609927781120492:=0
def tw8282091585593724314:=0
def tw1314966542326448703:=0
def tw8538304314076047687:=0
def tw11645894419846640629:=0
def tw158571963901683870:=0
def tw2934155120776012397:=0
def tw3357994176136219155:=0
def tw14120329030318845104:=0
def tw16239551632879177798:=0
def tw2225831645962773597:=0
def tw7232824007297605482:=0
def tw13153456602870016690:=0
def tw1665434331305337097:=0
def tw5036979589601914429:=0
def tw8316049199393019960:=0
def tw14815518779365977960:=0
def tw7174580169316026869:=0
def tw3792577299984765157:=0
def tw9196505392224340803:=0
def tw1111381165551859588:=0
def tw10637572390051074828:=0
def tw13364853171517042563:=0
def tw15453060935306140600:=0
def tw9457597205753271401:=0
def tw335610430721300148:=0
def tw8284870295207834817:=0
def tw3135204971954373565:=0
def tw8251157089028719447:=0
def tw8005448588598483533:=0
def tw2541280423190020711:=0
def tw8758170827596275431:=0
def tw14140768035071987852:=0
def tw1369563422459361448:=0
def tw9476170580309622114:=0
def tw14923142294062305709:=0
def tw4516979165088916852:=0
def tw13779381808717793618:=0
def tw10460761037578862920:=0
def tw1158884892436168267:=0
def tw5995700057114116758:=0
def tw5927402636320006597:=0
def tw10870509505789208206:=0
def tw16888376648728122605:=0
def tw8478986603913943351:=0
def tw12292896777766627234:=0
def tw12850567197625186307:=0
def tw3872912588357921105:=0
def tw5744318848959540795:=0
def tw8433172710089609054:=0
def tw2381005436541418048:=0
def tw17057965766483172651:=0
def tw14950506447570294344:=0
def tw1729362993812719823:=0
def tw1579155774919682723:=0
def tw5193298452461052553:=0
def tw10935067677174794096:=0
def tw10208339292339493621:=0
def tw13518038049529755313:=0
def tw4442350230212309601:=0
def tw13916905663656945903:=0
def tw7814280588718644524:=0
def tw10222181434207552285:=0
def tw14532583721008198124:=0
def tw17209354393987344144:=0
def tw6155859069433467622:=0
def tw12746894789181014303:=0
def tw15556662660410338349:=0
def tw15008494133592213767:=0
def tw5079513514367722864:=0
def tw7879997687438791466:=0
def tw13933061554436976792:=0
def tw6403425091950644318:=0
def tw3776308119837943967:=0
def tw12887606371268273261:=0
def tw7834592161152588740:=0
def tw9615014489064601074:=0
def tw16817148604632692641:=0
def tw9133192537865350771:=0
def tw1253767333618882008:=0
def tw18081124857502530074:=0
def tw6540862156558119893:=0
def tw3861454924814561236:=0
def tw5757252200753072140:=0
def tw17555373986612758703:=0
def tw10921096251230564250:=0
def tw6803889279279107655:=0
def tw5351976996949935335:=0
def tw14474313277191868216:=0
def tw7926355721574612542:=0
def tw14945206553018089863:=0
def tw250179618410582423:=0
def tw2932626417762141684:=0
def tw4933100634441134869:=0
def tw11659146446077333164:=0
def tw9464393794502939571:=0
def tw17997097282577364454:=0
def tw12250658908710080880:=0
def tw10437226695490571857:=0
def tw12846512855741866597:=0
def tw5154047511792120512:=0
def tw3892584488610709118:=0
def tw10931248097599626557:=0
def tw3148649250004672862:=0
def tw12741545923540160861:=0
def tw6762371875966819096:=0
def tw3888735679317566814:=0
def tw12358771375338758657:=0
def tw14463293644598044313:=0
def tw13291933619837529963:=0
def tw2816498861659648449:=0
def tw12826918461185417498:=0
def tw13845134169211184575:=0
def tw9427073801625805832:=0
def tw391525818405250811:=0
def tw5780213573627285507:=0
def tw4703431445258582291:=0
def tw8459761912797856406:=0
def tw5654035716469171480:=0
def tw17875860640841123618:=0
def tw12006319211420818829:=0
def tw12621485760690367271:=0
def tw16209161962612479496:=0
def tw12857451517971582775:=0
def tw15511070478762597159:=0
def tw2688160110119449974:=0
def tw7410966190128911264:=0
def tw15347740310229166697:=0
def tw9826370153641927239:=0
def tw2138576419232811485:=0
def tw9760156273208947617:=0
def tw15069395002008110588:=0
def tw644192864698939774:=0
def tw16691198598430409949:=0
def tw15836341119585306296:=0
def tw4803109659093878168:=0
def tw5102097619378211945:=0
def tw12962149842477796559:=0
def tw3402576112058674508:=0
def tw14167886192239852525:=0
def tw17347391673570292794:=0
def tw15880645358180510784:=0
def tw9410921071549443153:=0
def tw5441076535961243767:=0
def tw16607030956464452881:=0
def tw12008685304840015902:=0
def tw12072836679679034274:=0
def tw3396962765878049951:=0
def tw9887627038443694987:=0
def tw13626058601217210774:=0
def tw13367312713010344876:=0
def tw6657817047852595298:=0
def tw3922664478022023129:=0
def tw15946717129879563149:=0
def tw6271920053860032585:=0
end PySem.W.Fast
set_option maxRecDepth 100000 in
set_option maxHeartbeats 0 in
theorem PySem.Challenge.cw_tentloops_k58_worths_asked_again_holds : PySem.Challenge.rw_tentloops_k58_worths_asked_again.Holds := by
 w_on; o_law; k_head; (case hw=>w_witness2)
 k_fill
 refine L2.walk_r (l:=PySem.Challenge.rw_tentloops_k58_worths_asked_again) (k:=12) (spl:=KT.sp_law) rfl rfl ⟨rfl,by decide,by decide⟩ (fun w h Y=>PySem.W.kIn_of Y) (fun K H a ns hl hS=>KT.sp_law_start hl hS) ?F
 case F =>
  intro w mg fa h KX G hmg
  have T:∃ t,KT.Txt w (L2.KOf KX) mg t:=by
   dsimp only [L2.KOf]
   refine' ⟨⟨_,_,_,_,_,_,_,_,_,_,_,_,_,_,_,_,_,_,_,_,_,_,_,_,_,_,_,_,_,_,_,_,_,_,_,_,_,_,_,_,_,_,_,_,_,_,_,_,_,_,_,_,_,_,_,_,_,_,_,_,_,_,_,_,_,_,_,_,_,_,_,_,_,_,_,_,_,_,_,_,_,_,_,_,_,_,_,_,_,_,_,_,_,_,_,_,_,_,_,_,_,_,_,_,_,_,_,_,_,_,_,_,_,_,_,_,_,_,_,_,_,_,_,_,_,_,_,_,_,_,_,_,_,_,_,_,_,_,_,_,_,_,_,_,_,_,_,_,_,_,_,_,_,_,_,_,_,_,_,_,_⟩,⟨mg_of KX G ?_,⟨?_,?_,?_,?_⟩,?_,?_,?_,?_,mg_of KX G ?_,⟨?_,?_,?_,?_⟩,?_,?_,?_,?_,mg_of KX G ?_,⟨?_,?_,?_,?_⟩,?_,?_,?_,?_,KT.FT.of KX G (KT.ba1 (fun _ _ _ _ _ _ _ _=>rfl) rfl) ?_ ?_ ?_ ?_,KT.FT.of KX G (KT.ba1 (fun _ _ _ _ _ _ _ _=>rfl) rfl) ?_ ?_ ?_ ?_,KT.FT.of KX G (KT.ba1 (fun _ _ _ _ _ _ _ _=>rfl) rfl) ?_ ?_ ?_ ?_,KT.FT.of KX G (KT.ba2 (fun _ _ _ _ _ _ _ _ _=>rfl) rfl) ?_ ?_ ?_ ?_,KT.FM.of (KT.ba2 (fun _ _ _ _ _ _ _ _ _=>rfl) rfl) ?_ ?_ ?_ ?_ ?_,KT.FM.of (KT.ba1 (fun _ _ _ _ _ _ _ _=>rfl) rfl) ?_ ?_ ?_ ?_ ?_,KT.FM.of (KT.ba2 (fun _ _ _ _ _ _ _ _ _=>rfl) rfl) ?_ ?_ ?_ ?_ ?_,KT.FM.of (KT.ba2 (fun _ _ _ _ _ _ _ _ _=>rfl) rfl) ?_ ?_ ?_ ?_ ?_,KT.FM.of (KT.ba2 (fun _ _ _ _ _ _ _ _ _=>rfl) rfl) ?_ ?_ ?_ ?_ ?_,KT.FM.of (KT.ba2 (fun _ _ _ _ _ _ _ _ _=>rfl) rfl) ?_ ?_ ?_ ?_ ?_,KT.FM.of (KT.ba2 (fun _ _ _ _ _ _ _ _ _=>rfl) rfl) ?_ ?_ ?_ ?_ ?_,KT.FM.of (KT.ba2 (fun _ _ _ _ _ _ _ _ _=>rfl) rfl) ?_ ?_ ?_ ?_ ?_,KT.FT.of KX G (KT.ba2 (fun _ _ _ _ _ _ _ _ _=>rfl) rfl) ?_ ?_ ?_ ?_,KT.FT.of KX G (KT.ba3 (fun _ _ _ _ _ _ _ _ _ _=>rfl) rfl) ?_ ?_ ?_ ?_,KT.FT.of KX G (KT.ba2 (fun _ _ _ _ _ _ _ _ _=>rfl) rfl) ?_ ?_ ?_ ?_,KT.FT.of KX G (KT.ba2 (fun _ _ _ _ _ _ _ _ _=>rfl) rfl) ?_ ?_ ?_ ?_,KT.FT.of KX G (KT.ba2 (fun _ _ _ _ _ _ _ _ _=>rfl) rfl) ?_ ?_ ?_ ?_,KT.FT.of KX G (KT.ba2 (fun _ _ _ _ _ _ _ _ _=>rfl) rfl) ?_ ?_ ?_ ?_,KT.FT.of KX G (KT.ba1 (fun _ _ _ _ _ _ _ _=>rfl) rfl) ?_ ?_ ?_ ?_,KT.FT.of KX G (KT.ba2 (fun _ _ _ _ _ _ _ _ _=>rfl) rfl) ?_ ?_ ?_ ?_,KT.FT.of KX G (KT.ba3 (fun _ _ _ _ _ _ _ _ _ _=>rfl) rfl) ?_ ?_ ?_ ?_,KT.FT.of KX G (KT.ba3 (fun _ _ _ _ _ _ _ _ _ _=>rfl) rfl) ?_ ?_ ?_ ?_,KT.FT.of KX G (KT.ba2 (fun _ _ _ _ _ _ _ _ _=>rfl) rfl) ?_ ?_ ?_ ?_,KT.FT.of KX G (KT.ba2 (fun _ _ _ _ _ _ _ _ _=>rfl) rfl) ?_ ?_ ?_ ?_,KT.FT.of KX G (KT.ba2 (fun _ _ _ _ _ _ _ _ _=>rfl) rfl) ?_ ?_ ?_ ?_,KT.FT.of KX G (KT.ba2 (fun _ _ _ _ _ _ _ _ _=>rfl) rfl) ?_ ?_ ?_ ?_,KT.FT.of KX G (KT.ba1 (fun _ _ _ _ _ _ _ _=>rfl) rfl) ?_ ?_ ?_ ?_,KT.FT.of KX G (KT.ba1 (fun _ _ _ _ _ _ _ _=>rfl) rfl) ?_ ?_ ?_ ?_,KT.FT.of KX G (KT.ba2 (fun _ _ _ _ _ _ _ _ _=>rfl) rfl) ?_ ?_ ?_ ?_,KT.FT.of KX G (KT.ba2 (fun _ _ _ _ _ _ _ _ _=>rfl) rfl) ?_ ?_ ?_ ?_,KT.FT.of KX G (KT.ba2 (fun _ _ _ _ _ _ _ _ _=>rfl) rfl) ?_ ?_ ?_ ?_,KT.FT.of KX G (KT.ba3 (fun _ _ _ _ _ _ _ _ _ _=>rfl) rfl) ?_ ?_ ?_ ?_,KT.FT.of KX G (KT.ba2 (fun _ _ _ _ _ _ _ _ _=>rfl) rfl) ?_ ?_ ?_ ?_,KT.FT.of KX G (KT.ba1 (fun _ _ _ _ _ _ _ _=>rfl) rfl) ?_ ?_ ?_ ?_,KT.FT.of KX G (KT.ba1 (fun _ _ _ _ _ _ _ _=>rfl) rfl) ?_ ?_ ?_ ?_,KT.FT.of KX G (KT.ba1 (fun _ _ _ _ _ _ _ _=>rfl) rfl) ?_ ?_ ?_ ?_,KT.FM.of (KT.ba5 (fun _ _ _ _ _ _ _ _ _ _ _ _=>rfl) rfl) ?_ ?_ ?_ ?_ ?_,KT.FT.of KX G (KT.ba3 (fun _ _ _ _ _ _ _ _ _ _=>rfl) rfl) ?_ ?_ ?_ ?_,KT.FT.of KX G (KT.ba2 (fun _ _ _ _ _ _ _ _ _=>rfl) rfl) ?_ ?_ ?_ ?_,KT.FT.of KX G (KT.ba2 (fun _ _ _ _ _ _ _ _ _=>rfl) rfl) ?_ ?_ ?_ ?_,KT.FT.of KX G (KT.ba1 (fun _ _ _ _ _ _ _ _=>rfl) rfl) ?_ ?_ ?_ ?_,KT.FT.of KX G (KT.ba1 (fun _ _ _ _ _ _ _ _=>rfl) rfl) ?_ ?_ ?_ ?_,KT.FM.of (KT.ba2 (fun _ _ _ _ _ _ _ _ _=>rfl) rfl) ?_ ?_ ?_ ?_ ?_,KT.FM.of (KT.ba3 (fun _ _ _ _ _ _ _ _ _ _=>rfl) rfl) ?_ ?_ ?_ ?_ ?_,KT.FM.of (KT.ba3 (fun _ _ _ _ _ _ _ _ _ _=>rfl) rfl) ?_ ?_ ?_ ?_ ?_,KT.FM.of (KT.ba2 (fun _ _ _ _ _ _ _ _ _=>rfl) rfl) ?_ ?_ ?_ ?_ ?_,KT.FM.of (KT.ba4 (fun _ _ _ _ _ _ _ _ _ _ _=>rfl) rfl) ?_ ?_ ?_ ?_ ?_,KT.FM.of (KT.ba1 (fun _ _ _ _ _ _ _ _=>rfl) rfl) ?_ ?_ ?_ ?_ ?_,KT.FM.of (KT.ba1 (fun _ _ _ _ _ _ _ _=>rfl) rfl) ?_ ?_ ?_ ?_ ?_,KT.FM.of (KT.ba1 (fun _ _ _ _ _ _ _ _=>rfl) rfl) ?_ ?_ ?_ ?_ ?_,KT.FM.of (KT.ba2 (fun _ _ _ _ _ _ _ _ _=>rfl) rfl) ?_ ?_ ?_ ?_ ?_,KT.FM.of (KT.ba2 (fun _ _ _ _ _ _ _ _ _=>rfl) rfl) ?_ ?_ ?_ ?_ ?_,KT.FM.of (KT.ba3 (fun _ _ _ _ _ _ _ _ _ _=>rfl) rfl) ?_ ?_ ?_ ?_ ?_,KT.FT.of KX G (KT.ba1 (fun _ _ _ _ _ _ _ _=>rfl) rfl) ?_ ?_ ?_ ?_,KT.FT.of KX G (KT.ba2 (fun _ _ _ _ _ _ _ _ _=>rfl) rfl) ?_ ?_ ?_ ?_,KT.FT.of KX G (KT.ba2 (fun _ _ _ _ _ _ _ _ _=>rfl) rfl) ?_ ?_ ?_ ?_,KT.FT.of KX G (KT.ba2 (fun _ _ _ _ _ _ _ _ _=>rfl) rfl) ?_ ?_ ?_ ?_,KT.FT.of KX G (KT.ba4 (fun _ _ _ _ _ _ _ _ _ _ _=>rfl) rfl) ?_ ?_ ?_ ?_,KT.FT.of KX G (KT.ba2 (fun _ _ _ _ _ _ _ _ _=>rfl) rfl) ?_ ?_ ?_ ?_,KT.FT.of KX G (KT.ba2 (fun _ _ _ _ _ _ _ _ _=>rfl) rfl) ?_ ?_ ?_ ?_,KT.FT.of KX G (KT.ba2 (fun _ _ _ _ _ _ _ _ _=>rfl) rfl) ?_ ?_ ?_ ?_,KT.FT.of KX G (KT.ba2 (fun _ _ _ _ _ _ _ _ _=>rfl) rfl) ?_ ?_ ?_ ?_,KT.FT.of KX G (KT.ba3 (fun _ _ _ _ _ _ _ _ _ _=>rfl) rfl) ?_ ?_ ?_ ?_,KT.FT.of KX G (KT.ba3 (fun _ _ _ _ _ _ _ _ _ _=>rfl) rfl) ?_ ?_ ?_ ?_,KT.FT.of KX G (KT.ba1 (fun _ _ _ _ _ _ _ _=>rfl) rfl) ?_ ?_ ?_ ?_,KT.FT.of KX G (KT.ba2 (fun _ _ _ _ _ _ _ _ _=>rfl) rfl) ?_ ?_ ?_ ?_,KT.FT.of KX G (KT.ba3 (fun _ _ _ _ _ _ _ _ _ _=>rfl) rfl) ?_ ?_ ?_ ?_,KT.FT.of KX G (KT.ba3 (fun _ _ _ _ _ _ _ _ _ _=>rfl) rfl) ?_ ?_ ?_ ?_,KT.FT.of KX G (KT.ba2 (fun _ _ _ _ _ _ _ _ _=>rfl) rfl) ?_ ?_ ?_ ?_,KT.FT.of KX G (KT.ba6 (fun _ _ _ _ _ _ _ _ _ _ _ _ _=>rfl) rfl) ?_ ?_ ?_ ?_,KT.FT.of KX G (KT.ba1 (fun _ _ _ _ _ _ _ _=>rfl) rfl) ?_ ?_ ?_ ?_,⟨?_,?_,?_,?_⟩,⟨?_,?_,?_,?_⟩,⟨?_,?_,?_,?_⟩,mg_of KX G ?_,mg_of KX G ?_,mg_of KX G ?_,mg_of KX G ?_,mg_of KX G ?_,mg_of KX G ?_,mg_of KX G ?_,mg_of KX G ?_,L2.kdict_mk2 ?_ ?_ ?_ (by decide) ?_,fun s u=>.of_eq rfl,mg_none_of KX G ?_,mg_none_of KX G ?_,mg_none_of KX G ?_,mg_none_of KX G ?_,mg_none_of KX G ?_,mg_none_of KX G ?_,mg_none_of KX G ?_,mg_none_of KX G ?_,mg_none_of KX G ?_,mg_none_of KX G ?_,mg_none_of KX G ?_,mg_none_of KX G ?_,mg_none_of KX G ?_,mg_none_of KX G ?_,mg_none_of KX G ?_,mg_none_of KX G ?_,mg_of KX G ?_,⟨?_⟩,mg_of KX G ?_,⟨?_⟩,mg_of KX G ?_,⟨?_⟩,mg_of KX G ?_,⟨?_⟩,mg_of KX G ?_,⟨?_⟩,mg_of KX G ?_,⟨?_⟩,mg_of KX G ?_,⟨?_⟩,mg_of KX G ?_,⟨?_⟩⟩⟩
   any_goals first | k_is | k_exc | rfl | kernel_rfl
  obtain ⟨t,T⟩:=T
  have e0:=hmg.symm.trans T.p_law.g
  cases e0
  refine' ⟨_,?b,fun base kb nb=>KT.ok_law T⟩
  exact T.bl
#print axioms PySem.Challenge.cw_tentloops_k58_worths_asked_again_holds
